/-
  Texts of one seat, one behind the other: Ck, Cu.
-/
import Derived.BigQuiet
import Derived.Test.YtepkogfiojkcpaaDoorMA3

set_option linter.unusedVariables false
set_option linter.unusedSimpArgs false
set_option maxRecDepth 100000
set_option maxHeartbeats 51200000
namespace Go.Proofs.YtepkogfiojkcpaaDoor
open Go.ChangeShapes Go.WideShapes Go.ChangeAt Go.RowKit
def ixOf {α:Type} (f:α→Bool) (l:List α):Int:=if l.any f then (l.findIdx f:Int) else -1
theorem ix_at {α:Type} {f:α→Bool} {l:List α} {k:Nat} {x:α} (hx:l[k]?=some x) (hf:f x=true) (hb:∀ y ∈ l.take k,f y=false):ixOf f l=k:=by
 have hk:=(List.getElem?_eq_some_iff.1 hx).1
 have hxe:=(List.getElem?_eq_some_iff.1 hx).2
 unfold ixOf
 rw [if_pos (List.any_eq_true.2 ⟨x,List.mem_of_getElem? hx,hf⟩)]
 congr 1
 rw [List.findIdx_eq hk]
 refine ⟨by rw [hxe];exact hf,fun j hj=>hb _ ?_⟩
 rw [List.mem_iff_getElem?]
 exact ⟨j,by rw [List.getElem?_take,if_pos hj,List.getElem?_eq_getElem (by omega)]⟩
theorem ix_none {α:Type} {f:α→Bool} {l:List α} (hb:∀ y ∈ l,f y=false):ixOf f l=-1:=by
 unfold ixOf
 rw [if_neg]
 intro h
 obtain ⟨x,hx,hf⟩:=List.any_eq_true.1 h
 rw [hb x hx] at hf
 cases hf
theorem ix_nonneg {α:Type} (f:α→Bool) (l:List α):decide (ixOf f l≥0)=l.any f:=by
 unfold ixOf
 cases h:l.any f
 ·simp
 ·simp
theorem take_mem_snoc {α:Type} {f:α→Bool} {l:List α} {k:Nat} {x:α} (hx:l[k]?=some x) (hf:f x=false) (hb:∀ y ∈ l.take k,f y=false):∀ y ∈ l.take (k+1),f y=false:=by
 intro y hy
 rw [List.take_add_one,hx] at hy
 rcases List.mem_append.1 hy with hy | hy
 ·exact hb y hy
 ·simp at hy;subst hy;exact hf

theorem isOne_any (i n:Int) (w:World):Calls Tryd.prog 103 #[.int .i64 i,.int .i64 n] w fun e w'=>e=.returned (.bool (decide (isOne i n)))∧w'=w:=by
 by_cases h0:0≤i
 ·have g0:decide (i≥0)=true:=by simpa using h0
  have HD:Hid (decide (isOne i n)=decide (i<n)):=Lib.hid (by unfold isOne;simp [h0])
  clear h0
  go_enter Tryd.func103,Tryd.ntmps103
  go_wp2
  go_ret
  exact ⟨by rw [HD.out];rfl,rfl⟩
 ·have g0:decide (i≥0)=false:=by simp;omega
  have HD:Hid (decide (isOne i n)=false):=Lib.hid (by unfold isOne;simp [h0])
  clear h0
  go_enter Tryd.func103,Tryd.ntmps103
  go_wp2
  go_ret
  exact ⟨by rw [HD.out];rfl,rfl⟩
theorem kinds1_any (k:Int) (w:World):Calls Tryd.prog 110 #[.int .u8 k] w fun e w'=>e=.returned (.bool (k != 0 && k != 1))∧w'=w:=by
 cases h:(k != 0)
 all_goals
  go_enter Tryd.func110,Tryd.ntmps110
  go_wp2
  go_ret
  exact ⟨rfl,rfl⟩
theorem exist1_any (b nK kc:Nat) (ko:Option Addr) (p:Int) (w:World) (h:w.cell? ⟨b,2,none⟩=some (.slice ko nK kc)) :
  Calls Tryd.prog 122 #[.int .i64 p,.pointer (some ⟨b,0,none⟩)] w fun e w'=>e=.returned (.bool (!decide (isOne p nK)))∧w'=w:=by
 go_enter Tryd.func122,Tryd.ntmps122
 go_wp2_with (first | (go_at_call 103;refine (isOne_any _ _ _).mono ?_;rintro e w2 ⟨rfl,rfl⟩))
 go_ret
 exact ⟨rfl,by first | rfl | trivial⟩
theorem breaks1_any (b nN nc:Nat) (no:Option Addr) (p:Int) (w:World) (h:w.cell? ⟨b,7,none⟩=some (.slice no nN nc)) :
  Calls Tryd.prog 105 #[.int .i64 p,.pointer (some ⟨b,0,none⟩)] w fun e w'=>e=.returned (.bool (!decide (isOne p nN)))∧w'=w:=by
 go_enter Tryd.func105,Tryd.ntmps105
 go_wp2_with (first | (go_at_call 103;refine (isOne_any _ _ _).mono ?_;rintro e w2 ⟨rfl,rfl⟩))
 go_ret
 exact ⟨rfl,by first | rfl | trivial⟩
theorem are1_any (B b b2 nK kc:Nat) (ko:Option Addr) (ks:List Int) (k p:Int) (w:World) (h:w.cell? ⟨b,2,none⟩=some (.slice ko nK kc)) (h2:w.cell? ⟨b2,0,none⟩=some (.int .u8 k)) (hk:Reads w B 1 ko nK (u8c ks)) (hl:ks.length=nK) (hp:isOne p nK) :
  Calls Tryd.prog 121 #[.int .i64 p,.pointer (some ⟨b,0,none⟩),.pointer (some ⟨b2,0,none⟩)] w fun e w'=>e=.returned (.bool (!decide (kindAt ks p=k)))∧∃ q,w'=w.drewN q:=by
 obtain ⟨j,rfl⟩:∃ j:Nat,p=(j:Int):=⟨p.toNat,by have:=hp.1;omega⟩
 have hj:j<nK:=by have:=hp.2;omega
 obtain ⟨bk,off,x,rfl,_,HX,x1⟩:=hk.byte hj
 have hx:kindAt ks j=x:=by unfold kindAt;simp [List.getD,HX.out]
 have HD:Hid ((x != k)=!decide (kindAt ks j=k)):=Lib.hid (by rw [hx];by_cases e:x=k <;> simp [e])
 clear hk hx hp
 go_enter Tryd.func121,Tryd.ntmps121
 go_wp2
 go_quiet (fail)
 go_wp2
 go_ret
 exact ⟨by rw [← HD.out];rfl,_,rfl⟩

theorem index_kinds (B:Nat) (A:Option Addr) (n c:Nat) (l:List Int) (f:Int→Bool) (w:World) (h:Reads w B 1 A n (u8c l)) (hn:l.length=n) (hnb:n≤140737488351232)
  (hP:∀ p ∈ l,Calls Tryd.prog 110 #[.int .u8 p] w fun e w'=>e=.returned (.bool (f p))∧w'=w) :
  Calls Tryd.prog 120 #[.slice A n c,.func (.func 110) #[] #[]] w fun e w'=>e=.returned (.int .i64 (ixOf f l))∧w'=w:=by
 have H:=Lib.hid h
 have HN:=Lib.hid hn
 have HP:=Lib.hid hP
 clear h hn hP
 go_enter Tryd.func120,Tryd.ntmps120
 go_wp2
 go_loopw [8] (fun i wr=>∃ k:Nat,k≤n∧i=.int .i64 k∧Hid (∀ y ∈ l.take k,f y=false)∧wr=w) (fun i _=>n-(intOf i).toNat)
 case atStart=>exact ⟨0,Nat.zero_le _,rfl,Lib.hid (by simp),rfl⟩
 case round =>
  obtain ⟨k,hk,rfl,HB,rfl⟩:=hrel
  by_cases hlt:k<n
  ·obtain ⟨b,off,x,rfl,hb,HX,x1⟩:=H.out.byte hlt
   have HC:=Lib.hid (HP.out x (List.mem_of_getElem? HX.out))
   cases hf:f x
   ·have HQ:=Lib.hid (take_mem_snoc HX.out hf HB.out)
    go_wp2_with (first | (go_at_call 110;refine HC.out.mono ?_;rintro e w2 ⟨rfl,rfl⟩;rw [hf]))
    go_roundw
    case rel=>exact ⟨k+1,by omega,by go_num,HQ,by first | rfl | trivial⟩
    case measure=>simp [intOf];omega
   ·have HQ:=Lib.hid (ix_at HX.out hf HB.out)
    go_wp2_with (first | (go_at_call 110;refine HC.out.mono ?_;rintro e w2 ⟨rfl,rfl⟩;rw [hf]))
    go_ret
    exact ⟨by rw [HQ.out];rfl,by first | rfl | trivial⟩
  ·obtain rfl:n=k:=by omega
   have HQ:=Lib.hid (ix_none (f:=f) (l:=l) (by have:=HB.out;rwa [List.take_of_length_le (by rw [HN.out];omega)] at this))
   go_wp2
   go_ret
   exact ⟨by rw [HQ.out];rfl,by first | rfl | trivial⟩
theorem contains_kinds (B:Nat) (A:Option Addr) (n c:Nat) (l:List Int) (f:Int→Bool) (w:World) (h:Reads w B 1 A n (u8c l)) (hn:l.length=n) (hnb:n≤140737488351232)
  (hP:∀ p ∈ l,Calls Tryd.prog 110 #[.int .u8 p] w fun e w'=>e=.returned (.bool (f p))∧w'=w) :
  Calls Tryd.prog 109 #[.slice A n c,.func (.func 110) #[] #[]] w fun e w'=>e=.returned (.bool (l.any f))∧w'=w:=by
 have HI:=Lib.hid (index_kinds B A n c l f w h hn hnb hP)
 have HD:=Lib.hid (ix_nonneg f l)
 clear h hn hP
 obtain ⟨z,hz⟩:∃ z,z=ixOf f l:=⟨_,rfl⟩
 rw [← hz] at HI HD
 clear hz
 go_enter Tryd.func109,Tryd.ntmps109
 go_wp2_with (first | (go_at_call 120;refine HI.out.mono ?_;rintro e w2 ⟨rfl,rfl⟩))
 go_ret
 exact ⟨by rw [← HD.out];rfl,by first | rfl | trivial⟩

theorem index_exist (B:Nat) (A:Option Addr) (n c:Nat) (l:List Int) (b:Nat) (f:Int→Bool) (w:World) (h:Reads w B 1 A n (i64c l)) (hn:l.length=n) (hnb:n≤140737488351232)
  (hP:∀ p ∈ l,Calls Tryd.prog 122 #[.int .i64 p,.pointer (some ⟨b,0,none⟩)] w fun e w'=>e=.returned (.bool (f p))∧w'=w) :
  Calls Tryd.prog 118 #[.slice A n c,.func (.func 122) #[] #[.pointer (some ⟨b,0,none⟩)]] w fun e w'=>e=.returned (.int .i64 (ixOf f l))∧w'=w:=by
 have H:=Lib.hid h
 have HN:=Lib.hid hn
 have HP:=Lib.hid hP
 clear h hn hP
 go_enter Tryd.func118,Tryd.ntmps118
 go_wp2
 go_loopw [8] (fun i wr=>∃ k:Nat,k≤n∧i=.int .i64 k∧Hid (∀ y ∈ l.take k,f y=false)∧wr=w) (fun i _=>n-(intOf i).toNat)
 case atStart=>exact ⟨0,Nat.zero_le _,rfl,Lib.hid (by simp),rfl⟩
 case round =>
  obtain ⟨k,hk,rfl,HB,rfl⟩:=hrel
  by_cases hlt:k<n
  ·obtain ⟨b,off,x,rfl,hb,HX,x1⟩:=H.out.int hlt
   have HC:=Lib.hid (HP.out x (List.mem_of_getElem? HX.out))
   cases hf:f x
   ·have HQ:=Lib.hid (take_mem_snoc HX.out hf HB.out)
    go_wp2_with (first | (go_at_call 122;refine HC.out.mono ?_;rintro e w2 ⟨rfl,rfl⟩;rw [hf]))
    go_roundw
    case rel=>exact ⟨k+1,by omega,by go_num,HQ,by first | rfl | trivial⟩
    case measure=>simp [intOf];omega
   ·have HQ:=Lib.hid (ix_at HX.out hf HB.out)
    go_wp2_with (first | (go_at_call 122;refine HC.out.mono ?_;rintro e w2 ⟨rfl,rfl⟩;rw [hf]))
    go_ret
    exact ⟨by rw [HQ.out];rfl,by first | rfl | trivial⟩
  ·obtain rfl:n=k:=by omega
   have HQ:=Lib.hid (ix_none (f:=f) (l:=l) (by have:=HB.out;rwa [List.take_of_length_le (by rw [HN.out];omega)] at this))
   go_wp2
   go_ret
   exact ⟨by rw [HQ.out];rfl,by first | rfl | trivial⟩
theorem contains_exist (B:Nat) (A:Option Addr) (n c:Nat) (l:List Int) (b:Nat) (f:Int→Bool) (w:World) (h:Reads w B 1 A n (i64c l)) (hn:l.length=n) (hnb:n≤140737488351232)
  (hP:∀ p ∈ l,Calls Tryd.prog 122 #[.int .i64 p,.pointer (some ⟨b,0,none⟩)] w fun e w'=>e=.returned (.bool (f p))∧w'=w) :
  Calls Tryd.prog 107 #[.slice A n c,.func (.func 122) #[] #[.pointer (some ⟨b,0,none⟩)]] w fun e w'=>e=.returned (.bool (l.any f))∧w'=w:=by
 have HI:=Lib.hid (index_exist B A n c l b f w h hn hnb hP)
 have HD:=Lib.hid (ix_nonneg f l)
 clear h hn hP
 obtain ⟨z,hz⟩:∃ z,z=ixOf f l:=⟨_,rfl⟩
 rw [← hz] at HI HD
 clear hz
 go_enter Tryd.func107,Tryd.ntmps107
 go_wp2_with (first | (go_at_call 118;refine HI.out.mono ?_;rintro e w2 ⟨rfl,rfl⟩))
 go_ret
 exact ⟨by rw [← HD.out];rfl,by first | rfl | trivial⟩

theorem index_breaks1 (B:Nat) (A:Option Addr) (n c:Nat) (l:List Int) (b:Nat) (f:Int→Bool) (w:World) (h:Reads w B 1 A n (i64c l)) (hn:l.length=n) (hnb:n≤140737488351232)
  (hP:∀ p ∈ l,Calls Tryd.prog 105 #[.int .i64 p,.pointer (some ⟨b,0,none⟩)] w fun e w'=>e=.returned (.bool (f p))∧w'=w) :
  Calls Tryd.prog 118 #[.slice A n c,.func (.func 105) #[] #[.pointer (some ⟨b,0,none⟩)]] w fun e w'=>e=.returned (.int .i64 (ixOf f l))∧w'=w:=by
 have H:=Lib.hid h
 have HN:=Lib.hid hn
 have HP:=Lib.hid hP
 clear h hn hP
 go_enter Tryd.func118,Tryd.ntmps118
 go_wp2
 go_loopw [8] (fun i wr=>∃ k:Nat,k≤n∧i=.int .i64 k∧Hid (∀ y ∈ l.take k,f y=false)∧wr=w) (fun i _=>n-(intOf i).toNat)
 case atStart=>exact ⟨0,Nat.zero_le _,rfl,Lib.hid (by simp),rfl⟩
 case round =>
  obtain ⟨k,hk,rfl,HB,rfl⟩:=hrel
  by_cases hlt:k<n
  ·obtain ⟨b,off,x,rfl,hb,HX,x1⟩:=H.out.int hlt
   have HC:=Lib.hid (HP.out x (List.mem_of_getElem? HX.out))
   cases hf:f x
   ·have HQ:=Lib.hid (take_mem_snoc HX.out hf HB.out)
    go_wp2_with (first | (go_at_call 105;refine HC.out.mono ?_;rintro e w2 ⟨rfl,rfl⟩;rw [hf]))
    go_roundw
    case rel=>exact ⟨k+1,by omega,by go_num,HQ,by first | rfl | trivial⟩
    case measure=>simp [intOf];omega
   ·have HQ:=Lib.hid (ix_at HX.out hf HB.out)
    go_wp2_with (first | (go_at_call 105;refine HC.out.mono ?_;rintro e w2 ⟨rfl,rfl⟩;rw [hf]))
    go_ret
    exact ⟨by rw [HQ.out];rfl,by first | rfl | trivial⟩
  ·obtain rfl:n=k:=by omega
   have HQ:=Lib.hid (ix_none (f:=f) (l:=l) (by have:=HB.out;rwa [List.take_of_length_le (by rw [HN.out];omega)] at this))
   go_wp2
   go_ret
   exact ⟨by rw [HQ.out];rfl,by first | rfl | trivial⟩
theorem contains_breaks1 (B:Nat) (A:Option Addr) (n c:Nat) (l:List Int) (b:Nat) (f:Int→Bool) (w:World) (h:Reads w B 1 A n (i64c l)) (hn:l.length=n) (hnb:n≤140737488351232)
  (hP:∀ p ∈ l,Calls Tryd.prog 105 #[.int .i64 p,.pointer (some ⟨b,0,none⟩)] w fun e w'=>e=.returned (.bool (f p))∧w'=w) :
  Calls Tryd.prog 107 #[.slice A n c,.func (.func 105) #[] #[.pointer (some ⟨b,0,none⟩)]] w fun e w'=>e=.returned (.bool (l.any f))∧w'=w:=by
 have HI:=Lib.hid (index_breaks1 B A n c l b f w h hn hnb hP)
 have HD:=Lib.hid (ix_nonneg f l)
 clear h hn hP
 obtain ⟨z,hz⟩:∃ z,z=ixOf f l:=⟨_,rfl⟩
 rw [← hz] at HI HD
 clear hz
 go_enter Tryd.func107,Tryd.ntmps107
 go_wp2_with (first | (go_at_call 118;refine HI.out.mono ?_;rintro e w2 ⟨rfl,rfl⟩))
 go_ret
 exact ⟨by rw [← HD.out];rfl,by first | rfl | trivial⟩

theorem index_are (B:Nat) (A:Option Addr) (n c:Nat) (l:List Int) (b b2:Nat) (f:Int→Bool) (w:World) (h:Reads w B 1 A n (i64c l)) (hn:l.length=n) (hnb:n≤140737488351232)
  (hP:∀ q,∀ p ∈ l,Calls Tryd.prog 121 #[.int .i64 p,.pointer (some ⟨b,0,none⟩),.pointer (some ⟨b2,0,none⟩)] (w.drewN q) fun e w'=>e=.returned (.bool (f p))∧∃ q',w'=(w.drewN q).drewN q') :
  Calls Tryd.prog 118 #[.slice A n c,.func (.func 121) #[] #[.pointer (some ⟨b,0,none⟩),.pointer (some ⟨b2,0,none⟩)]] w fun e w'=>e=.returned (.int .i64 (ixOf f l))∧∃ q,w'=w.drewN q:=by
 have H:=Lib.hid h
 have HN:=Lib.hid hn
 have HP:=Lib.hid hP
 clear h hn hP
 go_enter Tryd.func118,Tryd.ntmps118
 go_wp2
 go_loopw [8] (fun i wr=>∃ k q:Nat,k≤n∧i=.int .i64 k∧Hid (∀ y ∈ l.take k,f y=false)∧wr=w.drewN q) (fun i _=>n-(intOf i).toNat)
 case atStart=>exact ⟨0,0,Nat.zero_le _,rfl,Lib.hid (by simp),rfl⟩
 case round =>
  obtain ⟨k,q,hk,rfl,HB,rfl⟩:=hrel
  by_cases hlt:k<n
  ·obtain ⟨b,off,x,rfl,hb,HX,x1⟩:=H.out.int hlt
   have HC:=Lib.hid (HP.out q x (List.mem_of_getElem? HX.out))
   cases hf:f x
   ·have HQ:=Lib.hid (take_mem_snoc HX.out hf HB.out)
    go_wp2_with (first | (go_at_call 121;refine HC.out.mono ?_;rintro e w2 ⟨rfl,q2,rfl⟩;rw [hf]))
    go_roundw
    case rel=>exact ⟨k+1,q+q2,by omega,by go_num,HQ,by first | rfl | exact World.drewN_drewN _ _ _⟩
    case measure=>simp [intOf];omega
   ·have HQ:=Lib.hid (ix_at HX.out hf HB.out)
    go_wp2_with (first | (go_at_call 121;refine HC.out.mono ?_;rintro e w2 ⟨rfl,q2,rfl⟩;rw [hf]))
    go_ret
    exact ⟨by rw [HQ.out];rfl,q+q2,by first | rfl | exact World.drewN_drewN _ _ _⟩
  ·obtain rfl:n=k:=by omega
   have HQ:=Lib.hid (ix_none (f:=f) (l:=l) (by have:=HB.out;rwa [List.take_of_length_le (by rw [HN.out];omega)] at this))
   go_wp2
   go_ret
   exact ⟨by rw [HQ.out];rfl,_,rfl⟩
theorem contains_are (B:Nat) (A:Option Addr) (n c:Nat) (l:List Int) (b b2:Nat) (f:Int→Bool) (w:World) (h:Reads w B 1 A n (i64c l)) (hn:l.length=n) (hnb:n≤140737488351232)
  (hP:∀ q,∀ p ∈ l,Calls Tryd.prog 121 #[.int .i64 p,.pointer (some ⟨b,0,none⟩),.pointer (some ⟨b2,0,none⟩)] (w.drewN q) fun e w'=>e=.returned (.bool (f p))∧∃ q',w'=(w.drewN q).drewN q') :
  Calls Tryd.prog 107 #[.slice A n c,.func (.func 121) #[] #[.pointer (some ⟨b,0,none⟩),.pointer (some ⟨b2,0,none⟩)]] w fun e w'=>e=.returned (.bool (l.any f))∧∃ q,w'=w.drewN q:=by
 have HI:=Lib.hid (index_are B A n c l b b2 f w h hn hnb hP)
 have HD:=Lib.hid (ix_nonneg f l)
 clear h hn hP
 obtain ⟨z,hz⟩:∃ z,z=ixOf f l:=⟨_,rfl⟩
 rw [← hz] at HI HD
 clear hz
 go_enter Tryd.func107,Tryd.ntmps107
 go_wp2_with (first | (go_at_call 118;refine HI.out.mono ?_;rintro e w2 ⟨rfl,q2,rfl⟩))
 go_ret
 exact ⟨by rw [← HD.out];rfl,_,rfl⟩

theorem any_not {α:Type} (Q:α→Prop) [DecidablePred Q] (l:List α):(!(l.any fun p=>!decide (Q p)))=decide (∀ p ∈ l,Q p):=by
 rw [Bool.eq_iff_iff]
 simp
theorem exist_any (B:Nat) (A:Option Addr) (n c:Nat) (l:List Int) (fo:Option Addr) (nF cF:Nat) (po ko io no:Option Addr) (nP pc nK kc nI ic nN nc:Nat) (cells keep entry:Int) (res bd:Bool) (w:World) (h:Reads w B 1 A n (i64c l)) (hn:l.length=n) (hnb:n≤140737488351232) (hB:B≤w.heap.size) :
  Calls Tryd.prog 113 #[.agg #[.slice fo nF cF,.slice po nP pc,.slice ko nK kc,.int .i64 cells,.slice io nI ic,.bool res,.int .i64 keep,.slice no nN nc,.int .i64 entry,.bool bd],.slice A n c] w fun e w'=>e=.returned (.bool (decide (∀ p ∈ l,isOne p nK)))∧Below w.heap.size w w':=by
 have HD:=Lib.hid (any_not (fun p:Int=>isOne p nK) l)
 have HBX:=Lib.hid (Blk.new w 151 #[.slice fo nF cF,.slice po nP pc,.slice ko nK kc,.int .i64 cells,.slice io nI ic,.bool res,.int .i64 keep,.slice no nN nc,.int .i64 entry,.bool bd])
 have HBL:Hid (Below w.heap.size w (w.alloc (.cells #[.slice fo nF cF,.slice po nP pc,.slice ko nK kc,.int .i64 cells,.slice io nI ic,.bool res,.int .i64 keep,.slice no nN nc,.int .i64 entry,.bool bd] 151))):=(Below.refl _ _).alloc (Nat.le_refl _) _
 have HC:=Lib.hid (contains_exist B A n c l w.heap.size (fun p=>!decide (isOne p nK)) _ (h.below (HBL.out.mono hB)) hn hnb fun p _=>exist1_any w.heap.size nK kc ko p _ (HBX.out.cell 2))
 clear h hn
 go_enter Tryd.func113,Tryd.ntmps113
 have hmf:∀ (fn:Fn) (first cap:Array Value) (w:World),(Instr.makeFunc fn first cap).run Tryd.prog w=.ok (.func fn first cap) w:=fun _ _ _ _=>rfl
 go_wp2_with (first | (go_at_call 107;refine HC.out.mono ?_;rintro e w2 ⟨rfl,rfl⟩))
 go_ret
 exact ⟨by rw [← HD.out];rfl,HBL.out⟩
theorem are_eq (ks:List Int) (bd:Bool) (k:Int) (l:List Int):decide (∀ p ∈ l,fits ks bd p k)=(decide (∀ p ∈ l,isOne p ks.length) && (bd || decide (∀ p ∈ l,kindAt ks p=k))):=by
 cases bd
 ·rw [Bool.false_or,Bool.eq_iff_iff,Bool.and_eq_true,decide_eq_true_eq,decide_eq_true_eq,decide_eq_true_eq]
  constructor
  ·intro h
   exact ⟨fun p hp=>(h p hp).1,fun p hp=>(h p hp).2.resolve_left (by simp)⟩
  ·rintro ⟨h1,h2⟩ p hp
   exact ⟨h1 p hp,.inr (h2 p hp)⟩
 ·rw [Bool.true_or,Bool.and_true,Bool.eq_iff_iff,decide_eq_true_eq,decide_eq_true_eq]
  constructor
  ·intro h p hp
   exact (h p hp).1
  ·intro h p hp
   exact ⟨h p hp,.inl rfl⟩
theorem are_any (B:Nat) (A:Option Addr) (n c:Nat) (l ks:List Int) (k:Int) (fo:Option Addr) (nF cF:Nat) (po ko io no:Option Addr) (nP pc nK kc nI ic nN nc:Nat) (cells keep entry:Int) (res bd:Bool) (w:World) (h:Reads w B 1 A n (i64c l)) (hn:l.length=n) (hnb:n≤140737488351232) (hk:Reads w B 1 ko nK (u8c ks)) (hkl:ks.length=nK) (hB:B≤w.heap.size) :
  Calls Tryd.prog 112 #[.agg #[.slice fo nF cF,.slice po nP pc,.slice ko nK kc,.int .i64 cells,.slice io nI ic,.bool res,.int .i64 keep,.slice no nN nc,.int .i64 entry,.bool bd],.int .u8 k,.slice A n c] w fun e w'=>e=.returned (.bool (decide (∀ p ∈ l,fits ks bd p k)))∧Below w.heap.size w w':=by
 have HD:=Lib.hid (are_eq ks bd k l)
 have HD2:=Lib.hid (any_not (fun p:Int=>kindAt ks p=k) l)
 have HBX:Hid (Blk ((w.alloc (.cells #[.slice fo nF cF,.slice po nP pc,.slice ko nK kc,.int .i64 cells,.slice io nI ic,.bool res,.int .i64 keep,.slice no nN nc,.int .i64 entry,.bool bd] 151)).alloc (.cells #[.int .u8 k] 64)) w.heap.size 151 #[.slice fo nF cF,.slice po nP pc,.slice ko nK kc,.int .i64 cells,.slice io nI ic,.bool res,.int .i64 keep,.slice no nN nc,.int .i64 entry,.bool bd]):=Lib.hid ((Blk.new w 151 #[.slice fo nF cF,.slice po nP pc,.slice ko nK kc,.int .i64 cells,.slice io nI ic,.bool res,.int .i64 keep,.slice no nN nc,.int .i64 entry,.bool bd]).alloc _)
 have HB1:Hid (Blk ((w.alloc (.cells #[.slice fo nF cF,.slice po nP pc,.slice ko nK kc,.int .i64 cells,.slice io nI ic,.bool res,.int .i64 keep,.slice no nN nc,.int .i64 entry,.bool bd] 151)).alloc (.cells #[.int .u8 k] 64)) (w.heap.size+1) 64 #[.int .u8 k]):=Lib.hid (by
  have:=Blk.new (w.alloc (.cells #[.slice fo nF cF,.slice po nP pc,.slice ko nK kc,.int .i64 cells,.slice io nI ic,.bool res,.int .i64 keep,.slice no nN nc,.int .i64 entry,.bool bd] 151)) 64 #[.int .u8 k]
  rwa [show (w.alloc (.cells #[.slice fo nF cF,.slice po nP pc,.slice ko nK kc,.int .i64 cells,.slice io nI ic,.bool res,.int .i64 keep,.slice no nN nc,.int .i64 entry,.bool bd] 151)).heap.size=w.heap.size+1 by simp] at this)
 have HBL:Hid (Below w.heap.size w ((w.alloc (.cells #[.slice fo nF cF,.slice po nP pc,.slice ko nK kc,.int .i64 cells,.slice io nI ic,.bool res,.int .i64 keep,.slice no nN nc,.int .i64 entry,.bool bd] 151)).alloc (.cells #[.int .u8 k] 64))):=((Below.refl _ _).alloc (Nat.le_refl _) _).alloc (by simp) _
 have hs2:B≤((w.alloc (.cells #[.slice fo nF cF,.slice po nP pc,.slice ko nK kc,.int .i64 cells,.slice io nI ic,.bool res,.int .i64 keep,.slice no nN nc,.int .i64 entry,.bool bd] 151)).alloc (.cells #[.int .u8 k] 64)).heap.size:=by simp;omega
 have HR:=Lib.hid (h.below (HBL.out.mono hB))
 have HK:=Lib.hid (hk.below (HBL.out.mono hB))
 have HE:=Lib.hid (exist_any B A n c l fo nF cF po ko io no nP pc nK kc nI ic nN nc cells keep entry res bd _ HR.out hn hnb hs2)
 have HN:=Lib.hid hn
 have HKL:=Lib.hid hkl
 rw [hkl] at HD
 clear h hn hk hkl
 have hmf:∀ (fn:Fn) (first cap:Array Value) (w:World),(Instr.makeFunc fn first cap).run Tryd.prog w=.ok (.func fn first cap) w:=fun _ _ _ _=>rfl
 by_cases hex:∀ p ∈ l,isOne p nK
 rotate_left
 ·have HX:=Lib.hid (decide_eq_false hex)
  clear hex
  go_enter Tryd.func112,Tryd.ntmps112
  go_wp2_with (first | (go_at_call 113;refine HE.out.mono ?_;rintro e w2 ⟨rfl,hb2⟩;have HB2:=Lib.hid hb2;clear hb2;rw [HX.out]))
  go_ret
  exact ⟨by rw [HD.out,HX.out];rfl,HBL.out.trans (HB2.out.mono (by simp;omega))⟩
 ·have HX:=Lib.hid (decide_eq_true hex)
  have HEX:=Lib.hid hex
  clear hex
  cases bd
  ·go_enter Tryd.func112,Tryd.ntmps112
   go_wp2_with (first
    | (go_at_call 113;refine HE.out.mono ?_;rintro e w2 ⟨rfl,hb2⟩;rw [HX.out];have hbx2:=HBX.out.below hb2 (by simp;omega);have HC:=Lib.hid (contains_are B A n c l w.heap.size (w.heap.size+1) (fun p=>!decide (kindAt ks p=k)) w2 (HR.out.below (hb2.mono hs2)) HN.out hnb fun q p hp=>are1_any B _ _ nK kc ko ks k p (w2.drewN q) ((hbx2.drewN q).cell 2) ((((HB1.out.below hb2 (by simp)).drewN q).cell 0)) ((HK.out.below (hb2.mono hs2)).drewN q) HKL.out (HEX.out p hp));have c9:w2.cell? ⟨w.heap.size,9,none⟩=some (.bool false):=hbx2.cell 9;have HB2:=Lib.hid hb2;clear hb2 hbx2)
    | (go_at_call 107;refine HC.out.mono ?_;rintro e w3 ⟨rfl,q3,rfl⟩))
   go_ret
   exact ⟨by rw [HD.out,HX.out,← HD2.out];rfl,below_drewN (HBL.out.trans (HB2.out.mono (by simp;omega))) _⟩
  ·go_enter Tryd.func112,Tryd.ntmps112
   go_wp2_with (first
    | (go_at_call 113;refine HE.out.mono ?_;rintro e w2 ⟨rfl,hb2⟩;rw [HX.out];have hbx2:=HBX.out.below hb2 (by simp;omega);have c9:w2.cell? ⟨w.heap.size,9,none⟩=some (.bool true):=hbx2.cell 9;have HB2:=Lib.hid hb2;clear hb2 hbx2))
   go_ret
   exact ⟨by rw [HD.out,HX.out];rfl,HBL.out.trans (HB2.out.mono (by simp;omega))⟩
theorem inOrder_any (B:Nat) (A:Option Addr) (n c:Nat) (l:List Int) (w:World) (h:Reads w B 1 A n (i64c l)) (hn:l.length=n) (hnb:n≤140737488351232) :
  Calls Tryd.prog 111 #[.slice A n c] w fun e w'=>e=.returned (.bool (decide (inOrder l)))∧w'=w:=by
 have H:=Lib.hid h
 have HN:=Lib.hid hn
 clear h hn
 go_enter Tryd.func111,Tryd.ntmps111
 go_wp2
 go_loopw [7] (fun i wr=>∃ k:Nat,k≤n∧i=.int .i64 k∧Hid (∀ j,j<k→l.getD j 0=(j:Int))∧wr=w) (fun i _=>n-(intOf i).toNat)
 case atStart=>exact ⟨0,Nat.zero_le _,rfl,Lib.hid (by intro j hj;omega),rfl⟩
 case round =>
  obtain ⟨k,hk,rfl,HP,rfl⟩:=hrel
  by_cases hlt:k<n
  ·obtain ⟨b,off,y,rfl,hb,HX,x1⟩:=H.out.int hlt
   have HG:Hid (l.getD k 0=y):=Lib.hid (by simp [List.getD,HX.out])
   by_cases hxy:y=k
   ·have hd:(y != (k:Int))=false:=by simpa using hxy
    have HQ:Hid (∀ j,j<k+1→l.getD j 0=(j:Int)):=Lib.hid (by
     intro j hj
     by_cases hjk:j<k
     ·exact HP.out j hjk
     ·obtain rfl:j=k:=by omega
      rw [HG.out,hxy])
    clear hxy
    go_wp2
    go_roundw
    case rel=>exact ⟨k+1,by omega,by go_num,HQ,by first | rfl | trivial⟩
    case measure=>simp [intOf];omega
   ·have hd:(y != (k:Int))=true:=by simpa using hxy
    have HR:Hid (decide (inOrder l)=false):=Lib.hid (by
     rw [decide_eq_false_iff_not]
     intro hh
     exact hxy (by rw [← HG.out];exact hh k (by rw [HN.out];exact hlt)))
    clear hxy
    go_wp2
    go_ret
    exact ⟨by rw [HR.out];rfl,by first | rfl | trivial⟩
  ·obtain rfl:n=k:=by omega
   have HR:Hid (decide (inOrder l)=true):=Lib.hid (by rw [decide_eq_true_eq];intro j hj;exact HP.out j (by rw [← HN.out];exact hj))
   go_wp2
   go_ret
   exact ⟨by rw [HR.out];rfl,by first | rfl | trivial⟩

theorem are_lit (B p:Nat) (l:List Int) (n:Nat) (ks:List Int) (k:Int) (fo:Option Addr) (nF cF:Nat) (po ko io no:Option Addr) (nP pc nK kc nI ic nN nc:Nat) (cells keep entry:Int) (res bd:Bool) (w1 W:World) (hn:l.length=n) (hn4:n≤4) (hk:Reads w1 B 1 ko nK (u8c ks)) (hkl:ks.length=nK) (hB:B≤w1.heap.size) (hp:p=w1.heap.size)
  (hW:W=w1.alloc (.cells (i64c l).toArray 3)∨W=(w1.alloc (.cells (i64c l).toArray 3)).drew) :
  Calls Tryd.prog 112 #[.agg #[.slice fo nF cF,.slice po nP pc,.slice ko nK kc,.int .i64 cells,.slice io nI ic,.bool res,.int .i64 keep,.slice no nN nc,.int .i64 entry,.bool bd],.int .u8 k,.slice (some ⟨p,0,none⟩) n n] W fun e w'=>e=.returned (.bool (decide (∀ p ∈ l,fits ks bd p k)))∧Below w1.heap.size w1 w':=by
 subst hp
 have hr:=lit_reads w1 3 (i64c l) n (by rw [length_i64c,hn])
 have h2:Below w1.heap.size w1 (w1.alloc (.cells (i64c l).toArray 3)):=(Below.refl _ _).alloc (Nat.le_refl _) _
 rcases hW with rfl | rfl
 ·refine (are_any (w1.heap.size+1) _ n n l ks k fo nF cF po ko io no nP pc nK kc nI ic nN nc cells keep entry res bd _ hr hn (by omega) ((hk.below (h2.mono hB)).more (by omega)) hkl (by simp)).mono ?_
  rintro e w' ⟨rfl,h3⟩
  exact ⟨rfl,h2.trans (h3.mono (by simp))⟩
 ·refine (are_any (w1.heap.size+1) _ n n l ks k fo nF cF po ko io no nP pc nK kc nI ic nN nc cells keep entry res bd _ hr.drew hn (by omega) ((hk.below (h2.mono hB)).more (by omega)).drew hkl (by simp)).mono ?_
  rintro e w' ⟨rfl,h3⟩
  exact ⟨rfl,(below_drewN h2 1).trans (h3.mono (by simp))⟩
theorem exist_lit (p:Nat) (l:List Int) (n:Nat) (fo:Option Addr) (nF cF:Nat) (po ko io no:Option Addr) (nP pc nK kc nI ic nN nc:Nat) (cells keep entry:Int) (res bd:Bool) (w1 W:World) (hn:l.length=n) (hn4:n≤4) (hp:p=w1.heap.size)
  (hW:W=w1.alloc (.cells (i64c l).toArray 3)∨W=(w1.alloc (.cells (i64c l).toArray 3)).drew) :
  Calls Tryd.prog 113 #[.agg #[.slice fo nF cF,.slice po nP pc,.slice ko nK kc,.int .i64 cells,.slice io nI ic,.bool res,.int .i64 keep,.slice no nN nc,.int .i64 entry,.bool bd],.slice (some ⟨p,0,none⟩) n n] W fun e w'=>e=.returned (.bool (decide (∀ p ∈ l,isOne p nK)))∧Below w1.heap.size w1 w':=by
 subst hp
 have hr:=lit_reads w1 3 (i64c l) n (by rw [length_i64c,hn])
 have h2:Below w1.heap.size w1 (w1.alloc (.cells (i64c l).toArray 3)):=(Below.refl _ _).alloc (Nat.le_refl _) _
 rcases hW with rfl | rfl
 ·refine (exist_any (w1.heap.size+1) _ n n l fo nF cF po ko io no nP pc nK kc nI ic nN nc cells keep entry res bd _ hr hn (by omega) (by simp)).mono ?_
  rintro e w' ⟨rfl,h3⟩
  exact ⟨rfl,h2.trans (h3.mono (by simp))⟩
 ·refine (exist_any (w1.heap.size+1) _ n n l fo nF cF po ko io no nP pc nK kc nI ic nN nc cells keep entry res bd _ hr.drew hn (by omega) (by simp)).mono ?_
  rintro e w' ⟨rfl,h3⟩
  exact ⟨rfl,(below_drewN h2 1).trans (h3.mono (by simp))⟩
theorem all_one (Q:Int→Prop) [DecidablePred Q] (x:Int):decide (∀ p ∈ [x],Q p)=decide (Q x):=by rw [decide_eq_decide];simp
def retHolds (ks:List Int) (bd res:Bool) (a:Int):Prop:=if res=true then fits ks bd a 0 else a=-1
instance (ks:List Int) (bd res:Bool) (a:Int):Decidable (retHolds ks bd res a):=by unfold retHolds;infer_instance
theorem hasCell_any (fo:Option Addr) (nF cF:Nat) (po ko io no:Option Addr) (nP pc nK kc nI ic nN nc:Nat) (cells keep entry:Int) (res bd:Bool) (op bop d e a b f cell imm:Int) (args:List Int) (nx el:Int) (ao:Option Addr) (nA ac:Nat) (w:World) :
  Calls Tryd.prog 114 #[.agg #[.slice fo nF cF,.slice po nP pc,.slice ko nK kc,.int .i64 cells,.slice io nI ic,.bool res,.int .i64 keep,.slice no nN nc,.int .i64 entry,.bool bd],.agg #[.int .u8 op,.int .u8 bop,.int .i64 d,.int .i64 e,.int .i64 a,.int .i64 b,.int .i64 f,.int .i64 cell,.int .u64 imm,.slice ao nA ac,.int .i64 nx,.int .i64 el]] w fun e w'=>e=.returned (.bool (decide (isOne cell cells)))∧Below w.heap.size w w':=by
 have HB2:Hid (Below w.heap.size w ((w.alloc (.cells #[.slice fo nF cF,.slice po nP pc,.slice ko nK kc,.int .i64 cells,.slice io nI ic,.bool res,.int .i64 keep,.slice no nN nc,.int .i64 entry,.bool bd] 151)).alloc (.cells #[.int .u8 op,.int .u8 bop,.int .i64 d,.int .i64 e,.int .i64 a,.int .i64 b,.int .i64 f,.int .i64 cell,.int .u64 imm,.slice ao nA ac,.int .i64 nx,.int .i64 el] 60))):=((Below.refl _ _).alloc (Nat.le_refl _) _).alloc (by simp) _
 have HCB:Hid (Blk ((w.alloc (.cells #[.slice fo nF cF,.slice po nP pc,.slice ko nK kc,.int .i64 cells,.slice io nI ic,.bool res,.int .i64 keep,.slice no nN nc,.int .i64 entry,.bool bd] 151)).alloc (.cells #[.int .u8 op,.int .u8 bop,.int .i64 d,.int .i64 e,.int .i64 a,.int .i64 b,.int .i64 f,.int .i64 cell,.int .u64 imm,.slice ao nA ac,.int .i64 nx,.int .i64 el] 60)) w.heap.size 151 #[.slice fo nF cF,.slice po nP pc,.slice ko nK kc,.int .i64 cells,.slice io nI ic,.bool res,.int .i64 keep,.slice no nN nc,.int .i64 entry,.bool bd]):=Lib.hid ((Blk.new w 151 #[.slice fo nF cF,.slice po nP pc,.slice ko nK kc,.int .i64 cells,.slice io nI ic,.bool res,.int .i64 keep,.slice no nN nc,.int .i64 entry,.bool bd]).alloc _)
 have HNB:Hid (Blk ((w.alloc (.cells #[.slice fo nF cF,.slice po nP pc,.slice ko nK kc,.int .i64 cells,.slice io nI ic,.bool res,.int .i64 keep,.slice no nN nc,.int .i64 entry,.bool bd] 151)).alloc (.cells #[.int .u8 op,.int .u8 bop,.int .i64 d,.int .i64 e,.int .i64 a,.int .i64 b,.int .i64 f,.int .i64 cell,.int .u64 imm,.slice ao nA ac,.int .i64 nx,.int .i64 el] 60)) (w.heap.size+1) 60 #[.int .u8 op,.int .u8 bop,.int .i64 d,.int .i64 e,.int .i64 a,.int .i64 b,.int .i64 f,.int .i64 cell,.int .u64 imm,.slice ao nA ac,.int .i64 nx,.int .i64 el]):=Lib.hid (by
  have:=Blk.new (w.alloc (.cells #[.slice fo nF cF,.slice po nP pc,.slice ko nK kc,.int .i64 cells,.slice io nI ic,.bool res,.int .i64 keep,.slice no nN nc,.int .i64 entry,.bool bd] 151)) 60 #[.int .u8 op,.int .u8 bop,.int .i64 d,.int .i64 e,.int .i64 a,.int .i64 b,.int .i64 f,.int .i64 cell,.int .u64 imm,.slice ao nA ac,.int .i64 nx,.int .i64 el]
  rwa [show (w.alloc (.cells #[.slice fo nF cF,.slice po nP pc,.slice ko nK kc,.int .i64 cells,.slice io nI ic,.bool res,.int .i64 keep,.slice no nN nc,.int .i64 entry,.bool bd] 151)).heap.size=w.heap.size+1 by simp] at this)
 go_enter Tryd.func114,Tryd.ntmps114
 go_wp2_with (first | (go_at_call 103;refine (isOne_any _ _ _).mono ?_;rintro e w2 ⟨rfl,rfl⟩))
 go_ret
 exact ⟨rfl,HB2.out⟩

theorem returns_any (B:Nat) (ks:List Int) (fo:Option Addr) (nF cF:Nat) (po ko io no:Option Addr) (nP pc nK kc nI ic nN nc:Nat) (cells keep entry:Int) (res bd:Bool) (op bop d e a b f cell imm:Int) (args:List Int) (nx el:Int) (ao:Option Addr) (nA ac:Nat) (w:World) (hk:Reads w B 1 ko nK (u8c ks)) (hkl:ks.length=nK) (hB:B≤w.heap.size) :
  Calls Tryd.prog 117 #[.agg #[.slice fo nF cF,.slice po nP pc,.slice ko nK kc,.int .i64 cells,.slice io nI ic,.bool res,.int .i64 keep,.slice no nN nc,.int .i64 entry,.bool bd],.agg #[.int .u8 op,.int .u8 bop,.int .i64 d,.int .i64 e,.int .i64 a,.int .i64 b,.int .i64 f,.int .i64 cell,.int .u64 imm,.slice ao nA ac,.int .i64 nx,.int .i64 el]] w fun e w'=>e=.returned (.bool (decide (retHolds ks bd res a)))∧Below w.heap.size w w':=by
 have HB2:Hid (Below w.heap.size w ((w.alloc (.cells #[.slice fo nF cF,.slice po nP pc,.slice ko nK kc,.int .i64 cells,.slice io nI ic,.bool res,.int .i64 keep,.slice no nN nc,.int .i64 entry,.bool bd] 151)).alloc (.cells #[.int .u8 op,.int .u8 bop,.int .i64 d,.int .i64 e,.int .i64 a,.int .i64 b,.int .i64 f,.int .i64 cell,.int .u64 imm,.slice ao nA ac,.int .i64 nx,.int .i64 el] 60))):=((Below.refl _ _).alloc (Nat.le_refl _) _).alloc (by simp) _
 have HCB:Hid (Blk ((w.alloc (.cells #[.slice fo nF cF,.slice po nP pc,.slice ko nK kc,.int .i64 cells,.slice io nI ic,.bool res,.int .i64 keep,.slice no nN nc,.int .i64 entry,.bool bd] 151)).alloc (.cells #[.int .u8 op,.int .u8 bop,.int .i64 d,.int .i64 e,.int .i64 a,.int .i64 b,.int .i64 f,.int .i64 cell,.int .u64 imm,.slice ao nA ac,.int .i64 nx,.int .i64 el] 60)) w.heap.size 151 #[.slice fo nF cF,.slice po nP pc,.slice ko nK kc,.int .i64 cells,.slice io nI ic,.bool res,.int .i64 keep,.slice no nN nc,.int .i64 entry,.bool bd]):=Lib.hid ((Blk.new w 151 #[.slice fo nF cF,.slice po nP pc,.slice ko nK kc,.int .i64 cells,.slice io nI ic,.bool res,.int .i64 keep,.slice no nN nc,.int .i64 entry,.bool bd]).alloc _)
 have HNB:Hid (Blk ((w.alloc (.cells #[.slice fo nF cF,.slice po nP pc,.slice ko nK kc,.int .i64 cells,.slice io nI ic,.bool res,.int .i64 keep,.slice no nN nc,.int .i64 entry,.bool bd] 151)).alloc (.cells #[.int .u8 op,.int .u8 bop,.int .i64 d,.int .i64 e,.int .i64 a,.int .i64 b,.int .i64 f,.int .i64 cell,.int .u64 imm,.slice ao nA ac,.int .i64 nx,.int .i64 el] 60)) (w.heap.size+1) 60 #[.int .u8 op,.int .u8 bop,.int .i64 d,.int .i64 e,.int .i64 a,.int .i64 b,.int .i64 f,.int .i64 cell,.int .u64 imm,.slice ao nA ac,.int .i64 nx,.int .i64 el]):=Lib.hid (by
  have:=Blk.new (w.alloc (.cells #[.slice fo nF cF,.slice po nP pc,.slice ko nK kc,.int .i64 cells,.slice io nI ic,.bool res,.int .i64 keep,.slice no nN nc,.int .i64 entry,.bool bd] 151)) 60 #[.int .u8 op,.int .u8 bop,.int .i64 d,.int .i64 e,.int .i64 a,.int .i64 b,.int .i64 f,.int .i64 cell,.int .u64 imm,.slice ao nA ac,.int .i64 nx,.int .i64 el]
  rwa [show (w.alloc (.cells #[.slice fo nF cF,.slice po nP pc,.slice ko nK kc,.int .i64 cells,.slice io nI ic,.bool res,.int .i64 keep,.slice no nN nc,.int .i64 entry,.bool bd] 151)).heap.size=w.heap.size+1 by simp] at this)
 have HK:=Lib.hid (hk.below (HB2.out.mono hB))
 have HKL:=Lib.hid hkl
 clear hk hkl
 have HZ2:Hid (w.heap.size+1+1=((w.alloc (.cells #[.slice fo nF cF,.slice po nP pc,.slice ko nK kc,.int .i64 cells,.slice io nI ic,.bool res,.int .i64 keep,.slice no nN nc,.int .i64 entry,.bool bd] 151)).alloc (.cells #[.int .u8 op,.int .u8 bop,.int .i64 d,.int .i64 e,.int .i64 a,.int .i64 b,.int .i64 f,.int .i64 cell,.int .u64 imm,.slice ao nA ac,.int .i64 nx,.int .i64 el] 60)).heap.size):=Lib.hid (by simp)
 have hB2:B≤((w.alloc (.cells #[.slice fo nF cF,.slice po nP pc,.slice ko nK kc,.int .i64 cells,.slice io nI ic,.bool res,.int .i64 keep,.slice no nN nc,.int .i64 entry,.bool bd] 151)).alloc (.cells #[.int .u8 op,.int .u8 bop,.int .i64 d,.int .i64 e,.int .i64 a,.int .i64 b,.int .i64 f,.int .i64 cell,.int .u64 imm,.slice ao nA ac,.int .i64 nx,.int .i64 el] 60)).heap.size:=by simp;omega
 cases res
 ·have HD:Hid (decide (retHolds ks bd false a)=(a == -1)):=Lib.hid (by rw [Bool.eq_iff_iff,decide_eq_true_eq];unfold retHolds;simp)
  go_enter Tryd.func117,Tryd.ntmps117
  go_wp2
  go_ret
  exact ⟨by rw [HD.out];rfl,HB2.out⟩
 ·have HD:Hid (decide (∀ p ∈ [a],fits ks bd p 0)=decide (retHolds ks bd true a)):=Lib.hid (by rw [all_one (fun p=>fits ks bd p 0),decide_eq_decide];unfold retHolds;simp)
  go_enter Tryd.func117,Tryd.ntmps117
  go_wp2_with (first | (go_at_call 112;refine (are_lit B _ [a] 1 ks 0 _ _ _ _ _ _ _ _ _ _ _ _ _ _ _ _ _ _ _ _ _ _ rfl (by omega) HK.out HKL.out hB2 HZ2.out (by first | exact .inl rfl | exact .inr rfl)).mono ?_;rintro ee w3 ⟨rfl,hb3⟩;have HB3:=Lib.hid hb3;clear hb3;rw [HD.out]))
  go_ret
  exact ⟨rfl,HB2.out.trans (HB3.out.mono (by simp;omega))⟩

theorem grAt_of {rs:List RG} {j:Nat} {r:RG} (h:rs[j]?=some r):grAt (grs rs) j=r.gr:=by
 unfold grAt grs
 simp [List.getD,h]
theorem gets_any (B:Nat) (rs:List RG) (ps ks is:List Int) (nodes:List Nd) (fo:Option Addr) (nF cF:Nat) (po ko io no:Option Addr) (nP pc nK kc nI ic nN nc:Nat) (cells keep entry:Int) (res bd:Bool) (op bop d e a b f cell imm:Int) (args:List Int) (nx el:Int) (ao:Option Addr) (nA ac:Nat) (w:World) (HF0:RdP w B fo nF rs) (hf:isOne f nF) (hk:Reads w B 1 ko nK (u8c ks)) (hkl:ks.length=nK) (hB:B≤w.heap.size) :
  Calls Tryd.prog 116 #[.agg #[.slice fo nF cF,.slice po nP pc,.slice ko nK kc,.int .i64 cells,.slice io nI ic,.bool res,.int .i64 keep,.slice no nN nc,.int .i64 entry,.bool bd],.agg #[.int .u8 op,.int .u8 bop,.int .i64 d,.int .i64 e,.int .i64 a,.int .i64 b,.int .i64 f,.int .i64 cell,.int .u64 imm,.slice ao nA ac,.int .i64 nx,.int .i64 el]] w fun e w'=>e=.returned (.bool (decide (gets (grs rs) ⟨ps,ks,cells,is,res,keep,nodes,entry⟩ bd f d)))∧Below w.heap.size w w':=by
 have HB2:Hid (Below w.heap.size w ((w.alloc (.cells #[.slice fo nF cF,.slice po nP pc,.slice ko nK kc,.int .i64 cells,.slice io nI ic,.bool res,.int .i64 keep,.slice no nN nc,.int .i64 entry,.bool bd] 151)).alloc (.cells #[.int .u8 op,.int .u8 bop,.int .i64 d,.int .i64 e,.int .i64 a,.int .i64 b,.int .i64 f,.int .i64 cell,.int .u64 imm,.slice ao nA ac,.int .i64 nx,.int .i64 el] 60))):=((Below.refl _ _).alloc (Nat.le_refl _) _).alloc (by simp) _
 have HCB:Hid (Blk ((w.alloc (.cells #[.slice fo nF cF,.slice po nP pc,.slice ko nK kc,.int .i64 cells,.slice io nI ic,.bool res,.int .i64 keep,.slice no nN nc,.int .i64 entry,.bool bd] 151)).alloc (.cells #[.int .u8 op,.int .u8 bop,.int .i64 d,.int .i64 e,.int .i64 a,.int .i64 b,.int .i64 f,.int .i64 cell,.int .u64 imm,.slice ao nA ac,.int .i64 nx,.int .i64 el] 60)) w.heap.size 151 #[.slice fo nF cF,.slice po nP pc,.slice ko nK kc,.int .i64 cells,.slice io nI ic,.bool res,.int .i64 keep,.slice no nN nc,.int .i64 entry,.bool bd]):=Lib.hid ((Blk.new w 151 #[.slice fo nF cF,.slice po nP pc,.slice ko nK kc,.int .i64 cells,.slice io nI ic,.bool res,.int .i64 keep,.slice no nN nc,.int .i64 entry,.bool bd]).alloc _)
 have HNB:Hid (Blk ((w.alloc (.cells #[.slice fo nF cF,.slice po nP pc,.slice ko nK kc,.int .i64 cells,.slice io nI ic,.bool res,.int .i64 keep,.slice no nN nc,.int .i64 entry,.bool bd] 151)).alloc (.cells #[.int .u8 op,.int .u8 bop,.int .i64 d,.int .i64 e,.int .i64 a,.int .i64 b,.int .i64 f,.int .i64 cell,.int .u64 imm,.slice ao nA ac,.int .i64 nx,.int .i64 el] 60)) (w.heap.size+1) 60 #[.int .u8 op,.int .u8 bop,.int .i64 d,.int .i64 e,.int .i64 a,.int .i64 b,.int .i64 f,.int .i64 cell,.int .u64 imm,.slice ao nA ac,.int .i64 nx,.int .i64 el]):=Lib.hid (by
  have:=Blk.new (w.alloc (.cells #[.slice fo nF cF,.slice po nP pc,.slice ko nK kc,.int .i64 cells,.slice io nI ic,.bool res,.int .i64 keep,.slice no nN nc,.int .i64 entry,.bool bd] 151)) 60 #[.int .u8 op,.int .u8 bop,.int .i64 d,.int .i64 e,.int .i64 a,.int .i64 b,.int .i64 f,.int .i64 cell,.int .u64 imm,.slice ao nA ac,.int .i64 nx,.int .i64 el]
  rwa [show (w.alloc (.cells #[.slice fo nF cF,.slice po nP pc,.slice ko nK kc,.int .i64 cells,.slice io nI ic,.bool res,.int .i64 keep,.slice no nN nc,.int .i64 entry,.bool bd] 151)).heap.size=w.heap.size+1 by simp] at this)
 have HF:=Lib.hid HF0
 have HK:=Lib.hid (hk.below (HB2.out.mono hB))
 have hB2:B≤((w.alloc (.cells #[.slice fo nF cF,.slice po nP pc,.slice ko nK kc,.int .i64 cells,.slice io nI ic,.bool res,.int .i64 keep,.slice no nN nc,.int .i64 entry,.bool bd] 151)).alloc (.cells #[.int .u8 op,.int .u8 bop,.int .i64 d,.int .i64 e,.int .i64 a,.int .i64 b,.int .i64 f,.int .i64 cell,.int .u64 imm,.slice ao nA ac,.int .i64 nx,.int .i64 el] 60)).heap.size:=by simp;omega
 have HKL:=Lib.hid hkl
 clear hk hkl HF0
 have HZ2:Hid (w.heap.size+1+1=((w.alloc (.cells #[.slice fo nF cF,.slice po nP pc,.slice ko nK kc,.int .i64 cells,.slice io nI ic,.bool res,.int .i64 keep,.slice no nN nc,.int .i64 entry,.bool bd] 151)).alloc (.cells #[.int .u8 op,.int .u8 bop,.int .i64 d,.int .i64 e,.int .i64 a,.int .i64 b,.int .i64 f,.int .i64 cell,.int .u64 imm,.slice ao nA ac,.int .i64 nx,.int .i64 el] 60)).heap.size):=Lib.hid (by simp)
 obtain ⟨j,rfl⟩:∃ j:Nat,f=(j:Int):=⟨f.toNat,by have:=hf.1;omega⟩
 have hj:j<nF:=by have:=hf.2;omega
 obtain ⟨bf,off,r,rfl,hbf,HX,HRG,HWG,x0,x1,x2,x3,x4,x5,x6,x7⟩:=HF.out.gr hj
 clear x0 x1 x2 x3 x5 x6 x7 hf
 have hgr:=grAt_of HX.out
 have HGR:=Lib.hid hgr
 clear hgr
 obtain ⟨rr,hrr⟩:∃ rr,rr=r.gr.result:=⟨_,rfl⟩
 rw [← hrr] at x4
 have HRR:Hid ((grAt (grs rs) j).result=rr):=Lib.hid (by rw [HGR.out,hrr])
 clear hrr
 have hbr:bf<w.heap.size:=by omega
 by_cases hd:d=-1
 ·have HD:Hid (decide (gets (grs rs) ⟨ps,ks,cells,is,res,keep,nodes,entry⟩ bd j d)=true):=Lib.hid (by rw [decide_eq_true_eq];exact .inl hd)
  have g:(d == -1)=true:=by simpa using hd
  clear hd
  go_enter Tryd.func116,Tryd.ntmps116
  go_wp2
  go_ret
  exact ⟨by rw [HD.out];rfl,HB2.out⟩
 ·have g:(d == -1)=false:=by simpa using hd
  cases rr
  ·have HD:Hid (decide (gets (grs rs) ⟨ps,ks,cells,is,res,keep,nodes,entry⟩ bd j d)=false):=Lib.hid (by
    rw [decide_eq_false_iff_not]
    rintro (h | ⟨h,_⟩)
    ·exact hd h
    ·rw [HRR.out] at h;cases h)
   clear hd
   go_enter Tryd.func116,Tryd.ntmps116
   go_wp2
   go_ret
   exact ⟨by rw [HD.out];rfl,HB2.out⟩
  ·by_cases hft:fits ks bd d 0
   rotate_left
   ·have HD:Hid (decide (gets (grs rs) ⟨ps,ks,cells,is,res,keep,nodes,entry⟩ bd j d)=false):=Lib.hid (by
     rw [decide_eq_false_iff_not]
     rintro (h | ⟨_,h,_⟩)
     ·exact hd h
     ·exact hft h)
    have HA:Hid (decide (∀ p ∈ [d],fits ks bd p 0)=false):=Lib.hid (by rw [all_one (fun p=>fits ks bd p 0)];exact decide_eq_false hft)
    clear hd hft
    go_enter Tryd.func116,Tryd.ntmps116
    go_wp2_with (first | (go_at_call 112;refine (are_lit B _ [d] 1 ks 0 _ _ _ _ _ _ _ _ _ _ _ _ _ _ _ _ _ _ _ _ _ _ rfl (by omega) HK.out HKL.out hB2 HZ2.out (by first | exact .inl rfl | exact .inr rfl)).mono ?_;rintro ee w3 ⟨rfl,hb3⟩;have HB3:=Lib.hid hb3;clear hb3;rw [HA.out]))
    go_ret
    exact ⟨by rw [HD.out];rfl,HB2.out.trans (HB3.out.mono (by simp;omega))⟩
   ·have HA:Hid (decide (∀ p ∈ [d],fits ks bd p 0)=true):=Lib.hid (by rw [all_one (fun p=>fits ks bd p 0)];exact decide_eq_true hft)
    have HD:Hid (decide (gets (grs rs) ⟨ps,ks,cells,is,res,keep,nodes,entry⟩ bd j d)=(!bd || (d == 0))):=Lib.hid (by
     rw [Bool.eq_iff_iff,decide_eq_true_eq]
     constructor
     ·rintro (h | ⟨_,_,h | h⟩)
      ·exact absurd h hd
      ·simp [h]
      ·simp [h]
     ·intro h
      refine .inr ⟨HRR.out,hft,?_⟩
      cases bd
      ·exact .inl rfl
      ·right;simpa using h)
    clear hd hft
    cases bd
    all_goals
     go_enter Tryd.func116,Tryd.ntmps116
     go_wp2_with (first | (go_at_call 112;refine (are_lit B _ [d] 1 ks 0 _ _ _ _ _ _ _ _ _ _ _ _ _ _ _ _ _ _ _ _ _ _ rfl (by omega) HK.out HKL.out hB2 HZ2.out (by first | exact .inl rfl | exact .inr rfl)).mono ?_;rintro ee w3 ⟨rfl,hb3⟩;have b9:w3.cell? ⟨w.heap.size,9,none⟩=some (.bool _):=(HCB.out.below hb3 HCB.out.lt).cell 9;have n2:w3.cell? ⟨w.heap.size+1,2,none⟩=some (.int .i64 d):=(HNB.out.below hb3 HNB.out.lt).cell 2;have HB3:=Lib.hid hb3;clear hb3;rw [HA.out]))
     go_ret
     exact ⟨by rw [HD.out];rfl,HB2.out.trans (HB3.out.mono (by simp;omega))⟩
end Go.Proofs.YtepkogfiojkcpaaDoor
