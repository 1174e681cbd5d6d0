/-
  Texts of one seat, one behind the other: QKStr, QKAft, QKAftW, QKRow, QKNam, QKNxt.
-/
import Derived.StillTailTactics
import Derived.Laws.IdiomStrings
import Derived.Laws.Concat
import Derived.Deep.CutBlock
import Derived.Deep.DeepCutAuto
import Derived.RegionTactic
import Derived.Deep.RegionLaw
import Derived.Test.YtgekmjkfnhogkaaMA1
import Derived.Test.YtgekmjkfnhogkaaMA3
import Derived.Test.YtgekmjkfnhogkaaMA4
import Derived.Test.YtgekmjkfnhogkaaMA5

set_option linter.unusedVariables false
set_option linter.unusedSimpArgs false
set_option maxRecDepth 100000
set_option maxHeartbeats 51200000
namespace Go.Proofs.Ytgekmjkfnhogkaa.Q
open Go.ChangeShapes Go.WideShapes Go.ChangeAt Go.RowKit
def str (l:List UInt8):ByteArray:=⟨l.toArray⟩
theorem str_append (a b:List UInt8):str a ++ str b=str (a ++ b):=by
 apply ByteArray.ext
 simp [str,ByteArray.data_append]
theorem str_size (l:List UInt8):(str l).size=l.length:=by simp [str,ByteArray.size]
theorem str_list (l:List UInt8):(str l).data.toList=l:=by simp [str]
theorem str_toList (l:List UInt8):(str l).toList=l:=by rw [ByteArray.toList_eq];simp [str]
theorem str_extract (l:List UInt8) (a b:Nat):(str l).extract a b=str ((l.drop a).take (b-a)):=by
 apply ByteArray.ext
 simp [str,ByteArray.data_extract]
theorem str_inj {a b:List UInt8} (h:str a=str b):a=b:=by rw [← str_list a,← str_list b,h]
def lt1 (k:Int):UInt8:=if k=1 then 112 else 110
def ltr (s:Stk):List UInt8:=s.map lt1
def k01 (s:Stk):Prop:=∀ k ∈ s,k=0∨k=1
theorem length_ltr (s:Stk):(ltr s).length=s.length:=by simp [ltr]
theorem ltr_append (a b:Stk):ltr (a ++ b)=ltr a ++ ltr b:=by simp [ltr]
theorem lt1_inj {a b:Int} (ha:a=0∨a=1) (hb:b=0∨b=1) (h:lt1 a=lt1 b):a=b:=by
 rcases ha with rfl | rfl <;> rcases hb with rfl | rfl
 ·rfl
 ·exact absurd h (by decide)
 ·exact absurd h (by decide)
 ·rfl
theorem ltr_inj:∀ {a b:Stk},k01 a→k01 b→ltr a=ltr b→a=b
 | [],[],_,_,_=>rfl
 | [],_ :: _,_,_,h=>by simp [ltr] at h
 | _ :: _,[],_,_,h=>by simp [ltr] at h
 | x :: a,y :: b,ha,hb,h=>by
  simp only [ltr,List.map_cons,List.cons.injEq] at h
  rw [lt1_inj (ha x (by simp)) (hb y (by simp)) h.1,ltr_inj (fun k hk=>ha k (by simp [hk])) (fun k hk=>hb k (by simp [hk])) h.2]
theorem lt1_ne {k:Int} {x:UInt8} (h:x≠112) (h':x≠110):lt1 k≠x:=by
 unfold lt1;split
 ·exact h.symm
 ·exact h'.symm
theorem ltr_ne {s:Stk} {x:UInt8} (h:x≠112) (h':x≠110):ltr s≠[x]:=by
 intro hh
 cases s with
 | nil=>simp [ltr] at hh
 | cons k s =>
  simp only [ltr,List.map_cons,List.cons.injEq] at hh
  exact lt1_ne h h' hh.1

theorem letter_any (x:Int) (w:World) :
  Calls Try.prog 62 #[.int .u8 x] w fun e w'=>e=.returned (.string (str [lt1 x]))∧w=w':=by
 by_cases hx:x=1
 ·subst hx
  go_enter Try.func62,Try.ntmps62
  go_wp2
  go_ret
  exact ⟨rfl,rfl⟩
 ·have g:(x == 1)=false:=by simp;omega
  rw [show lt1 x=110 by unfold lt1;rw [if_neg hx]]
  go_enter Try.func62,Try.ntmps62
  go_wp2
  go_ret
  exact ⟨rfl,rfl⟩

theorem letters_any (B:Nat) (A:Option Addr) (n c:Nat) (l:Stk) (w:World) (h:Reads w B 1 A n (u8c l)) (hn:n≤100000) :
  Calls Try.prog 63 #[.slice A n c] w fun e w'=>e=.returned (.string (str (ltr l)))∧w=w':=by
 have hl:l.length=n:=by have:=h.1;rw [length_u8c] at this;omega
 have HR:=Lib.hid h
 have HL:=Lib.hid hl
 clear h hl
 go_enter Try.func63,Try.ntmps63
 go_wp2
 go_loop [3,8] (fun s i=>∃ k:Nat,k≤n∧i=.int .i64 k∧s=.string (str (ltr (l.take k)))) (fun _ i=>n-(intOf i).toNat)
 case atStart=>exact ⟨0,Nat.zero_le _,rfl,rfl⟩
 case round =>
  obtain ⟨k,hk,rfl,rfl⟩:=hrel
  have hsz:(str (ltr (l.take k))).size≤100000:=by rw [str_size,length_ltr,List.length_take];omega
  obtain ⟨S,HS⟩:∃ S,Hid (S=str (ltr (l.take k))):=⟨_,rfl⟩
  rw [← HS.out] at hsz ⊢
  by_cases hkn:k<n
  ·obtain ⟨b,off,x,rfl,hb,HX,x0⟩:=HR.out.byte (k:=k) hkn
   obtain ⟨T,HT⟩:∃ T,Hid (T=str [lt1 x]):=⟨_,rfl⟩
   have hts:T.size=1:=by rw [HT.out,str_size];rfl
   have HLT:=Lib.hid (letter_any x w)
   rw [← HT.out] at HLT
   have HE:Hid (S ++ T=str (ltr (l.take (k+1)))):=Lib.hid (by
    rw [HS.out,HT.out,str_append,List.take_add_one,HX.out,ltr_append];rfl)
   go_wp2_with (go_at_call 62;refine HLT.out.mono ?_;rintro e w2 ⟨rfl,rfl⟩)
   go_round
   case rel=>exact ⟨k+1,hkn,by simp,by rw [HE.out]⟩
   case measure=>simp [intOf];omega
  ·have hkn':k=n:=by omega
   have HE:Hid (S=str (ltr l)):=Lib.hid (by rw [HS.out,hkn',List.take_of_length_le (by have:=HL.out;omega)])
   subst hkn'
   go_wp2
   go_ret
   exact ⟨by rw [HE.out];rfl,rfl⟩
def aftS (fs:List Fn) (f:Fn) (i:Ins) (s:Stk):List UInt8:=match afterK fs f i s with
 | some s'=>ltr s'
 | none=>[33]
theorem aftS_some {fs:List Fn} {f:Fn} {i:Ins} {s s':Stk} (h:afterK fs f i s=some s'):aftS fs f i s=ltr s':=by unfold aftS;rw [h]
theorem aftS_none {fs:List Fn} {f:Fn} {i:Ins} {s:Stk} (h:afterK fs f i s=none):aftS fs f i s=[33]:=by unfold aftS;rw [h]
theorem k01_of_all {l:Stk} (h:∀ k ∈ l,kindB k=true):k01 l:=fun k hk=>kindB_iff.1 (h k hk)
theorem k01_take {l:Stk} (h:k01 l) (n:Nat):k01 (l.take n):=fun k hk=>h k (List.mem_of_mem_take hk)
theorem k01_drop {l:Stk} (h:k01 l) (n:Nat):k01 (l.drop n):=fun k hk=>h k (List.mem_of_mem_drop hk)
theorem k01_append {a b:Stk} (ha:k01 a) (hb:k01 b):k01 (a ++ b):=fun k hk=>by
 rcases List.mem_append.1 hk with h | h
 ·exact ha k h
 ·exact hb k h
theorem k01_nil:k01 []:=fun k hk=>by cases hk
theorem k01_cons {x:Int} {l:Stk} (hx:x=0∨x=1) (h:k01 l):k01 (x :: l):=fun k hk=>by
 rcases List.mem_cons.1 hk with rfl | h'
 ·exact hx
 ·exact h k h'
theorem k01_res (f:Fn):k01 (resOf f):=by
 unfold resOf;split
 ·exact k01_cons (.inl rfl) k01_nil
 ·exact k01_nil
theorem topK_01 {s:Stk} (h:k01 s):topK s=0∨topK s=1:=by
 unfold topK
 cases hl:s.getLast? with
 | none=>exact .inl rfl
 | some x=>exact h x (List.mem_of_getLast? hl)
theorem locK_01 {f:Fn} (h:okF f=true) (i:Ins):locK f i=0∨locK f i=1:=by
 have hk:=(okF_iff.1 h).2.2.2.2.2.2.1
 unfold locK
 rw [List.getD_eq_getElem?_getD]
 cases hl:f.locals[i.arg.toNat]? with
 | none=>exact .inl rfl
 | some x=>exact kindB_iff.1 (hk x (List.mem_of_getElem? hl))
theorem takesK_01 {fs:List Fn} {f:Fn} (hp:okP fs=true) (hf:okF f=true) (i:Ins) {t:Int} (ht:t=0∨t=1):k01 (takesK fs f i t):=by
 unfold takesK
 split
 ·exact k01_cons (locK_01 hf i) k01_nil
 split
 ·exact k01_cons (.inr rfl) k01_nil
 split
 ·exact k01_cons (.inr rfl) (k01_cons (.inl rfl) k01_nil)
 split
 ·exact k01_cons (.inl rfl) k01_nil
 split
 ·unfold parK;split
  ·rename_i g hg
   exact k01_take (k01_of_all (okF_iff.1 ((okP_iff.1 hp).2.2 g (List.mem_of_getElem? hg))).2.2.2.2.2.2.1) _
  ·exact k01_nil
 split
 ·exact k01_res f
 split
 ·exact k01_cons ht k01_nil
 split
 ·exact k01_cons (.inl rfl) (k01_cons (.inl rfl) k01_nil)
 ·exact k01_nil
theorem leavesK_01 {fs:List Fn} {f:Fn} (hp:okP fs=true) (hf:okF f=true) (i:Ins) {t:Int} (ht:t=0∨t=1):k01 (leavesK fs f i t):=by
 unfold leavesK
 split
 ·exact k01_cons (.inl rfl) k01_nil
 split
 ·exact k01_cons (locK_01 hf i) k01_nil
 split
 ·exact k01_cons (.inr rfl) k01_nil
 split
 ·unfold resK;split
  ·exact k01_res _
  ·exact k01_nil
 split
 ·exact k01_cons (.inl rfl) (k01_cons (.inl rfl) k01_nil)
 split
 ·exact k01_cons ht (k01_cons ht k01_nil)
 split
 ·exact k01_cons (.inl rfl) k01_nil
 ·exact k01_nil
theorem afterK_01 {fs:List Fn} {f:Fn} (hp:okP fs=true) (hf:okF f=true) {i:Ins} {s s':Stk} (hs:k01 s) (h:afterK fs f i s=some s'):k01 s':=by
 unfold afterK at h
 split at h
 ·injection h with h
  rw [← h]
  exact k01_append (k01_take hs _) (leavesK_01 hp hf i (topK_01 hs))
 ·cases h
theorem ltr_drop (s:Stk) (k:Nat):(ltr s).drop k=ltr (s.drop k):=by simp [ltr,List.map_drop]
theorem ltr_take (s:Stk) (k:Nat):(ltr s).take k=ltr (s.take k):=by simp [ltr,List.map_take]
theorem drop_top {s:Stk} {n:Nat} (h:n+1=s.length):s.drop n=[topK s]:=by
 rcases List.eq_nil_or_concat s with rfl | ⟨l,x,rfl⟩
 ·simp at h
 ·have:n=l.length:=by simp at h;omega
  subst this
  simp [topK]

theorem after_any (B n c:Nat) (A:Option Addr) (rs:List Raw) (r:Raw) (i:Ins) (s:Stk) (w:World) (hp:RdP w B A n rs) (hf:RdF w B r) (hB:B≤w.heap.size) (hok:okP (fns rs)=true) (hokf:okF r.fn=true) (hin:insRef (fns rs) r.fn i=true) (hio:okI i=true) (hk01:k01 s) (hs:s.length≤100000) :
  Calls Try.prog 39 #[.agg #[.slice A n c],.agg #[.int .i64 r.fn.params,.slice r.lo r.fn.locals.length r.lc,.bool r.fn.result,.int .i64 r.fn.keep,.slice r.co r.fn.code.length r.cc],.agg #[.int .u8 i.op,.int .i64 i.arg,.int .u64 i.imm],.string (str (ltr s))] w fun e w'=>e=.returned (.string (str (aftS (fns rs) r.fn i s)))∧Below w.heap.size w w':=by
 obtain ⟨sn,hsn⟩:∃ sn,sn=s.length:=⟨_,rfl⟩
 obtain ⟨t,HT⟩:∃ t,Hid (t=takesK (fns rs) r.fn i (topK s)):=⟨_,Lib.hid rfl⟩
 obtain ⟨lv,HL⟩:∃ t,Hid (t=leavesK (fns rs) r.fn i (topK s)):=⟨_,Lib.hid rfl⟩
 obtain ⟨k,HK⟩:∃ k,Hid (k=t.length):=⟨_,Lib.hid rfl⟩
 have HAF:Hid (afterK (fns rs) r.fn i s=if k≤sn∧s.drop (sn-k)=t∧¬(i.op=24∧k<sn) then some (s.take (sn-k) ++ lv) else none):=Lib.hid (by
  unfold afterK;rw [← HT.out,← HL.out,← HK.out,← hsn])
 have hk:k≤255:=by rw [HK.out,HT.out];exact takesK_len hok
 have hlvl:lv.length≤2:=by rw [HL.out];exact leavesK_len _ _ _ _
 have HT01:Hid (k01 t):=Lib.hid (by rw [HT.out];exact takesK_01 hok hokf i (topK_01 hk01))
 have HS01:=Lib.hid hk01
 have hop:=opB_iff.1 (okI_iff.1 hio).1
 obtain ⟨op,arg,imm⟩:=i
 have h0:=(fitB_iff.1 (okI_iff.1 hio).2.1).1
 simp only at h0 hop
 obtain ⟨a,rfl⟩:∃ a:Nat,arg=(a:Int):=⟨arg.toNat,by omega⟩
 have HP:=Lib.hid hp
 have HF:=Lib.hid hf
 have HIN:=Lib.hid hin
 have HOK:=Lib.hid hok
 have HOKF:=Lib.hid hokf
 have HSN:=Lib.hid hsn
 obtain ⟨S,HS⟩:∃ S,Hid (S=str (ltr s)):=⟨_,rfl⟩
 have hss:S.size=sn:=by rw [HS.out,str_size,length_ltr,← HSN.out]
 have hs':sn≤100000:=by omega
 obtain ⟨nl,HNL⟩:∃ nl,Hid (nl=r.fn.locals.length):=⟨_,rfl⟩
 obtain ⟨nc,HNC⟩:∃ nc,Hid (nc=r.fn.code.length):=⟨_,rfl⟩
 have hBB:B≤w.heap.size:=hB
 simp only
 rw [← HS.out,← HNL.out,← HNC.out]
 obtain ⟨OP,HOP⟩:∃ o,o=Obj.cells #[.slice A n c] 24:=⟨_,rfl⟩
 clear hp hf hin hio hok hokf hk01 hs hsn hB HOP OP
 go_enter Try.func39,Try.ntmps39
 go_upto_block 0 with fail
 go_cut [1,9,10] (fun x1 x9 x10 wx=>x1=.agg #[.int .i64 r.fn.params,.slice r.lo nl r.lc,.bool r.fn.result,.int .i64 r.fn.keep,.slice r.co nc r.cc]∧x9=.string (str (ltr t))∧x10=.string (str (ltr lv))∧Hid (Below w.heap.size w wx)∧¬(op=24∧k<sn))
 case first =>
  have HBW:Hid (∀ o1 o2 o3:Obj,Below w.heap.size w (((w.alloc o1).alloc o2).alloc o3)):=Lib.hid fun o1 o2 o3=>(((Below.refl _ _).alloc (Nat.le_refl _) o1).alloc (by simp) o2).alloc (by simp;omega) o3
  clear hlvl hk
  by_cases c1:op=1∨op=28
  ·have ht:t=[]:=by rw [HT.out];rcases c1 with rfl | rfl <;> simp [takesK]
   have hl:lv=[0]:=by rw [HL.out];rcases c1 with rfl | rfl <;> simp [leavesK]
   have HT1:=Lib.hid ht;have HL1:=Lib.hid hl;clear ht hl
   rcases c1 with rfl | rfl
   all_goals
    go_wp2_with fail
    go_meet
    exact ⟨rfl,by rw [HT1.out];rfl,by rw [HL1.out];rfl,HBW.out _ _ _,by omega⟩
  by_cases c2:op=2
  ·subst c2
   have hlt:=insRef_loc HIN.out (.inl rfl)
   simp only at hlt
   obtain ⟨b,off,x,hA,hb,HX,x0⟩:=HF.out.locals.byte (k:=a) (by omega)
   have HT1:Hid (t=[]):=Lib.hid (by rw [HT.out];simp [takesK,locK,List.getD_eq_getElem?_getD,HX.out])
   have HL1:Hid (lv=[x]):=Lib.hid (by rw [HL.out];simp [leavesK,locK,List.getD_eq_getElem?_getD,HX.out])
   rw [← HNL.out] at hlt
   have hlt':a<nl:=by omega
   have hbw:b<w.heap.size:=by omega
   rw [hA]
   have x0':∀ o1 o2 o3:Obj,(((w.alloc o1).alloc o2).alloc o3).cell? ⟨b,off+a,none⟩=some (.int .u8 x):=fun o1 o2 o3=>by rw [World.cell?_alloc_lt _ _ _ (by simp;omega),World.cell?_alloc_lt _ _ _ (by simp;omega),World.cell?_alloc_lt _ _ _ hbw];exact x0
   have HA:=Lib.hid hA
   clear hlt hA HX x0
   go_wp2_with (go_at_call 62;refine (letter_any x _).mono ?_;rintro e w2 ⟨rfl,rfl⟩)
   all_goals
    go_meet
    exact ⟨by rw [HA.out],by rw [HT1.out];rfl,by rw [HL1.out];rfl,HBW.out _ _ _,by omega⟩
  by_cases c3:op=3
  ·subst c3
   have hlt:=insRef_loc HIN.out (.inr rfl)
   simp only at hlt
   obtain ⟨b,off,x,hA,hb,HX,x0⟩:=HF.out.locals.byte (k:=a) (by omega)
   have HT1:Hid (t=[x]):=Lib.hid (by rw [HT.out];simp [takesK,locK,List.getD_eq_getElem?_getD,HX.out])
   have HL1:Hid (lv=[]):=Lib.hid (by rw [HL.out];simp [leavesK,locK,List.getD_eq_getElem?_getD,HX.out])
   rw [← HNL.out] at hlt
   have hlt':a<nl:=by omega
   have hbw:b<w.heap.size:=by omega
   rw [hA]
   have x0':∀ o1 o2 o3:Obj,(((w.alloc o1).alloc o2).alloc o3).cell? ⟨b,off+a,none⟩=some (.int .u8 x):=fun o1 o2 o3=>by rw [World.cell?_alloc_lt _ _ _ (by simp;omega),World.cell?_alloc_lt _ _ _ (by simp;omega),World.cell?_alloc_lt _ _ _ hbw];exact x0
   have HA:=Lib.hid hA
   clear hlt hA HX x0
   go_wp2_with (go_at_call 62;refine (letter_any x _).mono ?_;rintro e w2 ⟨rfl,rfl⟩)
   all_goals
    go_meet
    exact ⟨by rw [HA.out],by rw [HT1.out];rfl,by rw [HL1.out];rfl,HBW.out _ _ _,by omega⟩
  by_cases c4:op=4
  ·have ht:t=[]:=by rw [HT.out,c4];simp [takesK]
   have hl:lv=[1]:=by rw [HL.out,c4];simp [leavesK]
   have HT1:=Lib.hid ht;have HL1:=Lib.hid hl;clear ht hl
   subst c4
   all_goals
    go_wp2_with fail
    go_meet
    exact ⟨rfl,by rw [HT1.out];rfl,by rw [HL1.out];rfl,HBW.out _ _ _,by omega⟩
  by_cases c5:op=5
  ·have ht:t=[1]:=by rw [HT.out,c5];simp [takesK]
   have hl:lv=[0]:=by rw [HL.out,c5];simp [leavesK]
   have HT1:=Lib.hid ht;have HL1:=Lib.hid hl;clear ht hl
   subst c5
   all_goals
    go_wp2_with fail
    go_meet
    exact ⟨rfl,by rw [HT1.out];rfl,by rw [HL1.out];rfl,HBW.out _ _ _,by omega⟩
  by_cases c6:op=6
  ·have ht:t=[1,0]:=by rw [HT.out,c6];simp [takesK]
   have hl:lv=[]:=by rw [HL.out,c6];simp [leavesK]
   have HT1:=Lib.hid ht;have HL1:=Lib.hid hl;clear ht hl
   subst c6
   all_goals
    go_wp2_with fail
    go_meet
    exact ⟨rfl,by rw [HT1.out];rfl,by rw [HL1.out];rfl,HBW.out _ _ _,by omega⟩
  by_cases c7:op=7∨op=8∨op=9∨op=10∨op=11∨op=12∨op=13∨op=14∨op=15∨op=16∨op=17∨op=18∨op=19∨op=20
  ·have ht:t=[0,0]:=by rw [HT.out];rcases c7 with rfl | rfl | rfl | rfl | rfl | rfl | rfl | rfl | rfl | rfl | rfl | rfl | rfl | rfl <;> simp [takesK]
   have hl:lv=[0]:=by rw [HL.out];rcases c7 with rfl | rfl | rfl | rfl | rfl | rfl | rfl | rfl | rfl | rfl | rfl | rfl | rfl | rfl <;> simp [leavesK]
   have HT1:=Lib.hid ht;have HL1:=Lib.hid hl;clear ht hl
   rcases c7 with rfl | rfl | rfl | rfl | rfl | rfl | rfl | rfl | rfl | rfl | rfl | rfl | rfl | rfl
   all_goals
    go_wp2_with fail
    go_meet
    exact ⟨rfl,by rw [HT1.out];rfl,by rw [HL1.out];rfl,HBW.out _ _ _,by omega⟩
  by_cases c21:op=21
  ·have ht:t=[]:=by rw [HT.out,c21];simp [takesK]
   have hl:lv=[]:=by rw [HL.out,c21];simp [leavesK]
   have HT1:=Lib.hid ht;have HL1:=Lib.hid hl;clear ht hl
   subst c21
   all_goals
    go_wp2_with fail
    go_meet
    exact ⟨rfl,by rw [HT1.out];rfl,by rw [HL1.out];rfl,HBW.out _ _ _,by omega⟩
  by_cases c22:op=22∨op=26∨op=29∨op=30
  ·have ht:t=[0]:=by rw [HT.out];rcases c22 with rfl | rfl | rfl | rfl <;> simp [takesK]
   have hl:lv=[]:=by rw [HL.out];rcases c22 with rfl | rfl | rfl | rfl <;> simp [leavesK]
   have HT1:=Lib.hid ht;have HL1:=Lib.hid hl;clear ht hl
   rcases c22 with rfl | rfl | rfl | rfl
   all_goals
    go_wp2_with fail
    go_meet
    exact ⟨rfl,by rw [HT1.out];rfl,by rw [HL1.out];rfl,HBW.out _ _ _,by omega⟩
  by_cases c27:op=27
  ·have ht:t=[]:=by rw [HT.out,c27];simp [takesK]
   have hl:lv=[0,0]:=by rw [HL.out,c27];simp [leavesK]
   have HT1:=Lib.hid ht;have HL1:=Lib.hid hl;clear ht hl
   subst c27
   all_goals
    go_wp2_with fail
    go_meet
    exact ⟨rfl,by rw [HT1.out];rfl,by rw [HL1.out];rfl,HBW.out _ _ _,by omega⟩
  by_cases c24:op=24
  ·subst c24
   have HT1:Hid (t=resOf r.fn):=Lib.hid (by rw [HT.out];simp [takesK])
   have HL1:Hid (lv=[]):=Lib.hid (by rw [HL.out];simp [leavesK])
   have HSL:Hid (S.toList=ltr s):=Lib.hid (by rw [HS.out,str_toList])
   have HNO:s≠t→Hid (aftS (fns rs) r.fn ⟨24,a,imm⟩ s=[33]):=fun hne=>Lib.hid (aftS_none (by
    rw [HAF.out,if_neg]
    rintro ⟨h1,h2,h3⟩
    have h4:¬((24:Int)=24∧k<sn):=h3
    have:sn=k:=by omega
    rw [this,Nat.sub_self,List.drop_zero] at h2
    exact hne h2))
   have HYE:s=t→¬((24:Int)=24∧k<sn):=fun he=>by
    have:=HSN.out;rw [he,← HK.out] at this;omega
   have ht2:∀ q,r.fn.result=q→str (ltr t)=if q then ⟨#[110]⟩ else ⟨#[]⟩:=fun q hq=>by
    rw [HT1.out];unfold resOf;rw [hq];cases q <;> rfl
   cases hr:r.fn.result with
   | false =>
    have h2:=ht2 _ hr
    simp only [Bool.false_eq_true,if_false] at h2
    have HH2:=Lib.hid h2
    clear h2 ht2
    have HT0:Hid (t=[]):=Lib.hid (by rw [HT1.out];unfold resOf;rw [hr];rfl)
    have HR:=Lib.hid hr
    clear hr
    go_wp2_with fail
    ·rename_i hh _
     go_ret
     have hne:s≠t:=by
      intro he
      rw [HSL.out,he,HT0.out] at hh
      revert hh
      decide
     exact ⟨by rw [(HNO hne).out];rfl,HBW.out _ _ _⟩
    ·rename_i hh _
     go_meet
     have he:s=t:=by
      rw [HSL.out] at hh
      have h6:ltr s=[]:=by simpa using hh
      exact ltr_inj HS01.out HT01.out (by rw [h6,HT0.out];rfl)
     exact ⟨by rw [HR.out],by rw [HH2.out],by rw [HL1.out];rfl,HBW.out _ _ _,HYE he⟩
   | true =>
    have h2:=ht2 _ hr
    simp only [if_true] at h2
    have HH2:=Lib.hid h2
    clear h2 ht2
    have HT0:Hid (t=[0]):=Lib.hid (by rw [HT1.out];unfold resOf;rw [hr];rfl)
    have HR:=Lib.hid hr
    clear hr
    go_wp2_with fail
    ·rename_i hh _
     go_ret
     have hne:s≠t:=by
      intro he
      rw [HSL.out,he,HT0.out] at hh
      revert hh
      decide
     exact ⟨by rw [(HNO hne).out];rfl,HBW.out _ _ _⟩
    ·rename_i hh _
     go_meet
     have he:s=t:=by
      rw [HSL.out] at hh
      have h6:ltr s=[110]:=by simpa using hh
      exact ltr_inj HS01.out HT01.out (by rw [h6,HT0.out];rfl)
     exact ⟨by rw [HR.out],by rw [HH2.out],by rw [HL1.out];rfl,HBW.out _ _ _,HYE he⟩
  by_cases c23:op=23∨op=25
  ·have hlt:=insRef_fn HIN.out c23
   simp only at hlt
   have hlen:=HP.out.len
   rw [length_fns,hlen] at hlt
   obtain ⟨b,off,g,hA,hb,HG,HGF,HGW,x0,x1,x2,x3,x4⟩:=HP.out.fn (k:=a) (by omega)
   have HFN:Hid ((fns rs)[a]?=some g.fn):=Lib.hid (by unfold fns;rw [List.getElem?_map,HG.out];rfl)
   have hokf:=okF_par ((okP_iff.1 HOK.out).2.2 g.fn (List.mem_of_getElem? HFN.out))
   have hcap:=HGF.out.cap
   obtain ⟨p,hp⟩:∃ p:Nat,g.fn.params=(p:Int):=⟨g.fn.params.toNat,by omega⟩
   have HT1:Hid (t=g.fn.locals.take p):=Lib.hid (by
    rw [HT.out]
    unfold takesK parK
    simp only [Int.toNat_natCast,HFN.out,hp]
    rw [if_neg (by omega),if_neg (by omega),if_neg (by omega),if_neg (by omega),if_pos c23])
   have HL23:Hid (op=23→lv=resOf g.fn):=Lib.hid (by
    intro h;rw [HL.out,h]
    simp [leavesK,resK,HFN.out])
   have HL25:Hid (op=25→lv=[]):=Lib.hid (by
    intro h;rw [HL.out,h]
    simp [leavesK])
   have HRD:Hid (∀ W,Below w.heap.size w W→Calls Try.prog 63 #[.slice g.lo p g.lc] W fun e w'=>e=.returned (.string (str (ltr t)))∧W=w'):=Lib.hid fun W hW=>by
    rw [HT1.out]
    exact letters_any B g.lo p g.lc _ W (pre_reads (HGF.out.locals.below (hW.mono (by omega))) (by omega)) (by omega)
   have HBX:Hid (∀ o1 o2 o3 o4:Obj,Below w.heap.size w ((((w.alloc o1).alloc o2).alloc o3).alloc o4)):=Lib.hid fun o1 o2 o3 o4=>(HBW.out o1 o2 o3).alloc (by simp;omega) o4
   rw [hp] at x0 hokf
   subst hA
   obtain ⟨gl,hgl⟩:∃ nl,nl=g.fn.locals.length:=⟨_,rfl⟩
   rw [← hgl] at x1 hcap hokf
   have hbw:b<w.heap.size:=by omega
   have X:∀ (o1 o2 o3:Obj) (j:Nat),(((w.alloc o1).alloc o2).alloc o3).cell? ⟨b,j,none⟩=w.cell? ⟨b,j,none⟩:=fun o1 o2 o3 j=>by rw [World.cell?_alloc_lt _ _ _ (by simp;omega),World.cell?_alloc_lt _ _ _ (by simp;omega),World.cell?_alloc_lt _ _ _ hbw]
   have y0:∀ o1 o2 o3:Obj,(((w.alloc o1).alloc o2).alloc o3).cell? ⟨b,off+a*5,none⟩=some (.int .i64 p):=fun o1 o2 o3=>(X o1 o2 o3 _).trans x0
   have y1:∀ o1 o2 o3:Obj,(((w.alloc o1).alloc o2).alloc o3).cell? ⟨b,off+a*5+1,none⟩=some (.slice g.lo gl g.lc):=fun o1 o2 o3=>(X o1 o2 o3 _).trans x1
   have y3:∀ o1 o2 o3:Obj,(((w.alloc o1).alloc o2).alloc o3).cell? ⟨b,off+a*5+3,none⟩=some (.int .i64 g.fn.keep):=fun o1 o2 o3=>(X o1 o2 o3 _).trans x3
   have y4:∀ o1 o2 o3:Obj,(((w.alloc o1).alloc o2).alloc o3).cell? ⟨b,off+a*5+4,none⟩=some (.slice g.co g.fn.code.length g.cc):=fun o1 o2 o3=>(X o1 o2 o3 _).trans x4
   have hlt':a<n:=by omega
   have hpl:p≤g.lc:=by omega
   have hp0:(0:Int)≤(p:Int):=by omega
   have hlc:p≤255:=by omega
   have hlg:p≤gl:=by omega
   cases hres:g.fn.result with
   | false =>
    rw [hres] at x2
    have y2:∀ o1 o2 o3:Obj,(((w.alloc o1).alloc o2).alloc o3).cell? ⟨b,off+a*5+2,none⟩=some (.bool false):=fun o1 o2 o3=>(X o1 o2 o3 _).trans x2
    have HR0:Hid (lv=[]):=Lib.hid (by
     rcases c23 with h | h
     ·rw [HL23.out h];unfold resOf;rw [hres];rfl
     ·exact HL25.out h)
    clear hgl hlt hp hokf hcap hlen HFN HG HGW x0 x1 x2 x3 x4 X hres
    rcases c23 with rfl | rfl
    all_goals
     go_wp2_with (go_at_call 63;refine (HRD.out _ (HBX.out _ _ _ _)).mono ?_;rintro e w2 ⟨rfl,rfl⟩)
     go_meet
     exact ⟨rfl,rfl,by rw [HR0.out];rfl,HBX.out _ _ _ _,by omega⟩
   | true =>
    rw [hres] at x2
    have y2:∀ o1 o2 o3:Obj,(((w.alloc o1).alloc o2).alloc o3).cell? ⟨b,off+a*5+2,none⟩=some (.bool true):=fun o1 o2 o3=>(X o1 o2 o3 _).trans x2
    have HR23:Hid (op=23→lv=[0]):=Lib.hid fun h=>by
     rw [HL23.out h];unfold resOf;rw [hres];rfl
    clear hgl hlt hp hokf hcap hlen HFN HG HGW x0 x1 x2 x3 x4 X hres
    rcases c23 with rfl | rfl
    ·have HQ1:=Lib.hid (HR23.out rfl)
     clear HR23 HL23 HL25
     go_wp2_with (go_at_call 63;refine (HRD.out _ (HBX.out _ _ _ _)).mono ?_;rintro e w2 ⟨rfl,rfl⟩)
     go_meet
     exact ⟨rfl,rfl,by rw [HQ1.out];rfl,HBX.out _ _ _ _,by omega⟩
    ·have HQ1:=Lib.hid (HL25.out rfl)
     clear HR23 HL23 HL25
     go_wp2_with (go_at_call 63;refine (HRD.out _ (HBX.out _ _ _ _)).mono ?_;rintro e w2 ⟨rfl,rfl⟩)
     go_meet
     exact ⟨rfl,rfl,by rw [HQ1.out];rfl,HBX.out _ _ _ _,by omega⟩
  have h31:op=31∨op=32:=by omega
  rcases Nat.eq_zero_or_pos sn with hz | hz
  ·have HNO:Hid (aftS (fns rs) r.fn ⟨op,a,imm⟩ s=[33]):=Lib.hid (aftS_none (by
    rw [HAF.out,if_neg]
    rintro ⟨h1,h2,h3⟩
    have:k=1:=by rw [HK.out,HT.out];rcases h31 with rfl | rfl <;> simp [takesK]
    omega))
   have HSE:Hid (S=⟨#[]⟩):=Lib.hid (by
    rw [HS.out]
    have:s=[]:=List.eq_nil_of_length_eq_zero (by rw [← HSN.out,hz])
    rw [this];rfl)
   rw [HSE.out]
   clear HNL hss
   rcases h31 with rfl | rfl
   all_goals
    go_wp2_with fail
    go_ret
    exact ⟨by rw [HNO.out];rfl,HBW.out _ _ _⟩
  ·obtain ⟨s1,hs1⟩:∃ s1:Nat,(sn:Int)-1=(s1:Int):=⟨sn-1,by omega⟩
   have hs1n:s1+1=sn:=by omega
   have HS1:=Lib.hid hs1n
   have HTK:Hid (s.drop s1=[topK s]):=Lib.hid (by
    have h1:s1+1=s.length:=by have:=HSN.out;omega
    exact drop_top h1)
   have HT1:Hid (t=[topK s]):=Lib.hid (by rw [HT.out];rcases h31 with rfl | rfl <;> simp [takesK])
   have HTS:Hid (S.extract s1 sn=str (ltr t)):=Lib.hid (by
    rw [HS.out,str_extract,ltr_drop,HTK.out,HT1.out]
    rw [List.take_of_length_le (by rw [length_ltr];simp;omega)])
   obtain ⟨T,hT⟩:∃ T,S.extract s1 sn=T:=⟨_,rfl⟩
   have HTT:Hid (T=str (ltr t)):=Lib.hid (by rw [← hT];exact HTS.out)
   have hts:T.size=1:=by rw [HTT.out,str_size,length_ltr,HT1.out];rfl
   have hne0:S.toList.isEmpty=false:=by
    rw [HS.out,str_toList]
    have:=HSN.out
    cases s with
    | nil=>simp at this;omega
    | cons x s=>rfl
   have hs1b:s1≤sn:=by omega
   clear hz HNL
   rcases h31 with rfl | rfl
   ·have HL1:Hid (lv=[]):=Lib.hid (by rw [HL.out];simp [leavesK])
    go_wp2_with fail
    go_meet
    exact ⟨rfl,by rw [HTT.out],by rw [HL1.out];rfl,HBW.out _ _ _,by omega⟩
   ·have HL1:Hid (str (ltr lv)=T ++ T):=Lib.hid (by rw [HL.out,HTT.out,str_append,HT1.out];simp [leavesK,ltr])
    go_wp2_with fail
    go_meet
    exact ⟨rfl,by rw [HTT.out],by rw [HL1.out],HBW.out _ _ _,by omega⟩
 case rest =>
  obtain ⟨rfl,rfl,rfl,HW,h24⟩:=hcut
  obtain ⟨T,HTT⟩:∃ T,Hid (T=str (ltr t)):=⟨_,rfl⟩
  have hts:T.size=k:=by rw [HTT.out,str_size,length_ltr,← HK.out]
  obtain ⟨V,HVV⟩:∃ T,Hid (T=str (ltr lv)):=⟨_,rfl⟩
  have hvs:V.size≤2:=by rw [HVV.out,str_size,length_ltr];exact hlvl
  rw [← HTT.out,← HVV.out]
  clear hlvl
  by_cases c1:sn<k
  ·have HN:Hid (aftS (fns rs) r.fn ⟨op,a,imm⟩ s=[33]):=Lib.hid (aftS_none (by rw [HAF.out,if_neg (by omega)]))
   have g1:decide ((sn:Int)<(k:Int))=true:=by simp;omega
   go_wp2
   go_ret
   exact ⟨by rw [HN.out];rfl,HW.out⟩
  ·obtain ⟨bel,hbel⟩:∃ bel,bel=sn-k:=⟨_,rfl⟩
   have hsub:(sn:Int)-(k:Int)=(bel:Int):=by omega
   have g1:decide ((sn:Int)<(k:Int))=false:=by simp;omega
   have hb0:(0:Int)≤(bel:Int):=by omega
   have hbn:bel≤sn:=by omega
   have hbs:bel≤S.size:=by omega
   have HBL:=Lib.hid hbel
   have HX:Hid (S.extract bel sn=str (ltr (s.drop bel))):=Lib.hid (by
    rw [HS.out,str_extract,ltr_drop,List.take_of_length_le (by rw [length_ltr,List.length_drop,← HSN.out];omega)])
   have HY:Hid (S.extract 0 bel ++ V=str (ltr (s.take bel ++ lv))):=Lib.hid (by
    rw [HS.out,HVV.out,str_extract,str_append,ltr_append,List.drop_zero,Nat.sub_zero,ltr_take])
   obtain ⟨X,hX⟩:∃ X,S.extract bel sn=X:=⟨_,rfl⟩
   obtain ⟨Y,hY⟩:∃ X,S.extract 0 bel=X:=⟨_,rfl⟩
   have hys:Y.size=bel:=by rw [← hY,HS.out,str_extract,str_size,List.drop_zero,List.length_take,length_ltr,← HSN.out];omega
   rw [hX] at HX
   rw [hY] at HY
   have HHX:=Lib.hid hX
   have HHY:=Lib.hid hY
   by_cases c2:s.drop bel=t
   ·have HN:Hid (aftS (fns rs) r.fn ⟨op,a,imm⟩ s=ltr (s.take bel ++ lv)):=Lib.hid (by
     rw [← hbel] at HAF
     exact aftS_some (by rw [HAF.out,if_pos ⟨by omega,c2,h24⟩]))
    have hxt:X=T:=by rw [HX.out,HTT.out,c2]
    have HHXT:=Lib.hid hxt
    have hxe:(X.toList == T.toList)=true:=by rw [hxt];simp
    have HXE:=Lib.hid hxe
    clear hbel c2 hxt hxe
    go_wp2
    ·rename_i hh
     simp [HXE.out] at hh
    ·go_ret
     exact ⟨by rw [HN.out,← HY.out];rfl,HW.out⟩
   ·have HN:Hid (aftS (fns rs) r.fn ⟨op,a,imm⟩ s=[33]):=Lib.hid (aftS_none (by
     rw [← hbel] at HAF
     rw [HAF.out,if_neg (by intro h;exact c2 h.2.1)]))
    have hxt:X≠T:=by
     rw [HX.out,HTT.out]
     intro h
     exact c2 (ltr_inj (k01_drop HS01.out _) HT01.out (str_inj h))
    have HHXT:=Lib.hid hxt
    have hxe:(X.toList == T.toList)=false:=by
     rw [Bool.eq_false_iff]
     intro h
     have h:=eq_of_beq h
     rw [ByteArray.toList_eq,ByteArray.toList_eq] at h
     exact hxt (ByteArray.ext (by rw [← Array.toList_inj];exact h))
    have HXE:=Lib.hid hxe
    clear hbel c2 hxt hxe
    go_wp2
    ·go_ret
     exact ⟨by rw [HN.out];rfl,HW.out⟩
    ·rename_i hh
     simp [HXE.out] at hh
def Dn (fs:List Fn) (f:Fn) (l:List (Option Stk)) (deep:Bool) (a:Nat) (s:Stk):Prop:=∃ i s',f.code[a]?=some i∧afterK fs f i s=some s'∧(∀ b ∈ succK a i,l[b]?=some (some s'))∧(16<s'.length→deep=true)
structure Swp (fs:List Fn) (f:Fn) (l:List (Option Stk)) (more deep:Bool) (c0 a:Nat):Prop where
 len:l.length=f.code.length
 zero:l[0]?=some (some [])
 sound:∀ (b:Nat) s,l[b]?=some (some s)→Reach fs f b s
 short:∀ (b:Nat) s,l[b]?=some (some s)→s.length+2+2*cnt l≤2*l.length
 kinds:∀ (b:Nat) s,l[b]?=some (some s)→k01 s
 seen:deep=true→∃ b s i s',Reach fs f b s∧f.code[b]?=some i∧afterK fs f i s=some s'∧16<s'.length
 done:more=false→∀ b,b<a→∀ s,l[b]?=some (some s)→Dn fs f l deep b s
 less:more=true→cnt l<c0
 le:cnt l≤c0
section
variable {fs:List Fn} {f:Fn} {l:List (Option Stk)} {more deep:Bool} {c0 a b:Nat} {s s':Stk} {i:Ins}
theorem Swp.start (hc:0<f.code.length):Swp fs f ((List.replicate f.code.length none).set 0 (some [])) false false (cnt ((List.replicate f.code.length none).set 0 (some []))) 0:=by
 have h:=Inv.start (fs:=fs) hc
 refine ⟨h.len,h.zero,h.sound,h.short,fun b s hb=>?_,(by intro h;cases h),(by intro _ b hb;omega),(by intro h;cases h),Nat.le_refl _⟩
 rw [List.getElem?_set] at hb
 split at hb
 ·split at hb
  ·simp at hb;subst hb;exact k01_nil
  ·cases hb
 ·rw [List.getElem?_replicate] at hb
  split at hb <;> simp at hb
theorem Swp.again (h:Swp fs f l more deep c0 a):Swp fs f l false deep (cnt l) 0 :=
 ⟨h.len,h.zero,h.sound,h.short,h.kinds,h.seen,(by intro _ b hb;omega),(by intro h;cases h),Nat.le_refl _⟩
theorem Swp.skip (h:Swp fs f l more deep c0 a) (ha:l[a]?=some none):Swp fs f l more deep c0 (a+1) :=
 ⟨h.len,h.zero,h.sound,h.short,h.kinds,h.seen,(by
  intro hm b hb s hs
  rcases Nat.lt_succ_iff_lt_or_eq.1 hb with hlt | rfl
  ·exact h.done hm b hlt s hs
  ·rw [ha] at hs;cases hs),h.less,h.le⟩
theorem Dn.deep_ {d d':Bool} (h:Dn fs f l d b s) (hd:d=true→d'=true):Dn fs f l d' b s:=by
 obtain ⟨i,s',h1,h2,h3,h4⟩:=h
 exact ⟨i,s',h1,h2,h3,fun hh=>hd (h4 hh)⟩
theorem Swp.look (h:Swp fs f l more deep c0 a) (ha:l[a]?=some (some s)) (hc:f.code[a]?=some i) (hs:afterK fs f i s=some s'):Swp fs f l more (deep || decide (16<s'.length)) c0 a :=
 ⟨h.len,h.zero,h.sound,h.short,h.kinds,(by
  intro hd
  cases hdd:deep with
  | true=>exact h.seen hdd
  | false =>
   rw [hdd] at hd
   exact ⟨a,s,i,s',h.sound a s ha,hc,hs,by simpa using hd⟩),fun hm b hb t ht=>(h.done hm b hb t ht).deep_ (fun hd=>by rw [hd];rfl),h.less,h.le⟩
theorem Swp.put (h:Swp fs f l more deep c0 a) (hb:l[b]?=some none) (hr:Reach fs f b s') (hs:s'.length+2*cnt l≤2*l.length) (hk:k01 s'):Swp fs f (l.set b (some s')) true deep c0 a:=by
 obtain ⟨hlt,he⟩:=List.getElem?_eq_some_iff.1 hb
 have hcs:=cnt_set hb s'
 have hle:=h.le
 have hat:∀ (x:Nat) t,(l.set b (some s'))[x]?=some (some t)→(x=b∧t=s')∨l[x]?=some (some t):=by
  intro x t hx
  rw [List.getElem?_set] at hx
  split at hx
  ·rename_i hbx
   injection hx with hx
   injection hx with hx
   exact .inl ⟨hbx.symm,hx.symm⟩
  ·exact .inr hx
 refine ⟨by rw [List.length_set];exact h.len,?_,fun x t hx=>?_,fun x t hx=>?_,fun x t hx=>?_,h.seen,(by intro hm;cases hm),(by intro _;omega),(by omega)⟩
 ·rw [List.getElem?_set_ne (by rintro rfl;rw [h.zero] at hb;cases hb)]
  exact h.zero
 ·rcases hat x t hx with ⟨rfl,rfl⟩ | hx
  ·exact hr
  ·exact h.sound x t hx
 ·rw [List.length_set]
  rcases hat x t hx with ⟨rfl,rfl⟩ | hx
  ·omega
  ·have:=h.short x t hx;omega
 ·rcases hat x t hx with ⟨rfl,rfl⟩ | hx
  ·exact hk
  ·exact h.kinds x t hx
theorem Swp.next (h:Swp fs f l more deep c0 a) (ha:l[a]?=some (some s)) (hc:f.code[a]?=some i) (hs:afterK fs f i s=some s') (hb:∀ b ∈ succK a i,l[b]?=some (some s')) (hd:16<s'.length→deep=true):Swp fs f l more deep c0 (a+1) :=
 ⟨h.len,h.zero,h.sound,h.short,h.kinds,h.seen,(by
  intro hm b hb' t ht
  rcases Nat.lt_succ_iff_lt_or_eq.1 hb' with hlt | rfl
  ·exact h.done hm b hlt t ht
  ·rw [ha] at ht
   injection ht with ht
   injection ht with ht
   subst ht
   exact ⟨i,s',hc,hs,hb,hd⟩),h.less,h.le⟩
theorem Swp.sol (h:Swp fs f l false deep c0 f.code.length):Sol fs f l:=by
 have hi:Inv fs f l []:=⟨h.len,h.zero,h.sound,fun a ha=>by simp at ha,fun b s hb _=>by
  obtain ⟨i,s',h1,h2,h3,_⟩:=h.done rfl b (by rw [← h.len];exact (List.getElem?_eq_some_iff.1 hb).1) s hb
  exact ⟨i,s',h1,h2,h3⟩,h.short⟩
 exact hi.sol
theorem after_long {fs:List Fn} {f:Fn} {i:Ins} {s s':Stk} (h:afterK fs f i s=some s') (hn:∀ a,succK a i=[]):s'.length≤s.length:=by
 have ho:i.op=24∨i.op=26∨i.op=30:=by
  have:=hn 0
  unfold succK at this
  split at this
  ·cases this
  split at this
  ·cases this
  split at this
  ·assumption
  ·cases this
 have hl:leavesK fs f i (topK s)=[]:=by
  unfold leavesK
  rw [if_neg (by omega),if_neg (by omega),if_neg (by omega),if_neg (by omega),if_neg (by omega),if_neg (by omega),if_neg (by omega)]
 unfold afterK at h
 split at h
 ·injection h with h
  rw [← h,hl,List.append_nil,List.length_take]
  omega
 ·cases h
theorem Swp.deep_ (h:Swp fs f l false deep c0 f.code.length):deep=true↔∃ a s,Reach fs f a s∧16<s.length:=by
 have hS:=h.sol
 constructor
 ·intro hd
  obtain ⟨b,s,i,s',hr,hc,hs,hl⟩:=h.seen hd
  rcases he:succK b i with _ | ⟨x,_⟩
  ·have hn:∀ a,succK a i=[]:=by
    intro a
    unfold succK at he ⊢
    split
    ·rename_i h1;rw [if_pos h1] at he;cases he
    rename_i h1;rw [if_neg h1] at he
    split
    ·rename_i h2;rw [if_pos h2] at he;cases he
    rename_i h2;rw [if_neg h2] at he
    split
    ·rfl
    ·rename_i h3;rw [if_neg h3] at he;cases he
   have:=after_long hs hn
   exact ⟨b,s,hr,by omega⟩
  ·exact ⟨x,s',.step hr hc hs (by rw [he];simp),hl⟩
 ·rintro ⟨a,s,hr,hl⟩
  cases hr with
  | base=>simp at hl
  | step hr hc hs hb =>
   rename_i a0 s0 i0
   have h0:=(hS.iff a0 s0).2 hr
   obtain ⟨i1,s1,h1,h2,h3,h4⟩:=h.done rfl a0 (by rw [← h.len];exact (List.getElem?_eq_some_iff.1 h0).1) s0 h0
   rw [hc] at h1
   injection h1 with h1
   subst h1
   rw [hs] at h2
   injection h2 with h2
   subst h2
   exact h4 hl
def strO (x:Option Stk):ByteArray:=match x with
 | some s=>str (ltr s)
 | none=>str [63]
def rowO (l:List (Option Stk)):List Value:=l.map fun x=>.string (strO x)
theorem length_rowO (l:List (Option Stk)):(rowO l).length=l.length:=by simp [rowO]
theorem strO_toList (x:Option Stk):(strO x).toList=match x with
 | some s=>ltr s
 | none=>[63]:=by cases x <;> exact str_toList _
theorem strO_some (s:Stk):((strO (some s)).toList == [63])=false:=by
 rw [strO_toList]
 simp only
 rw [Bool.eq_false_iff]
 intro h
 exact ltr_ne (by decide) (by decide) (eq_of_beq h)
theorem strO_none:((strO none).toList == [63])=true:=by rw [strO_toList];rfl
def StkP (fs:List Fn) (f:Fn) (base:Nat) (w:World) (e:Ending) (w':World):Prop:=Below w.heap.size w w' ∧
 ((e=.returned (.tuple #[.slice none 0 0,.bool false,.bool false])∧¬ Fine fs f) ∨
  (∃ A m c l deep,e=.returned (.tuple #[.slice A m c,.bool deep,.bool true])∧m=f.code.length∧Sol fs f l∧(deep=true↔∃ a s,Reach fs f a s∧16<s.length)∧w'.ownsRow base 9 1 (.slice A m c) m (rowO l)))
end
def insNam (fs:List Fn) (f:Fn) (i:Ins):Bool :=
 if i.op=2∨i.op=3 then decide (i.arg<f.locals.length)
 else if i.op=4 then decide (i.arg<f.locals.length) && decide (f.locals.getD i.arg.toNat 0=0)
 else if i.op=21∨i.op=22 then decide (i.arg<f.code.length)
 else if i.op=23 then decide (i.arg<fs.length)
 else if i.op=25 then decide (i.arg<fs.length) && !(f.result && decide (f.keep<0)) else true
def headNam (f:Fn):Bool:=decide (f.code.length≠0) && decide (f.keep<f.locals.length) && !(decide (0≤f.keep) && decide (f.locals.getD f.keep.toNat 0≠0))
def namB (fs:List Fn) (f:Fn):Bool:=headNam f && f.code.all (insNam fs f)
theorem insNam_split (fs:List Fn) (f:Fn) (i:Ins):insNam fs f i=(insRef fs f i && !(decide (i.op=25) && (f.result && decide (f.keep<0)))):=by
 unfold insNam insRef numL
 by_cases h1:i.op=2∨i.op=3
 ·rw [if_pos h1,if_pos h1,decide_eq_false (by omega:¬ i.op=25)];simp
 rw [if_neg h1,if_neg h1]
 by_cases h2:i.op=4
 ·rw [if_pos h2,if_pos h2,decide_eq_false (by omega:¬ i.op=25)];simp
 rw [if_neg h2,if_neg h2]
 by_cases h3:i.op=21∨i.op=22
 ·rw [if_pos h3,if_pos h3,decide_eq_false (by omega:¬ i.op=25)];simp
 rw [if_neg h3,if_neg h3]
 by_cases h4:i.op=23
 ·rw [if_pos h4,if_pos (.inl h4),decide_eq_false (by omega:¬ i.op=25)];simp
 rw [if_neg h4]
 by_cases h5:i.op=25
 ·rw [if_pos h5,if_pos (.inr h5),decide_eq_true h5];simp
 ·rw [if_neg h5,if_neg (by omega),decide_eq_false h5];simp
theorem all_and {α:Type} (l:List α) (p q:α→Bool):l.all (fun x=>p x && q x)=(l.all p && l.all q):=by
 induction l with
 | nil=>rfl
 | cons x l ih=>simp only [List.all_cons,ih];cases p x <;> cases q x <;> simp
theorem all_not {α:Type} (l:List α) (p:α→Bool) (c:Bool):l.all (fun x=>!(p x && c))=(!c || !l.any p):=by
 induction l with
 | nil=>simp
 | cons x l ih=>simp only [List.all_cons,List.any_cons,ih];cases p x <;> cases c <;> simp
theorem namB_is (fs:List Fn) {f:Fn} (h:okF f=true):namB fs f=(decide (f.code.length≠0) && fnRef fs f):=by
 have hk:=(okF_iff.1 h).2.2.2.2.1
 have h1:f.code.all (insNam fs f)=(f.code.all (insRef fs f) && (!(f.result && decide (f.keep<0)) || !hasDef f)):=by
  rw [show insNam fs f=fun i=>insRef fs f i && !(decide (i.op=25) && (f.result && decide (f.keep<0))) from funext (insNam_split fs f),all_and,all_not]
  rfl
 unfold namB fnRef headNam keepsB
 rw [h1]
 by_cases hq:f.keep=-1
 ·rw [if_pos hq,hq]
  rw [decide_eq_true (by omega:(-1:Int)<f.locals.length),decide_eq_false (by omega:¬ (0:Int)≤-1)]
  cases f.code.all (insRef fs f) <;> cases f.result <;> cases hasDef f <;> simp
 ·rw [if_neg hq,decide_eq_false (by omega:¬ f.keep<0),decide_eq_true (by omega:0≤f.keep)]
  unfold numL
  cases f.code.all (insRef fs f) <;> by_cases hl:f.keep<f.locals.length <;> by_cases hz:f.locals.getD f.keep.toNat 0=0 <;> simp [hl,hz,Bool.and_assoc]
theorem not_fine_empty {fs:List Fn} {f:Fn} (h:f.code.length=0):¬ Fine fs f:=not_fine_code .base (by rw [List.length_eq_zero_iff.1 h];rfl)
theorem names_no {fs:List Fn} (hok:okP fs=true) (hb:bnd fs=true) (hm:mainB fs=true) {f:Fn} (hf:f ∈ fs) (hn:namB fs f=false):verd fs=50:=by
 have hof:=(okP_iff.1 hok).2.2 f hf
 rw [namB_is fs hof] at hn
 by_cases he:f.code.length=0
 ·cases hr:refB fs with
  | false=>exact verd_ref hok hb hr
  | true=>exact verd_fine hok hb hr hf (not_fine_empty he)
 ·refine verd_ref hok hb ?_
  rw [decide_eq_true he,Bool.true_and] at hn
  unfold refB
  rw [hm,Bool.true_and,List.all_eq_false]
  exact ⟨f,hf,by simp [hn]⟩
theorem names_yes {fs:List Fn} (hok:okP fs=true) (hm:mainB fs=true) (hn:fs.all (namB fs)=true):refB fs=true∧∀ f ∈ fs,0<f.code.length:=by
 have h:=List.all_eq_true.1 hn
 have h2:∀ f ∈ fs,0<f.code.length∧fnRef fs f=true:=fun f hf=>by
  have h3:=h f hf
  rw [namB_is fs ((okP_iff.1 hok).2.2 f hf),Bool.and_eq_true] at h3
  exact ⟨by have:=of_decide_eq_true h3.1;omega,h3.2⟩
 exact ⟨by unfold refB;rw [hm,Bool.true_and,List.all_eq_true];exact fun f hf=>(h2 f hf).2,fun f hf=>(h2 f hf).1⟩
theorem main_no {fs:List Fn} (hok:okP fs=true) (hb:bnd fs=true) (hm:mainB fs=false):verd fs=50:=verd_ref hok hb (by unfold refB;rw [hm];rfl)
theorem next_of (i:Ins) (a b:Nat) (x:Bool) (w:World) (h:Calls Try.prog 40 #[.agg #[.int .u8 i.op,.int .i64 i.arg,.int .u64 i.imm],.int .i64 a,.int .i64 b] w fun e w'=>e=.returned (.bool x)∧Below w.heap.size w w') (hx:decide (b ∈ succK a i)=x):Calls Try.prog 40 #[.agg #[.int .u8 i.op,.int .i64 i.arg,.int .u64 i.imm],.int .i64 a,.int .i64 b] w fun e w'=>e=.returned (.bool (decide (b ∈ succK a i)))∧Below w.heap.size w w':=by rw [hx];exact h
theorem next_any (i:Ins) (a b:Nat) (w:World) (h0:0≤i.arg) (ha:a≤100000) (hb:b≤100001) :
  Calls Try.prog 40 #[.agg #[.int .u8 i.op,.int .i64 i.arg,.int .u64 i.imm],.int .i64 a,.int .i64 b] w fun e w'=>e=.returned (.bool (decide (b ∈ succK a i)))∧Below w.heap.size w w':=by
 have HB:∀ o:Obj,Hid (Below w.heap.size w (w.alloc o)):=fun o=>(Below.refl _ _).alloc (Nat.le_refl _) o
 obtain ⟨op,arg,imm⟩:=i
 simp only at h0
 obtain ⟨k,rfl⟩:∃ k:Nat,arg=(k:Int):=⟨arg.toNat,by omega⟩
 obtain ⟨a1,ha1⟩:∃ a1:Nat,(a:Int)+1=(a1:Int):=⟨a+1,by omega⟩
 have HA1:Hid (a1=a+1):=Lib.hid (by omega)
 by_cases c21:op=21
 ·subst c21
  by_cases hk:b=k
  ·subst hk
   refine next_of _ _ _ true _ ?_ (by simp [succK])
   go_enter Try.func40,Try.ntmps40
   go_wp2
   go_ret
   exact ⟨rfl,(HB _).out⟩
  ·refine next_of _ _ _ false _ ?_ (by simp [succK];omega)
   have g1:(b == k)=false:=by simpa using hk
   have g2:((b:Int) == (k:Int))=false:=by simp;omega
   clear hk
   go_enter Try.func40,Try.ntmps40
   go_wp2
   go_ret
   exact ⟨rfl,(HB _).out⟩
 by_cases c22:op=22
 ·subst c22
  by_cases hk1:b=a1
  ·subst hk1
   refine next_of _ _ _ true _ ?_ (by simp [succK,HA1.out])
   go_enter Try.func40,Try.ntmps40
   go_wp2
   go_ret
   exact ⟨rfl,(HB _).out⟩
  ·have g1:(b == a1)=false:=by simpa using hk1
   have g2:((b:Int) == (a1:Int))=false:=by simp;omega
   have hn1:=Lib.hid hk1
   clear hk1
   by_cases hk:b=k
   ·subst hk
    refine next_of _ _ _ true _ ?_ (by simp [succK])
    go_enter Try.func40,Try.ntmps40
    go_wp2
    go_ret
    exact ⟨rfl,(HB _).out⟩
   ·refine next_of _ _ _ false _ ?_ (by have h1:=hn1.out;have h2:=HA1.out;simp [succK];omega)
    have g3:(b == k)=false:=by simpa using hk
    have g4:((b:Int) == (k:Int))=false:=by simp;omega
    clear hk
    go_enter Try.func40,Try.ntmps40
    go_wp2
    go_ret
    exact ⟨rfl,(HB _).out⟩
 by_cases c3:op=24∨op=26∨op=30
 ·refine next_of _ _ _ false _ ?_ (by unfold succK;rw [if_neg c21,if_neg c22,if_pos c3];simp)
  clear c21 c22
  rcases c3 with rfl | rfl | rfl
  all_goals
   go_enter Try.func40,Try.ntmps40
   go_wp2
   go_ret
   exact ⟨rfl,(HB _).out⟩
 have q21:(op == 21)=false:=by simpa using c21
 have q22:(op == 22)=false:=by simpa using c22
 have q24:(op == 24)=false:=by simp;omega
 have q26:(op == 26)=false:=by simp;omega
 have q30:(op == 30)=false:=by simp;omega
 have HS:Hid (succK a ⟨op,(k:Int),imm⟩=[a1]):=Lib.hid (by unfold succK;rw [if_neg c21,if_neg c22,if_neg c3,HA1.out])
 clear c21 c22 c3
 by_cases hk1:b=a1
 ·subst hk1
  refine next_of _ _ _ true _ ?_ (by rw [HS.out];simp)
  go_enter Try.func40,Try.ntmps40
  go_wp2
  go_ret
  exact ⟨rfl,(HB _).out⟩
 ·refine next_of _ _ _ false _ ?_ (by rw [HS.out];simpa using hk1)
  have g1:(b == a1)=false:=by simpa using hk1
  have g2:((b:Int) == (a1:Int))=false:=by simp;omega
  clear hk1
  go_enter Try.func40,Try.ntmps40
  go_wp2
  go_ret
  exact ⟨rfl,(HB _).out⟩
end Go.Proofs.Ytgekmjkfnhogkaa.Q
