/-
  Texts of one seat, one behind the other: QRefBytes, QRefBnd.
-/
import Derived.Deep.DeepCutAuto
import Derived.Test.YtgekmjkfnhogkaaMA31
import Derived.Test.YtgekmjkfnhogkaaMA14
import Derived.Test.YtgekmjkfnhogkaaMA3

set_option linter.unusedVariables false
set_option linter.unusedSimpArgs false
set_option maxRecDepth 100000
set_option maxHeartbeats 51200000
namespace Go.Proofs.Ytgekmjkfnhogkaa.Q
open Go.ChangeShapes Go.WideShapes Go.ChangeAt Go.RowKit
def BytR (w:World) (fs:List Fn) (e:Ending) (w':World):Prop :=
 ∃ (A:Option Addr) (k c:Nat),e=.returned (.tuple #[.slice A k c,.bool (okP fs)])∧(encA fs).1.length=k∧w'.ownsRow w.heap.size 5 1 (.slice A k c) k (u8c (encA fs).1)∧Below w.heap.size w w'
theorem BytR.no {w w':World} {fs:List Fn} (h:okP fs=false) (hb:Below w.heap.size w w'):BytR w fs (.returned (.tuple #[.slice none 0 0,.bool false])) w':=by
 have hq:encA fs=([],30):=by unfold encA;rw [h];rfl
 exact ⟨none,0,0,by rw [h],by rw [hq];rfl,by rw [hq];exact own_none _ _ _ _,hb⟩
theorem own_lit3 (w:World) (base:Nat) (a b c:Int) (hb:base≤w.heap.size):(w.alloc (.cells #[.int .u8 a,.int .u8 b,.int .u8 c] 5)).ownsRow base 5 1 (.slice (some ⟨w.heap.size,0,none⟩) 3 3) 3 (u8c [a,b,c]) :=
 ⟨rfl,.inr ⟨w.heap.size,3,_,rfl,hb,heap_alloc_new w _,Nat.le_refl _,by unfold maxLen;omega,rfl,rfl⟩⟩
theorem reads1 (w:World) (a:Int):Reads (w.alloc (.cells #[.int .u8 a] 5)) (w.heap.size+1) 1 (some ⟨w.heap.size,0,none⟩) 1 (u8c [a]):=one_reads w 5 [.int .u8 a] 1 rfl
theorem reads2 (w:World) (a b:Int):Reads (w.alloc (.cells #[.int .u8 a,.int .u8 b] 5)) (w.heap.size+1) 1 (some ⟨w.heap.size,0,none⟩) 2 (u8c [a,b]):=one_reads2 w a b
theorem own_under {w w':World} {base size n:Nat} {e:TypeId} {v:Value} {xs:List Value} (h:w.ownsRow base e size v n xs) (hb:Below w.heap.size w w'):w'.ownsRow base e size v n xs :=
 own_kept h fun i hi=>hb.block i (own_block_le h hi).2
theorem okP_no {fs:List Fn} {f:Fn} {k:Nat} (h:fs[k]?=some f) (hf:okF f=false):okP fs=false:=by
 cases hp:okP fs with
 | false=>rfl
 | true =>
  have:=(okP_iff.1 hp).2.2 f (List.mem_of_getElem? h)
  rw [hf] at this
  cases this
theorem okF_no {f:Fn} (h:¬ (f.locals.length≤255∧f.code.length≤65535∧0≤f.params∧f.params≤f.locals.length∧-1≤f.keep∧f.keep≤254∧(∀ k ∈ f.locals,kindB k=true)∧(∀ i ∈ f.code,okI i=true))):okF f=false:=by
 cases hp:okF f with
 | false=>rfl
 | true=>exact absurd (okF_iff.1 hp) h

theorem bytes_any (B:Nat) (A:Option Addr) (n c:Nat) (rs:List Raw) (w:World) (h:RdP w B A n rs) (hB:B≤w.heap.size) :
  Calls Try.prog 17 #[.agg #[.slice A n c]] w (BytR w (fns rs)):=by
 have hlen:=h.len
 have hsz:=h.sz
 have H:=Lib.hid h
 have HN:Hid ((fns rs).length=n):=Lib.hid (by rw [length_fns,h.len])
 have HB0:Hid (Below w.heap.size w (w.alloc (.cells #[.slice A n c] 24))):=(Below.refl _ _).alloc (Nat.le_refl _) _
 clear h hlen
 by_cases hn1:n<1
 ·have HP:Hid (okP (fns rs)=false):=Lib.hid (by unfold okP;rw [HN.out,decide_eq_false (by omega)];rfl)
  have HF:=Lib.hid (BytR.no HP.out HB0.out)
  go_enter Try.func17,Try.ntmps17
  go_wp2
  go_ret2
  exact HF.out
 by_cases hn2:255<n
 ·have HP:Hid (okP (fns rs)=false):=Lib.hid (by unfold okP;rw [HN.out,decide_eq_false (show ¬ n≤255 by omega)];simp)
  have HF:=Lib.hid (BytR.no HP.out HB0.out)
  have g1:decide ((n:Int)<1)=false:=by simp;omega
  go_enter Try.func17,Try.ntmps17
  go_wp2
  go_ret2
  exact HF.out
 have g1:decide ((n:Int)<1)=false:=by simp;omega
 have g2:decide ((255:Int)<(n:Int))=false:=by simp;omega
 have HO0:=Lib.hid (own_lit3 (w.alloc (.cells #[.slice A n c] 24)) w.heap.size 87 76 n (by simp))
 have HB1:Hid (Below w.heap.size w ((w.alloc (.cells #[.slice A n c] 24)).alloc (.cells #[.int .u8 87,.int .u8 76,.int .u8 n] 5))):=HB0.out.alloc (by simp) _
 have e1:(w.alloc (.cells #[.slice A n c] 24)).heap.size=w.heap.size+1:=by simp
 rw [e1] at HO0
 go_enter Try.func17,Try.ntmps17
 go_wp2
 clear g1 g2 e1
 go_loopw [4,32] (fun s i wr=>∃ (k:Nat) (A:Option Addr) (mm c:Nat),k≤n∧i=.int .i64 k∧s=.slice A mm c∧mm≤3+k*721200∧Hid (∀ f ∈ (fns rs).take k,okF f=true)∧Hid (wr.ownsRow w.heap.size 5 1 (.slice A mm c) mm (u8c (87 :: 76 :: (n:Int) :: ((fns rs).take k).flatMap encF)))∧Hid (Below w.heap.size w wr)) (fun _ i _=>n-(intOf i).toNat)
 case atStart=>exact ⟨0,_,3,3,Nat.zero_le _,rfl,rfl,by omega,(fun f hf=>by cases hf),HO0,HB1⟩
 case round =>
  clear HO0 HB0 HB1
  obtain ⟨k,A4,m4,c4,hk,rfl,rfl,hm4,HOK,HO4,HB4⟩:=hrel
  have hs4:w.heap.size≤wr.heap.size:=HB4.out.size
  by_cases hlt:k<n
  ·obtain ⟨b,off,r,rfl,hbk,HX,HRF,HW,x0,x1,x2,x3,x4⟩:=(H.out.below (HB4.out.mono hB)).fn hlt
   have HFK:Hid ((fns rs)[k]?=some r.fn):=Lib.hid (by unfold fns;rw [List.getElem?_map,HX.out];rfl)
   have HNO:Hid (okF r.fn=false→∀ w',Below w.heap.size w w'→BytR w (fns rs) (.returned (.tuple #[.slice none 0 0,.bool false])) w'):=fun h w' hb=>BytR.no (okP_no HFK.out h) hb
   have HSN:=Lib.hid (flatF_snoc HFK.out)
   have HLE:Hid (okF r.fn=true→(encF r.fn).length≤721200):=fun h=>length_encF_le h
   have HOKN:Hid (okF r.fn=true→∀ f ∈ (fns rs).take (k+1),okF f=true):=fun hf f hm=>by
    rw [List.take_add_one,HFK.out,List.mem_append] at hm
    rcases hm with hm | hm
    ·exact HOK.out f hm
    ·simp at hm
     rw [hm];exact hf
   have HRL:=Lib.hid HRF.out.locals
   have HRC:=Lib.hid HRF.out.code
   have wl:=HW.out.ll
   have wc:=HW.out.cl
   have HWI:=Lib.hid HW.out.code
   obtain ⟨⟨p,ls,fl,kp,is⟩,lo,lc,co,cc⟩:=r
   simp only at x0 x1 x2 x3 x4 wl wc HRL HRC HNO HWI
   obtain ⟨nl,HNL⟩:∃ x,Hid (x=ls.length):=⟨_,rfl⟩
   obtain ⟨nc,HNC⟩:∃ x,Hid (x=is.length):=⟨_,rfl⟩
   rw [← HNL.out] at x1 wl HRL
   rw [← HNC.out] at x4 wc HRC
   have HB5:=Lib.hid (HB4.out.alloc hs4 (.cells #[.int .i64 p,.slice lo nl lc,.bool fl,.int .i64 kp,.slice co nc cc] 41))
   have HX5:=Lib.hid (Blk.new wr 41 #[.int .i64 p,.slice lo nl lc,.bool fl,.int .i64 kp,.slice co nc cc])
   have HO5:=Lib.hid (own_alloc' HO4.out (.cells #[.int .i64 p,.slice lo nl lc,.bool fl,.int .i64 kp,.slice co nc cc] 41))
   have HNF:Hid (¬ (nl≤255∧nc≤65535∧0≤p∧p≤(nl:Int)∧-1≤kp∧kp≤254∧(∀ k ∈ ls,kindB k=true)∧(∀ i ∈ is,okI i=true))→okF ⟨p,ls,fl,kp,is⟩=false):=fun h=>okF_no (by simp only;rw [← HNL.out,← HNC.out];exact h)
   clear HRF HW HX
   by_cases cd1:0≤p
   rotate_left
   ·have HF:=Lib.hid (HNO.out (HNF.out (fun h=>cd1 h.2.2.1)) _ HB5.out)
    have g1:decide (p<0)=true:=by simp;omega
    go_wp2
    go_ret2
    exact HF.out
   have g1:decide (p<0)=false:=by simp;omega
   by_cases cd2:p≤(nl:Int)
   rotate_left
   ·have HF:=Lib.hid (HNO.out (HNF.out (fun h=>cd2 h.2.2.2.1)) _ HB5.out)
    have g2:decide ((nl:Int)<p)=true:=by simp;omega
    go_wp2
    go_ret2
    exact HF.out
   have g2:decide ((nl:Int)<p)=false:=by simp;omega
   by_cases cd3:nl≤255
   rotate_left
   ·have HF:=Lib.hid (HNO.out (HNF.out (fun h=>cd3 h.1)) _ HB5.out)
    have g3:decide ((255:Int)<(nl:Int))=true:=by simp;omega
    go_wp2
    go_ret2
    exact HF.out
   have g3:decide ((255:Int)<(nl:Int))=false:=by simp;omega
   by_cases cd4:-1≤kp
   rotate_left
   ·have HF:=Lib.hid (HNO.out (HNF.out (fun h=>cd4 h.2.2.2.2.1)) _ HB5.out)
    have g4:decide (kp < -1)=true:=by simp;omega
    go_wp2
    go_ret2
    exact HF.out
   have g4:decide (kp < -1)=false:=by simp;omega
   by_cases cd5:kp≤254
   rotate_left
   ·have HF:=Lib.hid (HNO.out (HNF.out (fun h=>cd5 h.2.2.2.2.2.1)) _ HB5.out)
    have g5:decide (254<kp)=true:=by simp;omega
    go_wp2
    go_ret2
    exact HF.out
   have g5:decide (254<kp)=false:=by simp;omega
   by_cases cd6:nc≤65535
   rotate_left
   ·have HF:=Lib.hid (HNO.out (HNF.out (fun h=>cd6 h.2.1)) _ HB5.out)
    have g6:decide ((65535:Int)<(nc:Int))=true:=by simp;omega
    go_wp2
    go_ret2
    exact HF.out
   have g6:decide ((65535:Int)<(nc:Int))=false:=by simp;omega
   obtain ⟨L4,HL4⟩:∃ L,Hid (L=87 :: 76 :: (n:Int) :: ((fns rs).take k).flatMap encF):=⟨_,rfl⟩
   rw [← HL4.out] at HO4 HO5
   have HOa:=Lib.hid (own_alloc' HO5.out (.cells #[.int .u8 p,.int .u8 nl] 5))
   have hsa:w.heap.size≤((wr.alloc (.cells #[.int .i64 p,.slice lo nl lc,.bool fl,.int .i64 kp,.slice co nc cc] 41)).alloc (.cells #[.int .u8 p,.int .u8 nl] 5)).heap.size:=by simp;omega
   have HRa:Hid (Reads ((wr.alloc (.cells #[.int .i64 p,.slice lo nl lc,.bool fl,.int .i64 kp,.slice co nc cc] 41)).alloc (.cells #[.int .u8 p,.int .u8 nl] 5)) (wr.heap.size+1+1) 1 (some ⟨wr.heap.size+1,0,none⟩) 2 (u8c [p,(nl:Int)])):=by
    have:=reads2 (wr.alloc (.cells #[.int .i64 p,.slice lo nl lc,.bool fl,.int .i64 kp,.slice co nc cc] 41)) p nl
    rw [show (wr.alloc (.cells #[.int .i64 p,.slice lo nl lc,.bool fl,.int .i64 kp,.slice co nc cc] 41)).heap.size=wr.heap.size+1 by simp] at this
    exact this
   have HBa:Hid (Below w.heap.size w ((wr.alloc (.cells #[.int .i64 p,.slice lo nl lc,.bool fl,.int .i64 kp,.slice co nc cc] 41)).alloc (.cells #[.int .u8 p,.int .u8 nl] 5))):=HB5.out.alloc (by simp;omega) _
   go_wp2_with (at_builtin;refine app_byte rfl _ _ rfl w.heap.size (.slice A4 m4 c4) m4 (u8c L4) rfl HOa.out (wr.heap.size+1+1) (some ⟨wr.heap.size+1,0,none⟩) 2 2 (u8c [p,(nl:Int)]) rfl HRa.out (u8c_one _) (by omega) hsa ?_;intro v6 w6 hown6 hgr6 _;refine Hid.out ?_)
   obtain ⟨A6,c6,rfl⟩:=own_slice hown6
   have hx6:Blk w6 wr.heap.size 41 #[.int .i64 p,.slice lo nl lc,.bool fl,.int .i64 kp,.slice co nc cc]:=blk_own (HX5.out.alloc _) HOa.out hgr6 (by decide)
   have HX6:=Lib.hid hx6
   have HO6:Hid (w6.ownsRow w.heap.size 5 1 (.slice A6 (m4+2) c6) (m4+2) (u8c (L4 ++ [p,(nl:Int)]))):=by rw [u8c_append];exact hown6
   have HB6:Hid (Below w.heap.size w w6):=HBa.out.grown hgr6 hsa fun i hi=>(own_block_le HO4.out hi).1
   have y1:w6.cell? ⟨wr.heap.size,1,none⟩=some (.slice lo nl lc):=hx6.cell 1
   clear hown6 hgr6 hx6 g1 g2 g3 g4 g5 g6 HOa HRa HBa hsa HO5 HB5 HX5 x0 x1 x2 x3 x4
   refine Lib.hid ?_
   go_wp2
   clear y1
   obtain ⟨wo,rfl⟩:∃ wo:World,wo=wr:=⟨_,rfl⟩
   go_loopw [4,82] (fun s i wr=>∃ (j:Nat) (A:Option Addr) (c:Nat),j≤nl∧i=.int .i64 j∧s=.slice A (m4+2+j) c∧Hid (wr.ownsRow w.heap.size 5 1 (.slice A (m4+2+j) c) (m4+2+j) (u8c (L4 ++ [p,(nl:Int)] ++ ls.take j)))∧Hid (∀ x ∈ ls.take j,kindB x=true)∧Hid (Blk wr wo.heap.size 41 #[.int .i64 p,.slice lo nl lc,.bool fl,.int .i64 kp,.slice co nc cc])∧Hid (Below w.heap.size w wr)) (fun _ i _=>nl-(intOf i).toNat)
   case atStart=>exact ⟨0,A6,c6,Nat.zero_le _,rfl,rfl,(by show w6.ownsRow _ _ _ _ _ _;simpa using HO6.out),(fun x hx=>by cases hx),HX6,HB6⟩
   case round =>
    clear HX6 HO6 HB6
    obtain ⟨j,A7,c7,hj,rfl,rfl,HO7,HK7,HX7,HB7⟩:=hrel
    have hs7:w.heap.size≤wr.heap.size:=HB7.out.size
    by_cases hjl:j<nl
    ·obtain ⟨b2,off2,x,hlo,hb2,HXJ,cx⟩:=(HRL.out.keep (fun q hq=>(HB7.out.cell (p:=q) (by omega)).trans (HB4.out.cell (p:=q) (by omega)).symm)).byte hjl
     subst hlo
     cases hkx:kindB x with
     | false =>
      have hx01:¬ (x=0∨x=1):=fun h=>by rw [kindB_iff.2 h] at hkx;cases hkx
      have HF:=Lib.hid (HNO.out (HNF.out (fun h=>by have:=h.2.2.2.2.2.2.1 x (List.mem_of_getElem? HXJ.out);rw [hkx] at this;cases this)) _ HB7.out)
      have q0:(x != 0)=true:=by simp;omega
      have q1:(x != 1)=true:=by simp;omega
      clear hkx hx01
      go_wp2
      go_ret2
      exact HF.out
     | true =>
      have HKN:Hid (∀ y ∈ ls.take (j+1),kindB y=true):=fun y hy=>by
       rw [List.take_add_one,HXJ.out,List.mem_append] at hy
       rcases hy with hy | hy
       ·exact HK7.out y hy
       ·simp at hy;rw [hy];exact hkx
      have hx01:=kindB_iff.1 hkx
      have HOb:=Lib.hid (own_alloc' HO7.out (.cells #[.int .u8 x] 5))
      have HRb:=Lib.hid (reads1 wr x)
      have hsb:w.heap.size≤(wr.alloc (.cells #[.int .u8 x] 5)).heap.size:=by simp;omega
      have hgd:(x != 0 && x != 1)=false:=by rcases hx01 with rfl | rfl <;> rfl
      clear hkx
      rcases hx01 with hx0 | hx1
      ·have q0:(x != 0)=false:=by simp;omega
       have q1:(x != 1)=true:=by simp;omega
       clear hgd hx0
       go_wp2_with (at_builtin;refine app_byte rfl _ _ rfl w.heap.size (.slice A7 (m4+2+j) c7) (m4+2+j) _ rfl HOb.out (wr.heap.size+1) (some ⟨wr.heap.size,0,none⟩) 1 1 (u8c [x]) rfl HRb.out (u8c_one _) (by omega) hsb ?_;intro v8 w8 hown8 hgr8 _;refine Hid.out ?_)
       obtain ⟨A8,c8,rfl⟩:=own_slice hown8
       have HX8:=Lib.hid (blk_own (HX7.out.alloc _) HOb.out hgr8 (by decide))
       have HO8:Hid (w8.ownsRow w.heap.size 5 1 (.slice A8 (m4+2+(j+1)) c8) (m4+2+(j+1)) (u8c (L4 ++ [p,(nl:Int)] ++ ls.take (j+1)))):=by
        rw [List.take_add_one,HXJ.out,← List.append_assoc,u8c_append]
        exact hown8
       have HB8:Hid (Below w.heap.size w w8):=(HB7.out.alloc hs7 _).grown hgr8 hsb fun i hi=>(own_block_le HO7.out hi).1
       clear hown8 hgr8
       refine Lib.hid ?_
       go_wp2
       go_roundw
       case rel=>exact ⟨j+1,A8,c8,by omega,by go_num,rfl,HO8,HKN,HX8,HB8⟩
       case measure=>simp [intOf];omega
      ·have q0:(x != 0)=true:=by simp;omega
       have q1:(x != 1)=false:=by simp;omega
       clear hgd hx1
       go_wp2_with (at_builtin;refine app_byte rfl _ _ rfl w.heap.size (.slice A7 (m4+2+j) c7) (m4+2+j) _ rfl HOb.out (wr.heap.size+1) (some ⟨wr.heap.size,0,none⟩) 1 1 (u8c [x]) rfl HRb.out (u8c_one _) (by omega) hsb ?_;intro v8 w8 hown8 hgr8 _;refine Hid.out ?_)
       obtain ⟨A8,c8,rfl⟩:=own_slice hown8
       have HX8:=Lib.hid (blk_own (HX7.out.alloc _) HOb.out hgr8 (by decide))
       have HO8:Hid (w8.ownsRow w.heap.size 5 1 (.slice A8 (m4+2+(j+1)) c8) (m4+2+(j+1)) (u8c (L4 ++ [p,(nl:Int)] ++ ls.take (j+1)))):=by
        rw [List.take_add_one,HXJ.out,← List.append_assoc,u8c_append]
        exact hown8
       have HB8:Hid (Below w.heap.size w w8):=(HB7.out.alloc hs7 _).grown hgr8 hsb fun i hi=>(own_block_le HO7.out hi).1
       clear hown8 hgr8
       refine Lib.hid ?_
       go_wp2
       go_roundw
       case rel=>exact ⟨j+1,A8,c8,by omega,by go_num,rfl,HO8,HKN,HX8,HB8⟩
       case measure=>simp [intOf];omega
    ·obtain rfl:nl=j:=by omega
     clear hjl hj
     have HTK:Hid (ls.take nl=ls):=Lib.hid (List.take_of_length_le (by rw [← HNL.out];omega))
     have HKA:Hid (∀ x ∈ ls,kindB x=true):=Lib.hid (by have:=HK7.out;rw [HTK.out] at this;exact this)
     rw [HTK.out] at HO7
     obtain ⟨fb,HFB⟩:∃ v:Int,Hid (v=if fl then 1 else 0):=⟨_,rfl⟩
     obtain ⟨kb,HKB⟩:∃ v:Int,Hid (v=keepByte kp):=⟨_,rfl⟩
     have z2:wr.cell? ⟨wo.heap.size,2,none⟩=some (.bool fl):=HX7.out.cell 2
     have z3:wr.cell? ⟨wo.heap.size,3,none⟩=some (.int .i64 kp):=HX7.out.cell 3
     have z4:wr.cell? ⟨wo.heap.size,4,none⟩=some (.slice co nc cc):=HX7.out.cell 4
     go_upto_if 98 with fail
     go_cut [9] (fun s9 wx=>s9=.int .u8 fb∧wr=wx)
     case first =>
      cases fl
      all_goals
       go_wp2
       go_meet
      case rel=>exact ⟨by rw [HFB.out];rfl,rfl⟩
      case rel=>exact ⟨by rw [HFB.out];rfl,rfl⟩
     case rest =>
      obtain ⟨rfl,rfl⟩:=hcut
      go_upto_if 101 with fail
      go_cut [10] (fun s10 wx=>s10=.int .u8 kb∧wr=wx)
      case first =>
       by_cases hk0:0≤kp
       ·have HKP:Hid (kb=kp):=Lib.hid (by rw [HKB.out];unfold keepByte;rw [if_neg (by omega)])
        go_wp2
        go_meet
        case rel=>exact ⟨by rw [HKP.out],rfl⟩
       ·have HKP:Hid (kb=255):=Lib.hid (by rw [HKB.out];unfold keepByte;rw [if_pos (by omega)])
        have gk:decide (0≤kp)=false:=by simpa using hk0
        go_wp2
        go_meet
        case rel=>exact ⟨by rw [HKP.out],rfl⟩
      case rest =>
       obtain ⟨rfl,rfl⟩:=hcut
       clear z2 z3
       obtain ⟨L7,HL7⟩:∃ L,Hid (L=L4 ++ [p,(nl:Int)] ++ ls):=⟨_,rfl⟩
       rw [← HL7.out] at HO7
       have HOc:=Lib.hid (own_alloc' HO7.out (.cells #[.int .u8 fb,.int .u8 kb] 5))
       have HRc:Hid (Reads (wr.alloc (.cells #[.int .u8 fb,.int .u8 kb] 5)) (wr.heap.size+1) 1 (some ⟨wr.heap.size,0,none⟩) 2 (u8c [fb,kb])):=Lib.hid (reads2 wr fb kb)
       have hsc:w.heap.size≤(wr.alloc (.cells #[.int .u8 fb,.int .u8 kb] 5)).heap.size:=by simp;omega
       go_wp2_with (at_builtin;refine app_byte rfl _ _ rfl w.heap.size (.slice A7 (m4+2+nl) c7) (m4+2+nl) _ rfl HOc.out (wr.heap.size+1) (some ⟨wr.heap.size,0,none⟩) 2 2 (u8c [fb,kb]) rfl HRc.out (u8c_one _) (by omega) hsc ?_;intro v8 w8 hown8 hgr8 _;refine Hid.out ?_)
       obtain ⟨A8,c8,rfl⟩:=own_slice hown8
       have hx8:Blk w8 wo.heap.size 41 #[.int .i64 p,.slice lo nl lc,.bool fl,.int .i64 kp,.slice co nc cc]:=blk_own (HX7.out.alloc _) HOc.out hgr8 (by decide)
       have HX8:=Lib.hid hx8
       have HO8:Hid (w8.ownsRow w.heap.size 5 1 (.slice A8 (m4+2+nl+2) c8) (m4+2+nl+2) (u8c (L7 ++ [fb,kb]))):=by rw [u8c_append];exact hown8
       have HB8:Hid (Below w.heap.size w w8):=(HB7.out.alloc hs7 _).grown hgr8 hsc fun i hi=>(own_block_le HO7.out hi).1
       have y4:w8.cell? ⟨wo.heap.size,4,none⟩=some (.slice co nc cc):=hx8.cell 4
       have hs8:w.heap.size≤w8.heap.size:=HB8.out.size
       clear hown8 hgr8 hx8 z4 HOc HRc hsc HO7 HX7 HB7
       refine Lib.hid ?_
       go_wp2_with (go_at_call 36;refine (low_any nc 2 _ (by omega) (by omega) (by omega)).mono ?_;rintro e w9 ⟨A9,c9,rfl,ho9,hb9⟩;refine Hid.out ?_)
       have HO9:=Lib.hid (own_under HO8.out hb9)
       have HR9:=Lib.hid (Reads.of_own ho9)
       have hx9:=HX8.out.below hb9 HX8.out.lt
       have HX9:=Lib.hid hx9
       have HB9:=Lib.hid (HB8.out.trans (hb9.mono hs8))
       have hs9:w.heap.size≤w9.heap.size:=HB9.out.size
       clear ho9 hb9 hx9 y4
       refine Lib.hid ?_
       go_wp2_with (at_builtin;refine app_byte rfl _ _ rfl w.heap.size (.slice A8 (m4+2+nl+2) c8) (m4+2+nl+2) _ rfl HO9.out w9.heap.size A9 2 c9 (u8c (le 2 nc)) rfl HR9.out (u8c_one _) (by omega) hs9 ?_;intro v10 w10 hown10 hgr10 _;refine Hid.out ?_)
       obtain ⟨A10,c10,rfl⟩:=own_slice hown10
       have hx10:Blk w10 wo.heap.size 41 #[.int .i64 p,.slice lo nl lc,.bool fl,.int .i64 kp,.slice co nc cc]:=blk_own HX9.out HO9.out hgr10 (by decide)
       have HO10:Hid (w10.ownsRow w.heap.size 5 1 (.slice A10 (m4+2+nl+2+2) c10) (m4+2+nl+2+2) (u8c (L7 ++ [fb,kb] ++ le 2 nc))):=by rw [u8c_append];exact hown10
       have HB10:Hid (Below w.heap.size w w10):=HB9.out.grown hgr10 hs9 fun i hi=>(own_block_le HO9.out hi).1
       have y4:w10.cell? ⟨wo.heap.size,4,none⟩=some (.slice co nc cc):=hx10.cell 4
       obtain ⟨m10,hm10,hm10b⟩:∃ m10,m10=m4+2+nl+2+2∧m10≤m4+300:=⟨_,rfl,by omega⟩
       rw [← hm10] at HO10
       rw [← hm10]
       clear hm10 hown10 hgr10 hx10 HX8 HX9 HO8 HO9 HR9 HB8 HB9
       refine Lib.hid ?_
       go_wp2
       clear y4
       go_loopw [4,120] (fun s i wr=>∃ (j:Nat) (A:Option Addr) (mm c:Nat),j≤nc∧i=.int .i64 j∧s=.slice A mm c∧mm≤m10+j*11∧Hid (wr.ownsRow w.heap.size 5 1 (.slice A mm c) mm (u8c (L7 ++ [fb,kb] ++ le 2 nc ++ (is.take j).flatMap encI)))∧Hid (∀ x ∈ is.take j,okI x=true)∧Hid (Below w.heap.size w wr)) (fun _ i _=>nc-(intOf i).toNat)
       case atStart=>exact ⟨0,A10,m10,c10,Nat.zero_le _,rfl,rfl,by omega,(by show w10.ownsRow _ _ _ _ _ _;simpa using HO10.out),(fun x hx=>by cases hx),HB10⟩
       case round =>
        clear HO10 HB10
        obtain ⟨j,A11,m11,c11,hj,rfl,rfl,hm11,HO11,HK11,HB11⟩:=hrel
        have hs11:w.heap.size≤wr.heap.size:=HB11.out.size
        by_cases hjl:j<nc
        ·obtain ⟨b2,off2,x,hco,hb2,HXJ,x0,x1,x2⟩:=(HRC.out.keep (fun q hq=>(HB11.out.cell (p:=q) (by omega)).trans (HB4.out.cell (p:=q) (by omega)).symm)).ins hjl
         subst hco
         have HWX:=Lib.hid (HWI.out x (List.mem_of_getElem? HXJ.out))
         have HB12:=Lib.hid (HB11.out.alloc hs11 (.cells #[.int .u8 x.op,.int .i64 x.arg,.int .u64 x.imm] 52))
         have HX12:=Lib.hid (Blk.new wr 52 #[.int .u8 x.op,.int .i64 x.arg,.int .u64 x.imm])
         have HO12:=Lib.hid (own_alloc' HO11.out (.cells #[.int .u8 x.op,.int .i64 x.arg,.int .u64 x.imm] 52))
         cases hkx:okI x with
         | false =>
          have HQ:=Lib.hid (HNF.out (fun h=>by have:=h.2.2.2.2.2.2.2 x (List.mem_of_getElem? HXJ.out);rw [hkx] at this;cases this))
          have HKX:=Lib.hid hkx
          clear hkx
          go_wp2_with (go_at_call 37;refine (says_any x _ HWX.out).mono ?_;rintro e w13 ⟨rfl,hb13⟩;rw [HKX.out];refine Hid.out ?_)
          have HF:=Lib.hid (HNO.out HQ.out _ (HB12.out.trans (hb13.mono (by simp;omega))))
          clear hb13
          refine Lib.hid ?_
          go_wp2
          go_ret2
          exact HF.out
         | true =>
          have hfl:=flat_snoc HXJ.out
          obtain ⟨hx1,hx2,hx3⟩:=okI_iff.1 hkx
          have HKN:Hid (∀ y ∈ is.take (j+1),okI y=true):=fun y hy=>by
           rw [List.take_add_one,HXJ.out,List.mem_append] at hy
           rcases hy with hy | hy
           ·exact HK11.out y hy
           ·simp at hy;rw [hy];exact hkx
          have HKX:=Lib.hid hkx
          obtain ⟨op,arg,imm⟩:=x
          simp only at x0 x1 x2 hx1 hx2 hx3
          have hb1:=opB_iff.1 hx1
          have hb2':=fitB_iff.1 hx2
          have hb3:=fitB_iff.1 hx3
          have ha:(256:Int) ^ argW op≤65536:=by
           have:=argW_le op
           obtain h | h | h:argW op=0∨argW op=1∨argW op=2:=by omega
           all_goals rw [h];decide
          have hi:(256:Int) ^ immW op≤18446744073709551616:=by
           obtain h | h:immW op=0∨immW op=8:=by unfold immW;split <;> simp
           all_goals rw [h];decide
          have o0:0≤op:=by omega
          have o1:op≤255:=by omega
          have a0:0≤arg:=hb2'.1
          have a1:arg≤65535:=by omega
          have i0:0≤imm:=hb3.1
          have i1:imm≤18446744073709551615:=by omega
          have HOP:=Lib.hid hx1
          have HFL:=Lib.hid hfl
          clear hkx hx1 hx2 hx3 hb1 hb2' hb3 ha hi hfl
          go_wp2_with (go_at_call 37;refine (says_any ⟨op,arg,imm⟩ _ HWX.out).mono ?_;rintro e w13 ⟨rfl,hb13⟩;rw [HKX.out];refine Hid.out ?_)
          have hx13:=HX12.out.below hb13 HX12.out.lt
          have HB13:=Lib.hid (HB12.out.trans (hb13.mono (by simp;omega)))
          have hs13:w.heap.size≤w13.heap.size:=HB13.out.size
          have y0:w13.cell? ⟨wr.heap.size,0,none⟩=some (.int .u8 op):=hx13.cell 0
          have HOd:=Lib.hid (own_alloc' (own_under HO12.out hb13) (.cells #[.int .u8 op] 5))
          have HXd:=Lib.hid (hx13.alloc (.cells #[.int .u8 op] 5))
          have HRd:Hid (Reads (w13.alloc (.cells #[.int .u8 op] 5)) (w13.heap.size+1) 1 (some ⟨w13.heap.size,0,none⟩) 1 (u8c [op])):=Lib.hid (reads1 w13 op)
          have HBd:=Lib.hid (HB13.out.alloc hs13 (.cells #[.int .u8 op] 5))
          have hsd:w.heap.size≤(w13.alloc (.cells #[.int .u8 op] 5)).heap.size:=by simp;omega
          clear hb13 hx13 x0 x1 x2
          refine Lib.hid ?_
          go_wp2_with (at_builtin;refine app_byte rfl _ _ rfl w.heap.size (.slice A11 m11 c11) m11 _ rfl HOd.out (w13.heap.size+1) (some ⟨w13.heap.size,0,none⟩) 1 1 (u8c [op]) rfl HRd.out (u8c_one _) (by omega) hsd ?_;intro v14 w14 hown14 hgr14 _;refine Hid.out ?_)
          clear y0
          obtain ⟨A14,c14,rfl⟩:=own_slice hown14
          have hx14:Blk w14 wr.heap.size 52 #[.int .u8 op,.int .i64 arg,.int .u64 imm]:=blk_own HXd.out HOd.out hgr14 (by decide)
          have HX14:=Lib.hid hx14
          have HO14:Hid (w14.ownsRow w.heap.size 5 1 (.slice A14 (m11+1) c14) (m11+1) (u8c (L7 ++ [fb,kb] ++ le 2 nc ++ (is.take j).flatMap encI ++ [op]))):=by rw [u8c_append];exact hown14
          have HB14:Hid (Below w.heap.size w w14):=HBd.out.grown hgr14 hsd fun i hi=>(own_block_le HO11.out hi).1
          have hs14:w.heap.size≤w14.heap.size:=HB14.out.size
          have y0:w14.cell? ⟨wr.heap.size,0,none⟩=some (.int .u8 op):=hx14.cell 0
          have y1:w14.cell? ⟨wr.heap.size,1,none⟩=some (.int .i64 arg):=hx14.cell 1
          have y2:w14.cell? ⟨wr.heap.size,2,none⟩=some (.int .u64 imm):=hx14.cell 2
          clear hown14 hgr14 hx14
          by_cases h1:op=1
          ·subst h1
           have HWD:Hid (widthD 1=8):=rfl
           have HEN:Hid ((is.take (j+1)).flatMap encI=(is.take j).flatMap encI ++ ([1] ++ le 8 imm)):=Lib.hid (by rw [HFL.out];rfl)
           refine Lib.hid ?_
           go_wp2_with (first | (go_at_call 38;refine (width_q 1 8 _ HWD.out).mono ?_;rintro e w15 ⟨rfl,rfl⟩) | (go_at_call 36;refine (low_any imm 8 _ i0 (by omega) (by omega)).mono ?_;rintro e w15 ⟨A15,c15,rfl,ho15,hb15⟩;refine Hid.out ?_))
           have HO15:=Lib.hid (own_under HO14.out hb15)
           have HR15:=Lib.hid (Reads.of_own ho15)
           have HB15:=Lib.hid (HB14.out.trans (hb15.mono hs14))
           have hs15:w.heap.size≤w15.heap.size:=HB15.out.size
           clear ho15 hb15 y0 y1 y2
           refine Lib.hid ?_
           go_wp2_with (at_builtin;refine app_byte rfl _ _ rfl w.heap.size (.slice A14 (m11+1) c14) (m11+1) _ rfl HO15.out w15.heap.size A15 8 c15 (u8c (le 8 imm)) rfl HR15.out (u8c_one _) (by omega) hs15 ?_;intro v16 w16 hown16 hgr16 _;refine Hid.out ?_)
           obtain ⟨A16,c16,rfl⟩:=own_slice hown16
           have HO16:Hid (w16.ownsRow w.heap.size 5 1 (.slice A16 (m11+1+8) c16) (m11+1+8) (u8c (L7 ++ [fb,kb] ++ le 2 nc ++ (is.take (j+1)).flatMap encI))):=by
            rw [HEN.out]
            have:L7 ++ [fb,kb] ++ le 2 nc ++ ((is.take j).flatMap encI ++ ([1] ++ le 8 imm))=(L7 ++ [fb,kb] ++ le 2 nc ++ (is.take j).flatMap encI ++ [1]) ++ le 8 imm:=by simp
            rw [this,u8c_append]
            exact hown16
           have HB16:Hid (Below w.heap.size w w16):=HB15.out.grown hgr16 hs15 fun i hi=>(own_block_le HO15.out hi).1
           clear hown16 hgr16
           refine Lib.hid ?_
           go_wp2
           go_roundw
           case rel=>exact ⟨j+1,A16,_,c16,by omega,by go_num,rfl,by omega,HO16,HKN,HB16⟩
           case measure=>simp [intOf];omega
          ·have hiw:immW op=0:=by unfold immW;rw [if_neg h1]
           obtain ⟨aw,HAW⟩:∃ n,Hid (n=argW op):=⟨_,rfl⟩
           have haw:aw≤2:=by rw [HAW.out];exact argW_le op
           have HWD:Hid (widthD op=(aw:Int)):=Lib.hid (by unfold widthD;rw [HOP.out,hiw,← HAW.out];rfl)
           have HEN:Hid ((is.take (j+1)).flatMap encI=(is.take j).flatMap encI ++ ([op] ++ le aw arg)):=Lib.hid (by rw [HFL.out,HAW.out];simp [encI,hiw,le])
           have g8:((aw:Int) == 8)=false:=by simp;omega
           clear h1 hiw
           refine Lib.hid ?_
           go_wp2_with (first | (go_at_call 38;refine (width_q op aw _ HWD.out).mono ?_;rintro e w15 ⟨rfl,rfl⟩) | (go_at_call 36;refine (low_any arg aw _ a0 (by omega) (by omega)).mono ?_;rintro e w15 ⟨A15,c15,rfl,ho15,hb15⟩;refine Hid.out ?_))
           have HO15:=Lib.hid (own_under HO14.out hb15)
           have HR15:=Lib.hid (Reads.of_own ho15)
           have HB15:=Lib.hid (HB14.out.trans (hb15.mono hs14))
           have hs15:w.heap.size≤w15.heap.size:=HB15.out.size
           clear ho15 hb15 y0 y1 y2
           refine Lib.hid ?_
           go_wp2_with (at_builtin;refine app_byte rfl _ _ rfl w.heap.size (.slice A14 (m11+1) c14) (m11+1) _ rfl HO15.out w15.heap.size A15 aw c15 (u8c (le aw arg)) rfl HR15.out (u8c_one _) (by omega) hs15 ?_;intro v16 w16 hown16 hgr16 _;refine Hid.out ?_)
           obtain ⟨A16,c16,rfl⟩:=own_slice hown16
           have HO16:Hid (w16.ownsRow w.heap.size 5 1 (.slice A16 (m11+1+aw) c16) (m11+1+aw) (u8c (L7 ++ [fb,kb] ++ le 2 nc ++ (is.take (j+1)).flatMap encI))):=by
            rw [HEN.out]
            have:L7 ++ [fb,kb] ++ le 2 nc ++ ((is.take j).flatMap encI ++ ([op] ++ le aw arg))=(L7 ++ [fb,kb] ++ le 2 nc ++ (is.take j).flatMap encI ++ [op]) ++ le aw arg:=by simp
            rw [this,u8c_append]
            exact hown16
           have HB16:Hid (Below w.heap.size w w16):=HB15.out.grown hgr16 hs15 fun i hi=>(own_block_le HO15.out hi).1
           clear hown16 hgr16
           refine Lib.hid ?_
           go_wp2
           go_roundw
           case rel=>exact ⟨j+1,A16,_,c16,by omega,by go_num,rfl,by omega,HO16,HKN,HB16⟩
           case measure=>simp [intOf];omega
        ·obtain rfl:nc=j:=by omega
         clear hjl hj
         have HTI:Hid (is.take nc=is):=Lib.hid (List.take_of_length_le (by rw [← HNC.out];omega))
         have HIA:Hid (∀ x ∈ is,okI x=true):=Lib.hid (by have:=HK11.out;rw [HTI.out] at this;exact this)
         rw [HTI.out] at HO11
         have HFO:Hid (okF ⟨p,ls,fl,kp,is⟩=true):=Lib.hid (okF_iff.2 ⟨by simp only;rw [← HNL.out];exact cd3,by simp only;rw [← HNC.out];exact cd6,cd1,by simp only;rw [← HNL.out];exact cd2,cd4,cd5,HKA.out,HIA.out⟩)
         have HNX:Hid (∀ f ∈ (fns rs).take (k+1),okF f=true):=HOKN.out HFO.out
         have hmle:m11≤3+(k+1)*721200:=by omega
         have HOX:Hid (wr.ownsRow w.heap.size 5 1 (.slice A11 m11 c11) m11 (u8c (87 :: 76 :: (n:Int) :: ((fns rs).take (k+1)).flatMap encF))):=by
          show World.ownsRow _ _ _ _ _ _ _
          have he:87 :: 76 :: (n:Int) :: ((fns rs).take (k+1)).flatMap encF=L7 ++ [fb,kb] ++ le 2 nc ++ is.flatMap encI:=by
           rw [HSN.out,HL7.out,HL4.out,HFB.out,HKB.out]
           unfold encF
           simp only
           rw [← HNL.out,← HNC.out]
           simp
          rw [he]
          exact HO11.out
         go_wp2
         go_roundw
         case rel=>exact ⟨k+1,A11,m11,c11,by omega,by go_num,rfl,hmle,HNX,HOX,HB11⟩
         case measure=>simp [intOf];omega
  ·obtain rfl:n=k:=by omega
   clear hlt hk
   have HFIN:Hid (((fns rs).take n)=fns rs):=Lib.hid (List.take_of_length_le (by rw [HN.out];omega))
   have HPT:Hid (okP (fns rs)=true):=Lib.hid (okP_iff.2 ⟨by rw [HN.out];omega,by rw [HN.out];omega,by have:=HOK.out;rw [HFIN.out] at this;exact this⟩)
   have HEQ:Hid ((encA (fns rs)).1=87 :: 76 :: (n:Int) :: ((fns rs).take n).flatMap encF):=by
    show _=_
    unfold encA enc
    rw [HPT.out,HFIN.out,HN.out];rfl
   go_wp2
   go_ret2
   refine ⟨A4,m4,c4,by rw [HPT.out];rfl,?_,by rw [HEQ.out];exact HO4.out,HB4.out⟩
   have:=HO4.out.1
   rw [length_u8c] at this
   rw [HEQ.out];omega
theorem rbounded_any (B:Nat) (A:Option Addr) (n c:Nat) (rs:List Raw) (w:World) (h:RdP w B A n rs) (hB:B≤w.heap.size) :
  Calls Try.prog 18 #[.agg #[.slice A n c]] w fun e w'=>e=.returned (.bool (bnd (fns rs)))∧Below w.heap.size w w':=by
 have hsz:=h.sz
 have H:=Lib.hid h
 have HN:Hid ((fns rs).length=n):=Lib.hid (by rw [length_fns,h.len])
 have HW0:Hid (Below w.heap.size w (w.alloc (.cells #[.slice A n c] 24))):=(Below.refl _ _).alloc (Nat.le_refl _) _
 clear h
 obtain ⟨b0,HB0⟩:∃ b,Hid (b=decide (n≤16)):=⟨_,rfl⟩
 have hb0:decide ((n:Int)≤16)=b0:=by rw [HB0.out];simp;omega
 go_enter Try.func18,Try.ntmps18
 go_wp2
 go_loopw [3,13] (fun o i wr=>∃ (k:Nat) (b:Bool),k≤n∧i=.int .i64 k∧o=.bool b∧Hid (b=(b0 && ((fns rs).take k).all bndF))∧Hid (Below w.heap.size w wr)) (fun _ i _=>n-(intOf i).toNat)
 case atStart=>exact ⟨0,b0,Nat.zero_le _,rfl,rfl,(by show b0=_;simp),HW0⟩
 case round =>
  clear hb0 HW0
  obtain ⟨k,b,hk,rfl,rfl,HBK,HW⟩:=hrel
  have hz:=HW.out.size
  by_cases hlt:k<n
  ·obtain ⟨b1,off,r,rfl,hbk,HX,HRF,HWF,x0,x1,x2,x3,x4⟩:=(H.out.below (HW.out.mono hB)).fn hlt
   have HXK:Hid ((fns rs)[k]?=some r.fn):=Lib.hid (by unfold fns;rw [List.getElem?_map,HX.out];rfl)
   have HW2:=Lib.hid (HW.out.alloc hz (.cells #[.int .i64 r.fn.params,.slice r.lo r.fn.locals.length r.lc,.bool r.fn.result,.int .i64 r.fn.keep,.slice r.co r.fn.code.length r.cc] 41))
   have HN1:Hid (∀ q:Bool,q=(b && bndF r.fn)→q=(b0 && ((fns rs).take (k+1)).all bndF)):=fun q hq=>by
    rw [hq,HBK.out,List.take_add_one,HXK.out,List.all_append]
    simp [Bool.and_assoc]
   have wl:=HWF.out.ll
   have wc:=HWF.out.cl
   obtain ⟨⟨p,ls,fl,kp,is⟩,lo,lc,co,cc⟩:=r
   simp only at x0 x1 x2 x3 x4 wl wc
   obtain ⟨nl,HNL⟩:∃ x,Hid (x=ls.length):=⟨_,rfl⟩
   obtain ⟨nc,HNC⟩:∃ x,Hid (x=is.length):=⟨_,rfl⟩
   simp only at HW2
   rw [← HNL.out] at x1 wl HW2
   rw [← HNC.out] at x4 wc HW2
   have HBF:Hid (bndF ⟨p,ls,fl,kp,is⟩=(decide (p≤4) && decide (nl≤16) && decide (nc≤256))):=Lib.hid (by unfold bndF;rw [HNL.out,HNC.out])
   cases b with
   | false =>
    have HQ:=Lib.hid (HN1.out false (by simp))
    go_wp2
    go_roundw
    case rel=>exact ⟨k+1,false,by omega,by go_num,rfl,HQ,HW2⟩
    case measure=>simp [intOf];omega
   | true =>
    by_cases c1:p≤4
    ·by_cases c2:nl≤16
     ·by_cases c3:nc≤256
      ·have HQ:=Lib.hid (HN1.out true (by rw [HBF.out,decide_eq_true c1,decide_eq_true c2,decide_eq_true c3];rfl))
       have g3:decide ((nc:Int)≤256)=true:=by simp;omega
       go_wp2
       go_roundw
       case rel=>exact ⟨k+1,true,by omega,by go_num,rfl,HQ,HW2⟩
       case measure=>simp [intOf];omega
      ·have HQ:=Lib.hid (HN1.out false (by rw [HBF.out,decide_eq_true c1,decide_eq_true c2,decide_eq_false c3];rfl))
       have g3:decide ((nc:Int)≤256)=false:=by simp;omega
       go_wp2
       go_roundw
       case rel=>exact ⟨k+1,false,by omega,by go_num,rfl,HQ,HW2⟩
       case measure=>simp [intOf];omega
     ·have HQ:=Lib.hid (HN1.out false (by rw [HBF.out,decide_eq_true c1,decide_eq_false c2];rfl))
      have g2:decide ((nl:Int)≤16)=false:=by simp;omega
      go_wp2
      go_roundw
      case rel=>exact ⟨k+1,false,by omega,by go_num,rfl,HQ,HW2⟩
      case measure=>simp [intOf];omega
    ·have HQ:=Lib.hid (HN1.out false (by rw [HBF.out,decide_eq_false c1];rfl))
     have g1:decide (p≤4)=false:=by simpa using c1
     go_wp2
     go_roundw
     case rel=>exact ⟨k+1,false,by omega,by go_num,rfl,HQ,HW2⟩
     case measure=>simp [intOf];omega
  ·obtain rfl:n=k:=by omega
   clear hlt hk
   have HE:Hid (bnd (fns rs)=b):=Lib.hid (by
    have h:=HBK.out
    rw [List.take_of_length_le (by rw [HN.out];omega)] at h
    unfold bnd
    rw [HN.out,← HB0.out,h])
   go_wp2
   go_ret
   exact ⟨by rw [HE.out];rfl,HW.out⟩
end Go.Proofs.Ytgekmjkfnhogkaa.Q
