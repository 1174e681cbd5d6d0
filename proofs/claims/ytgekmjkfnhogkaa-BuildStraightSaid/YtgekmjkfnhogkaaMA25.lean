/-
  Texts of one seat, one behind the other: Rhb, Rx, Rt.
-/
import Derived.StillTailTactics
import Derived.Deep.QuietTactic
import Derived.Test.YtgekmjkfnhogkaaMA17
import Derived.Test.YtgekmjkfnhogkaaMA18
import Derived.Test.YtgekmjkfnhogkaaMA19
import Derived.Test.YtgekmjkfnhogkaaMA20
import Derived.Test.YtgekmjkfnhogkaaMA21
import Derived.Test.YtgekmjkfnhogkaaMA22
import Derived.Test.YtgekmjkfnhogkaaMA23
import Derived.Test.YtgekmjkfnhogkaaMA24

set_option linter.unusedVariables false
set_option linter.unusedSimpArgs false
set_option maxRecDepth 100000
set_option maxHeartbeats 51200000
namespace Go.Proofs.Ytgekmjkfnhogkaa
open Go.ChangeShapes Go.WideShapes Go.ChangeAt Go.RowKit
theorem rhead_true (B:Nat) (ps ks is:List Int) (nodes:List Nd) (po ko io no:Option Addr) (nP pc nK kc nI ic nN nc:Nat) (cells keep entry:Int) (res:Bool) (w:World) (hp:Reads w B 1 po nP (i64c ps)) (hpl:ps.length=nP) (hpc:nP≤pc) (hnP:nP≤140737488351232) (hk:Reads w B 1 ko nK (u8c ks)) (hkl:ks.length=nK) (hnK:nK≤140737488351232) (hi:Reads w B 1 io nI (i64c is)) (hil:is.length=nI) (hnI:nI≤140737488351232) (hnl:nodes.length=nN) (hnN:nN≤140737488351232) (hbyt:Byt ks) (hB:B≤w.heap.size) :
  Calls Try.prog 21 #[.agg #[.slice po nP pc,.slice ko nK kc,.int .i64 cells,.slice io nI ic,.bool res,.int .i64 keep,.slice no nN nc,.int .i64 entry],.bool true] w fun e w'=>e=.returned (.bool (decide (headHolds ⟨ps,ks,cells,is,res,keep,nodes,entry⟩ true)))∧Below w.heap.size w w':=by
 have HBL:Hid (Below w.heap.size w (w.alloc (.cells #[.slice po nP pc,.slice ko nK kc,.int .i64 cells,.slice io nI ic,.bool res,.int .i64 keep,.slice no nN nc,.int .i64 entry] 45))):=(Below.refl _ _).alloc (Nat.le_refl _) _
 have hB1:B≤(w.alloc (.cells #[.slice po nP pc,.slice ko nK kc,.int .i64 cells,.slice io nI ic,.bool res,.int .i64 keep,.slice no nN nc,.int .i64 entry] 45)).heap.size:=by simp;omega
 have HBX:Hid (Blk (w.alloc (.cells #[.slice po nP pc,.slice ko nK kc,.int .i64 cells,.slice io nI ic,.bool res,.int .i64 keep,.slice no nN nc,.int .i64 entry] 45)) w.heap.size 45 #[.slice po nP pc,.slice ko nK kc,.int .i64 cells,.slice io nI ic,.bool res,.int .i64 keep,.slice no nN nc,.int .i64 entry]):=Blk.new w _ _
 have HP:=Lib.hid (hp.below (HBL.out.mono hB))
 have HK:=Lib.hid (hk.below (HBL.out.mono hB))
 have HI:=Lib.hid (hi.below (HBL.out.mono hB))
 have HPL:=Lib.hid hpl
 have HKL:=Lib.hid hkl
 have HIL:=Lib.hid hil
 have HX:Hid (headHolds ⟨ps,ks,cells,is,res,keep,nodes,entry⟩ true↔nK≤1024∧(true=true→16≤nK)∧nP≤4∧nI=nP∧0≤cells∧cells≤64∧-1≤keep∧keep<cells∧(∀ k ∈ ks,k≤1)∧(∀ i,i<nP→rparam ⟨ps,ks,cells,is,res,keep,nodes,entry⟩ true i)∧1≤nN∧nN≤4096∧isOne entry nN):=Lib.hid (by
  rw [← rhead_eq hbyt]
  unfold rhead
  simp only [hkl,hpl,hil,hnl])
 clear hp hk hi hpl hkl hil hnl hbyt
 by_cases c0:nK≤1024
 rotate_left
 ·have g0a:decide ((nK:Int) > 1024)=true:=by simp;omega
  have g0b:decide (nK > 1024)=true:=by simp;omega
  have HD:Hid (decide (headHolds ⟨ps,ks,cells,is,res,keep,nodes,entry⟩ true)=false):=Lib.hid (by rw [decide_eq_false_iff_not,HX.out];intro h;exact c0 h.1)
  go_enter Try.func21,Try.ntmps21
  go_wp2
  go_ret
  exact ⟨by rw [HD.out];rfl,HBL.out⟩
 have g0a:decide ((nK:Int) > 1024)=false:=by simp;omega
 have g0b:decide (nK > 1024)=false:=by simp;omega
 by_cases c1:16≤nK
 rotate_left
 ·have g1a:decide ((nK:Int)<16)=true:=by simp;omega
  have g1b:decide (nK<16)=true:=by simp;omega
  have HD:Hid (decide (headHolds ⟨ps,ks,cells,is,res,keep,nodes,entry⟩ true)=false):=Lib.hid (by rw [decide_eq_false_iff_not,HX.out];intro h;exact c1 (h.2.1 rfl))
  go_enter Try.func21,Try.ntmps21
  go_wp2
  go_ret
  exact ⟨by rw [HD.out];rfl,HBL.out⟩
 have g1a:decide ((nK:Int)<16)=false:=by simp;omega
 have g1b:decide (nK<16)=false:=by simp;omega
 by_cases c2:nP≤4
 rotate_left
 ·have g2a:decide ((nP:Int) > 4)=true:=by simp;omega
  have g2b:decide (nP > 4)=true:=by simp;omega
  have HD:Hid (decide (headHolds ⟨ps,ks,cells,is,res,keep,nodes,entry⟩ true)=false):=Lib.hid (by rw [decide_eq_false_iff_not,HX.out];intro h;exact c2 h.2.2.1)
  go_enter Try.func21,Try.ntmps21
  go_wp2
  go_ret
  exact ⟨by rw [HD.out];rfl,HBL.out⟩
 have g2a:decide ((nP:Int) > 4)=false:=by simp;omega
 have g2b:decide (nP > 4)=false:=by simp;omega
 by_cases c3:nI=nP
 rotate_left
 ·have g3a:((nI:Int) != (nP:Int))=true:=by rw [bne_iff_ne];omega
  have g3b:(nI != nP)=true:=by rw [bne_iff_ne];omega
  have HD:Hid (decide (headHolds ⟨ps,ks,cells,is,res,keep,nodes,entry⟩ true)=false):=Lib.hid (by rw [decide_eq_false_iff_not,HX.out];intro h;exact c3 h.2.2.2.1)
  go_enter Try.func21,Try.ntmps21
  go_wp2
  go_ret
  exact ⟨by rw [HD.out];rfl,HBL.out⟩
 subst c3
 have g3a:((nI:Int) != (nI:Int))=false:=by simp
 have g3b:(nI != nI)=false:=by simp
 by_cases c4:0≤cells
 rotate_left
 ·have g4a:decide (cells<0)=true:=by simp;omega
  have HD:Hid (decide (headHolds ⟨ps,ks,cells,is,res,keep,nodes,entry⟩ true)=false):=Lib.hid (by rw [decide_eq_false_iff_not,HX.out];intro h;exact c4 h.2.2.2.2.1)
  go_enter Try.func21,Try.ntmps21
  go_wp2
  go_ret
  exact ⟨by rw [HD.out];rfl,HBL.out⟩
 have g4a:decide (cells<0)=false:=by simp;omega
 by_cases c5:cells≤64
 rotate_left
 ·have g5a:decide (cells > 64)=true:=by simp;omega
  have HD:Hid (decide (headHolds ⟨ps,ks,cells,is,res,keep,nodes,entry⟩ true)=false):=Lib.hid (by rw [decide_eq_false_iff_not,HX.out];intro h;exact c5 h.2.2.2.2.2.1)
  go_enter Try.func21,Try.ntmps21
  go_wp2
  go_ret
  exact ⟨by rw [HD.out];rfl,HBL.out⟩
 have g5a:decide (cells > 64)=false:=by simp;omega
 by_cases c6:-1≤keep
 rotate_left
 ·have g6a:decide (keep < -1)=true:=by simp;omega
  have HD:Hid (decide (headHolds ⟨ps,ks,cells,is,res,keep,nodes,entry⟩ true)=false):=Lib.hid (by rw [decide_eq_false_iff_not,HX.out];intro h;exact c6 h.2.2.2.2.2.2.1)
  go_enter Try.func21,Try.ntmps21
  go_wp2
  go_ret
  exact ⟨by rw [HD.out];rfl,HBL.out⟩
 have g6a:decide (keep < -1)=false:=by simp;omega
 by_cases c7:keep<cells
 rotate_left
 ·have g7a:decide (keep≥cells)=true:=by simp;omega
  have HD:Hid (decide (headHolds ⟨ps,ks,cells,is,res,keep,nodes,entry⟩ true)=false):=Lib.hid (by rw [decide_eq_false_iff_not,HX.out];intro h;exact c7 h.2.2.2.2.2.2.2.1)
  go_enter Try.func21,Try.ntmps21
  go_wp2
  go_ret
  exact ⟨by rw [HD.out];rfl,HBL.out⟩
 have g7a:decide (keep≥cells)=false:=by simp;omega
 have HC:Hid ((∀ k ∈ ks,k≤1)→(∀ i,i<nI→rparam ⟨ps,ks,cells,is,res,keep,nodes,entry⟩ true i)→1≤nN→nN≤4096→isOne entry nN→headHolds ⟨ps,ks,cells,is,res,keep,nodes,entry⟩ true):=Lib.hid fun h1 h2 h3 h4 h5=>HX.out.2 ⟨c0,(fun _=>c1),c2,rfl,c4,c5,c6,c7,h1,h2,h3,h4,h5⟩
 clear c2 c4 c5 c6 c7
 obtain ⟨W1,hW1⟩:∃ W,W=(w.alloc (.cells #[.slice po nI pc,.slice ko nK kc,.int .i64 cells,.slice io nI ic,.bool res,.int .i64 keep,.slice no nN nc,.int .i64 entry] 45)):=⟨_,rfl⟩
 have HW1:=Lib.hid hW1
 rw [← hW1] at HBL hB1 HBX HP HK HI
 clear hW1
 go_enter Try.func21,Try.ntmps21
 go_wp2
 rw [← HW1.out]
 go_loopw [62] (fun i wr=>∃ k:Nat,k≤nK∧i=.int .i64 k∧Hid (∀ y ∈ ks.take k,y≤1)∧wr=W1) (fun i _=>nK-(intOf i).toNat)
 case atStart=>exact ⟨0,Nat.zero_le _,rfl,Lib.hid (by simp),rfl⟩
 case round =>
  obtain ⟨k,hkk,rfl,HQ,rfl⟩:=hrel
  by_cases hlt:k<nK
  ·obtain ⟨b,off,x,hko,hb,HXK,x1⟩:=HK.out.byte hlt
   subst hko
   by_cases hx:x≤1
   rotate_left
   ·have q:decide (x > 1)=true:=by simp;omega
    have HD:Hid (decide (headHolds ⟨ps,ks,cells,is,res,keep,nodes,entry⟩ true)=false):=Lib.hid (by rw [decide_eq_false_iff_not,HX.out];intro h;exact hx (h.2.2.2.2.2.2.2.2.1 x (List.mem_of_getElem? HXK.out)))
    go_wp2
    go_ret
    exact ⟨by rw [HD.out];rfl,HBL.out⟩
   have q:decide (x > 1)=false:=by simp;omega
   have HQ2:=Lib.hid (all_take (Q:=fun y:Int=>y≤1) HXK.out hx HQ.out)
   clear hx
   go_wp2
   go_roundw
   case rel=>exact ⟨k+1,by omega,by go_num,HQ2,by first | rfl | trivial⟩
   case measure=>simp [intOf];omega
  ·obtain rfl:k=nK:=by omega
   have HKS:Hid (∀ y ∈ ks,y≤1):=Lib.hid (by have:=HQ.out;rwa [List.take_of_length_le (by rw [HKL.out];omega)] at this)
   have d0:wr.cell? ⟨w.heap.size,0,none⟩=some (.slice po nI pc):=HBX.out.cell 0
   clear hlt hkk
   go_wp2
   clear d0
   obtain ⟨wo,rfl⟩:∃ wo:World,wo=wr:=⟨_,rfl⟩
   go_loopw [72] (fun i wx=>∃ k:Nat,k≤nI∧i=.int .i64 k∧Hid (∀ i,i<k→rparam ⟨ps,ks,cells,is,res,keep,nodes,entry⟩ true i)∧Hid (Below wo.heap.size wo wx)) (fun i _=>nI-(intOf i).toNat)
   case atStart=>exact ⟨0,Nat.zero_le _,rfl,Lib.hid (by intro i hi;omega),Lib.hid (Below.refl _ _)⟩
   case round =>
    obtain ⟨j,hj,rfl,HJ,HW⟩:=hrel
    have HBX2:=Lib.hid (HBX.out.below HW.out HBX.out.lt)
    have HBL2:=Lib.hid (HBL.out.trans (HW.out.mono HBL.out.size))
    have hBr:B≤wr.heap.size:=Nat.le_trans hB1 HW.out.size
    have d0:wr.cell? ⟨w.heap.size,0,none⟩=some (.slice po nI pc):=HBX2.out.cell 0
    have d1:wr.cell? ⟨w.heap.size,1,none⟩=some (.slice ko k kc):=HBX2.out.cell 1
    have d2:wr.cell? ⟨w.heap.size,2,none⟩=some (.int .i64 cells):=HBX2.out.cell 2
    have d3:wr.cell? ⟨w.heap.size,3,none⟩=some (.slice io nI ic):=HBX2.out.cell 3
    have d4:wr.cell? ⟨w.heap.size,4,none⟩=some (.bool res):=HBX2.out.cell 4
    have d5:wr.cell? ⟨w.heap.size,5,none⟩=some (.int .i64 keep):=HBX2.out.cell 5
    have d6:wr.cell? ⟨w.heap.size,6,none⟩=some (.slice no nN nc):=HBX2.out.cell 6
    have d7:wr.cell? ⟨w.heap.size,7,none⟩=some (.int .i64 entry):=HBX2.out.cell 7
    by_cases hjl:j<nI
    ·obtain ⟨bp,op_,p,hpo,hbp,HXP,p1⟩:=(HP.out.below (HW.out.mono hB1)).int hjl
     obtain ⟨bi,oi,q,hio,hbi,HXI,i1⟩:=(HI.out.below (HW.out.mono hB1)).int hjl
     have HPA:=Lib.hid (HP.out.below (HW.out.mono hB1))
     have HKA:=Lib.hid (HK.out.below (HW.out.mono hB1))
     subst hpo
     subst hio
     have hpg:ps.getD j 0=p:=by simp [List.getD,HXP.out]
     have hig:is.getD j 0=q:=by simp [List.getD,HXI.out]
     have HRP:Hid (rparam ⟨ps,ks,cells,is,res,keep,nodes,entry⟩ true j↔isOne p k∧p ∉ ps.take j∧(true=true→p=j)∧-1≤q∧q<cells∧(0≤q→fits ks true p 0)):=Lib.hid (by
      unfold rparam
      simp only [hpg,hig,HKL.out])
     have HPG:=Lib.hid hpg
     clear hpg hig
     have hbpr:bp<wr.heap.size:=by omega
     have hbir:bi<wr.heap.size:=by omega
     have HU:=Lib.hid (HPA.out.upto (k:=j) (by omega))
     have HUL:Hid ((ps.take j).length=j):=Lib.hid (by rw [List.length_take,HPL.out];omega)
     by_cases e1:0≤p
     rotate_left
     ·have r1:decide (p<0)=true:=by simp;omega
      have HD:Hid (decide (headHolds ⟨ps,ks,cells,is,res,keep,nodes,entry⟩ true)=false):=Lib.hid (by rw [decide_eq_false_iff_not,HX.out];intro h;have h2:=HRP.out.1 (h.2.2.2.2.2.2.2.2.2.1 j hjl);exact e1 h2.1.1)
      go_wp2
      go_ret
      exact ⟨by rw [HD.out];rfl,by first | exact HBL2.out | exact below_drewN HBL2.out _⟩
     have r1:decide (p<0)=false:=by simp;omega
     by_cases e2:p<k
     rotate_left
     ·have r2:decide (p≥(k:Int))=true:=by simp;omega
      have HD:Hid (decide (headHolds ⟨ps,ks,cells,is,res,keep,nodes,entry⟩ true)=false):=Lib.hid (by rw [decide_eq_false_iff_not,HX.out];intro h;have h2:=HRP.out.1 (h.2.2.2.2.2.2.2.2.2.1 j hjl);exact e2 h2.1.2)
      go_wp2
      go_ret
      exact ⟨by rw [HD.out];rfl,by first | exact HBL2.out | exact below_drewN HBL2.out _⟩
     have r2:decide (p≥(k:Int))=false:=by simp;omega
     by_cases e3:p ∈ ps.take j
     ·have H2:Hid (decide (p ∈ ps.take j)=true):=Lib.hid (decide_eq_true e3)
      have HD:Hid (decide (headHolds ⟨ps,ks,cells,is,res,keep,nodes,entry⟩ true)=false):=Lib.hid (by rw [decide_eq_false_iff_not,HX.out];intro h;have h2:=HRP.out.1 (h.2.2.2.2.2.2.2.2.2.1 j hjl);exact h2.2.1 e3)
      clear e3
      go_wp2_with (first | (go_at_call 41;refine (in_any B _ _ _ (ps.take j) p _ HU.out HUL.out (by omega)).mono ?_;rintro e w3 ⟨rfl,hw3⟩;rw [hw3];clear hw3;rw [H2.out]))
      go_ret
      exact ⟨by rw [HD.out];rfl,by first | exact HBL2.out | exact below_drewN HBL2.out _⟩
     have H2:Hid (decide (p ∈ ps.take j)=false):=Lib.hid (decide_eq_false e3)
     have HE3:=Lib.hid e3
     clear e3
     by_cases e4:p=(j:Int)
     rotate_left
     ·have r4:(p != (j:Int))=true:=by simpa using e4
      have HD:Hid (decide (headHolds ⟨ps,ks,cells,is,res,keep,nodes,entry⟩ true)=false):=Lib.hid (by rw [decide_eq_false_iff_not,HX.out];intro h;have h2:=HRP.out.1 (h.2.2.2.2.2.2.2.2.2.1 j hjl);exact e4 (h2.2.2.1 rfl))
      clear e4
      go_wp2_with (first | (go_at_call 41;refine (in_any B _ _ _ (ps.take j) p _ HU.out HUL.out (by omega)).mono ?_;rintro e w3 ⟨rfl,hw3⟩;rw [hw3];clear hw3;rw [H2.out]))
      go_ret
      exact ⟨by rw [HD.out];rfl,by first | exact HBL2.out | exact below_drewN HBL2.out _⟩
     have r4:(p != (j:Int))=false:=by simpa using e4
     have HE4:=Lib.hid e4
     clear e4
     by_cases e5:-1≤q
     rotate_left
     ·have r5:decide (q < -1)=true:=by simp;omega
      have HD:Hid (decide (headHolds ⟨ps,ks,cells,is,res,keep,nodes,entry⟩ true)=false):=Lib.hid (by rw [decide_eq_false_iff_not,HX.out];intro h;have h2:=HRP.out.1 (h.2.2.2.2.2.2.2.2.2.1 j hjl);exact e5 h2.2.2.2.1)
      go_wp2_with (first | (go_at_call 41;refine (in_any B _ _ _ (ps.take j) p _ HU.out HUL.out (by omega)).mono ?_;rintro e w3 ⟨rfl,hw3⟩;rw [hw3];clear hw3;rw [H2.out]))
      go_quiet (fail)
      go_wp2
      go_ret
      exact ⟨by rw [HD.out];rfl,by first | exact HBL2.out | exact below_drewN HBL2.out _⟩
     have r5:decide (q < -1)=false:=by simp;omega
     by_cases e6:q<cells
     rotate_left
     ·have r6:decide (q≥cells)=true:=by simp;omega
      have HD:Hid (decide (headHolds ⟨ps,ks,cells,is,res,keep,nodes,entry⟩ true)=false):=Lib.hid (by rw [decide_eq_false_iff_not,HX.out];intro h;have h2:=HRP.out.1 (h.2.2.2.2.2.2.2.2.2.1 j hjl);exact e6 h2.2.2.2.2.1)
      go_wp2_with (first | (go_at_call 41;refine (in_any B _ _ _ (ps.take j) p _ HU.out HUL.out (by omega)).mono ?_;rintro e w3 ⟨rfl,hw3⟩;rw [hw3];clear hw3;rw [H2.out]))
      go_quiet (fail)
      go_wp2
      go_ret
      exact ⟨by rw [HD.out];rfl,by first | exact HBL2.out | exact below_drewN HBL2.out _⟩
     have r6:decide (q≥cells)=false:=by simp;omega
     by_cases e7:0≤q
     rotate_left
     ·have r7:decide (q≥0)=false:=by simp;omega
      have HJ2:=Lib.hid (upto_snoc HJ.out (HRP.out.2 ⟨⟨e1,e2⟩,HE3.out,(fun _=>HE4.out),e5,e6,fun h=>absurd h e7⟩))
      clear e1 e2 e5 e6 e7
      go_wp2_with (first | (go_at_call 41;refine (in_any B _ _ _ (ps.take j) p _ HU.out HUL.out (by omega)).mono ?_;rintro e w3 ⟨rfl,hw3⟩;rw [hw3];clear hw3;rw [H2.out]))
      go_quiet (fail)
      go_wp2
      go_roundw
      case rel=>exact ⟨j+1,by omega,by go_num,HJ2,Lib.hid (below_drewN HW.out _)⟩
      case measure=>simp [intOf];omega
     have r7:decide (q≥0)=true:=by simp;omega
     have HKD:Hid (Reads wr.drew B 1 ko k (u8c ks)):=Lib.hid (HKA.out.drew)
     by_cases e8:fits ks true p 0
     rotate_left
     ·have H1:Hid (decide (fits ks true p 0)=false):=Lib.hid (decide_eq_false e8)
      have HD:Hid (decide (headHolds ⟨ps,ks,cells,is,res,keep,nodes,entry⟩ true)=false):=Lib.hid (by rw [decide_eq_false_iff_not,HX.out];intro h;have h2:=HRP.out.1 (h.2.2.2.2.2.2.2.2.2.1 j hjl);exact e8 (h2.2.2.2.2.2 e7))
      clear e8
      go_wp2_with (first | (go_at_call 41;refine (in_any B _ _ _ (ps.take j) p _ HU.out HUL.out (by omega)).mono ?_;rintro e w3 ⟨rfl,hw3⟩;rw [hw3];clear hw3;rw [H2.out]))
      go_still_tail 27,(by kernel_rfl)
      change wpList _ _ _ _ _ wr.drew
      go_wp2_with (first | (go_at_call 42;refine (rfits_any B ks _ _ _ _ _ _ _ _ _ _ _ _ _ _ _ _ true p 0 _ HKD.out HKL.out hnK hBr).mono ?_;rintro ee w9 ⟨rfl,hb9⟩;have HWL:Hid (Below wr.heap.size wr w9):=Lib.hid ((Below.refl _ _).drew.trans hb9);clear hb9;rw [H1.out]))
      go_ret
      exact ⟨by rw [HD.out];rfl,HBL2.out.trans (HWL.out.mono HBL2.out.size)⟩
     have H1:Hid (decide (fits ks true p 0)=true):=Lib.hid (decide_eq_true e8)
     have HJ2:=Lib.hid (upto_snoc HJ.out (HRP.out.2 ⟨⟨e1,e2⟩,HE3.out,(fun _=>HE4.out),e5,e6,fun _=>e8⟩))
     clear e8
     go_wp2_with (first | (go_at_call 41;refine (in_any B _ _ _ (ps.take j) p _ HU.out HUL.out (by omega)).mono ?_;rintro e w3 ⟨rfl,hw3⟩;rw [hw3];clear hw3;rw [H2.out]))
     go_still_tail 27,(by kernel_rfl)
     change wpList _ _ _ _ _ wr.drew
     go_wp2_with (first | (go_at_call 42;refine (rfits_any B ks _ _ _ _ _ _ _ _ _ _ _ _ _ _ _ _ true p 0 _ HKD.out HKL.out hnK hBr).mono ?_;rintro ee w9 ⟨rfl,hb9⟩;have HWL:Hid (Below wr.heap.size wr w9):=Lib.hid ((Below.refl _ _).drew.trans hb9);clear hb9;rw [H1.out]))
     go_roundw
     case rel=>exact ⟨j+1,by omega,by go_num,HJ2,Lib.hid (HW.out.trans (HWL.out.mono HW.out.size))⟩
     case measure=>simp [intOf];omega
    ·obtain rfl:j=nI:=by omega
     clear hjl hj
     by_cases k0:1≤nN
     rotate_left
     ·have s0a:decide ((nN:Int)≥1)=false:=by simp;omega
      have s0b:decide (nN≥1)=false:=by simp;omega
      have HD:Hid (decide (headHolds ⟨ps,ks,cells,is,res,keep,nodes,entry⟩ true)=false):=Lib.hid (by rw [decide_eq_false_iff_not,HX.out];intro h;exact k0 h.2.2.2.2.2.2.2.2.2.2.1)
      go_wp2
      go_ret
      exact ⟨by rw [HD.out];rfl,HBL2.out⟩
     have s0a:decide ((nN:Int)≥1)=true:=by simp;omega
     have s0b:decide (nN≥1)=true:=by simp;omega
     by_cases k1:nN≤4096
     rotate_left
     ·have s1a:decide ((nN:Int)≤4096)=false:=by simp;omega
      have s1b:decide (nN≤4096)=false:=by simp;omega
      have HD:Hid (decide (headHolds ⟨ps,ks,cells,is,res,keep,nodes,entry⟩ true)=false):=Lib.hid (by rw [decide_eq_false_iff_not,HX.out];intro h;exact k1 h.2.2.2.2.2.2.2.2.2.2.2.1)
      go_wp2
      go_ret
      exact ⟨by rw [HD.out];rfl,HBL2.out⟩
     have s1a:decide ((nN:Int)≤4096)=true:=by simp;omega
     have s1b:decide (nN≤4096)=true:=by simp;omega
     by_cases k2:0≤entry
     rotate_left
     ·have s2a:decide (entry≥0)=false:=by simp;omega
      have HD:Hid (decide (headHolds ⟨ps,ks,cells,is,res,keep,nodes,entry⟩ true)=false):=Lib.hid (by rw [decide_eq_false_iff_not,HX.out];intro h;exact k2 h.2.2.2.2.2.2.2.2.2.2.2.2.1)
      go_wp2
      go_ret
      exact ⟨by rw [HD.out];rfl,HBL2.out⟩
     have s2a:decide (entry≥0)=true:=by simp;omega
     by_cases k3:entry<nN
     rotate_left
     ·have s3a:decide (entry<(nN:Int))=false:=by simp;omega
      have HD:Hid (decide (headHolds ⟨ps,ks,cells,is,res,keep,nodes,entry⟩ true)=false):=Lib.hid (by rw [decide_eq_false_iff_not,HX.out];intro h;exact k3 h.2.2.2.2.2.2.2.2.2.2.2.2.2)
      go_wp2
      go_ret
      exact ⟨by rw [HD.out];rfl,HBL2.out⟩
     have s3a:decide (entry<(nN:Int))=true:=by simp;omega
     have HD:Hid (decide (headHolds ⟨ps,ks,cells,is,res,keep,nodes,entry⟩ true)=true):=Lib.hid (by rw [decide_eq_true_eq];exact HC.out HKS.out HJ.out k0 k1 ⟨k2,k3⟩)
     go_wp2
     go_ret
     exact ⟨by rw [HD.out];rfl,HBL2.out⟩
theorem rnode_none (gs:List Gr) (g:Gr) (fo:Option Addr) (nF cF:Nat) (po ko io no:Option Addr) (nP pc nK kc nI ic nN nc:Nat) (cells keep entry:Int) (res bd:Bool) (op bop d e a b f cell imm:Int) (args:List Int) (nx el:Int) (ao:Option Addr) (nA ac:Nat) (w:World) (hk1:∀ k ∈ g.kinds,k=0∨k=1) (ho0:0≤op) (ho1:op≤255) (ho:op<1∨18<op) :
  Calls Try.prog 22 #[.slice fo nF cF,.agg #[.slice po nP pc,.slice ko nK kc,.int .i64 cells,.slice io nI ic,.bool res,.int .i64 keep,.slice no nN nc,.int .i64 entry],.bool bd,.agg #[.int .u8 op,.int .u8 bop,.int .i64 d,.int .i64 e,.int .i64 a,.int .i64 b,.int .i64 f,.int .i64 cell,.int .u64 imm,.slice ao nA ac,.int .i64 nx,.int .i64 el]] w fun ee w'=>ee=.returned (.bool (decide (nodeHolds gs g bd ⟨op,bop,d,e,a,b,f,cell,imm,args,nx,el⟩)))∧Below w.heap.size w w':=by
 have HB2:Hid (Below w.heap.size w ((w.alloc (.cells #[.slice po nP pc,.slice ko nK kc,.int .i64 cells,.slice io nI ic,.bool res,.int .i64 keep,.slice no nN nc,.int .i64 entry] 45)).alloc (.cells #[.int .u8 op,.int .u8 bop,.int .i64 d,.int .i64 e,.int .i64 a,.int .i64 b,.int .i64 f,.int .i64 cell,.int .u64 imm,.slice ao nA ac,.int .i64 nx,.int .i64 el] 70))):=((Below.refl _ _).alloc (Nat.le_refl _) _).alloc (by simp) _
 have HD:Hid (decide (nodeHolds gs g bd ⟨op,bop,d,e,a,b,f,cell,imm,args,nx,el⟩)=false):=Lib.hid (by
  rw [decide_eq_false_iff_not,← rnode_eq hk1 ho0 ho1]
  rintro ⟨⟨h1,h2⟩,_⟩
  have h1:1≤op:=h1
  have h2:op≤18:=h2
  omega)
 by_cases h:op<1
 ·have q:decide (op<1)=true:=by simpa using h
  go_enter Try.func22,Try.ntmps22
  go_wp2
  go_ret
  exact ⟨by rw [HD.out];rfl,HB2.out⟩
 ·have q:decide (op<1)=false:=by simpa using h
  have q2:decide (op > 18)=true:=by simp;omega
  go_enter Try.func22,Try.ntmps22
  go_wp2
  go_ret
  exact ⟨by rw [HD.out];rfl,HB2.out⟩

theorem rnode_any (B:Nat) (rs:List RG) (r:RG) (i:RN) (fo:Option Addr) (nF cF:Nat) (bd:Bool) (w:World) (HF0:RdP w B fo nF rs) (hg:RdG w B r) (hwg:WfG r.gr) (hi:RdN w B i) (hwi:WfN i.nd) (hB:B≤w.heap.size) (hk1:∀ k ∈ r.gr.kinds,k=0∨k=1) (hh:∀ g ∈ grs rs,headHolds g bd) :
  Calls Try.prog 22 #[.slice fo nF cF,.agg #[.slice r.po r.gr.params.length r.pc,.slice r.ko r.gr.kinds.length r.kc,.int .i64 r.gr.cells,.slice r.io r.gr.init.length r.ic,.bool r.gr.result,.int .i64 r.gr.keep,.slice r.no r.gr.nodes.length r.nc,.int .i64 r.gr.entry],.bool bd,.agg #[.int .u8 i.nd.op,.int .u8 i.nd.bop,.int .i64 i.nd.d,.int .i64 i.nd.e,.int .i64 i.nd.a,.int .i64 i.nd.b,.int .i64 i.nd.f,.int .i64 i.nd.cell,.int .u64 i.nd.imm,.slice i.ao i.nd.args.length i.ac,.int .i64 i.nd.next,.int .i64 i.nd.els]] w fun ee w'=>ee=.returned (.bool (decide (nodeHolds (grs rs) r.gr bd i.nd)))∧Below w.heap.size w w':=by
 obtain ⟨⟨op,bop,d,e,a,b,f,cell,imm,args,nx,el⟩,ao,ac⟩:=i
 have ho0:=hwi.o0
 have ho1:=hwi.o1
 have hal:=hwi.al
 have hkl:=hwg.kl
 have ha:=hi.args
 simp only at ho0 ho1 hal ha
 rcases op_cases ho0 ho1 with rfl | rfl | rfl | rfl | rfl | rfl | rfl | rfl | rfl | rfl | rfl | rfl | rfl | rfl | rfl | rfl | rfl | rfl | h
 ·exact rnode_1 B rs r.gr.params r.gr.kinds r.gr.init r.gr.nodes fo nF cF r.po r.ko r.io r.no _ r.pc _ r.kc _ r.ic _ r.nc r.gr.cells r.gr.keep r.gr.entry r.gr.result bd bop d e a b f cell imm args nx el ao _ ac w HF0 hg.kinds rfl (by omega) ha rfl (by omega) hB hk1 hh rfl
 ·exact rnode_2 B rs r.gr.params r.gr.kinds r.gr.init r.gr.nodes fo nF cF r.po r.ko r.io r.no _ r.pc _ r.kc _ r.ic _ r.nc r.gr.cells r.gr.keep r.gr.entry r.gr.result bd bop d e a b f cell imm args nx el ao _ ac w HF0 hg.kinds rfl (by omega) ha rfl (by omega) hB hk1 hh rfl
 ·exact rnode_3 B rs r.gr.params r.gr.kinds r.gr.init r.gr.nodes fo nF cF r.po r.ko r.io r.no _ r.pc _ r.kc _ r.ic _ r.nc r.gr.cells r.gr.keep r.gr.entry r.gr.result bd bop d e a b f cell imm args nx el ao _ ac w HF0 hg.kinds rfl (by omega) ha rfl (by omega) hB hk1 hh rfl
 ·exact rnode_4 B rs r.gr.params r.gr.kinds r.gr.init r.gr.nodes fo nF cF r.po r.ko r.io r.no _ r.pc _ r.kc _ r.ic _ r.nc r.gr.cells r.gr.keep r.gr.entry r.gr.result bd bop d e a b f cell imm args nx el ao _ ac w HF0 hg.kinds rfl (by omega) ha rfl (by omega) hB hk1 hh rfl
 ·exact rnode_5 B rs r.gr.params r.gr.kinds r.gr.init r.gr.nodes fo nF cF r.po r.ko r.io r.no _ r.pc _ r.kc _ r.ic _ r.nc r.gr.cells r.gr.keep r.gr.entry r.gr.result bd bop d e a b f cell imm args nx el ao _ ac w HF0 hg.kinds rfl (by omega) ha rfl (by omega) hB hk1 hh rfl
 ·exact rnode_6 B rs r.gr.params r.gr.kinds r.gr.init r.gr.nodes fo nF cF r.po r.ko r.io r.no _ r.pc _ r.kc _ r.ic _ r.nc r.gr.cells r.gr.keep r.gr.entry r.gr.result bd bop d e a b f cell imm args nx el ao _ ac w HF0 hg.kinds rfl (by omega) ha rfl (by omega) hB hk1 hh rfl
 ·exact rnode_7 B rs r.gr.params r.gr.kinds r.gr.init r.gr.nodes fo nF cF r.po r.ko r.io r.no _ r.pc _ r.kc _ r.ic _ r.nc r.gr.cells r.gr.keep r.gr.entry r.gr.result bd bop d e a b f cell imm args nx el ao _ ac w HF0 hg.kinds rfl (by omega) ha rfl (by omega) hB hk1 hh rfl
 ·exact rnode_8 B rs r.gr.params r.gr.kinds r.gr.init r.gr.nodes fo nF cF r.po r.ko r.io r.no _ r.pc _ r.kc _ r.ic _ r.nc r.gr.cells r.gr.keep r.gr.entry r.gr.result bd bop d e a b f cell imm args nx el ao _ ac w HF0 hg.kinds rfl (by omega) ha rfl (by omega) hB hk1 hh rfl
 ·exact rnode_9 B rs r.gr.params r.gr.kinds r.gr.init r.gr.nodes fo nF cF r.po r.ko r.io r.no _ r.pc _ r.kc _ r.ic _ r.nc r.gr.cells r.gr.keep r.gr.entry r.gr.result bd bop d e a b f cell imm args nx el ao _ ac w HF0 hg.kinds rfl (by omega) ha rfl (by omega) hB hk1 hh rfl
 ·exact rnode_10 B rs r.gr.params r.gr.kinds r.gr.init r.gr.nodes fo nF cF r.po r.ko r.io r.no _ r.pc _ r.kc _ r.ic _ r.nc r.gr.cells r.gr.keep r.gr.entry r.gr.result bd bop d e a b f cell imm args nx el ao _ ac w HF0 hg.kinds rfl (by omega) ha rfl (by omega) hB hk1 hh rfl
 ·exact rnode_11 B rs r.gr.params r.gr.kinds r.gr.init r.gr.nodes fo nF cF r.po r.ko r.io r.no _ r.pc _ r.kc _ r.ic _ r.nc r.gr.cells r.gr.keep r.gr.entry r.gr.result bd bop d e a b f cell imm args nx el ao _ ac w HF0 hg.kinds rfl (by omega) ha rfl (by omega) hB hk1 hh rfl
 ·exact rnode_12 B rs r.gr.params r.gr.kinds r.gr.init r.gr.nodes fo nF cF r.po r.ko r.io r.no _ r.pc _ r.kc _ r.ic _ r.nc r.gr.cells r.gr.keep r.gr.entry r.gr.result bd bop d e a b f cell imm args nx el ao _ ac w HF0 hg.kinds rfl (by omega) ha rfl (by omega) hB hk1 hh rfl
 ·exact rnode_13 B rs r.gr.params r.gr.kinds r.gr.init r.gr.nodes fo nF cF r.po r.ko r.io r.no _ r.pc _ r.kc _ r.ic _ r.nc r.gr.cells r.gr.keep r.gr.entry r.gr.result bd bop d e a b f cell imm args nx el ao _ ac w HF0 hg.kinds rfl (by omega) ha rfl (by omega) hB hk1 hh rfl
 ·exact rnode_14 B rs r.gr.params r.gr.kinds r.gr.init r.gr.nodes fo nF cF r.po r.ko r.io r.no _ r.pc _ r.kc _ r.ic _ r.nc r.gr.cells r.gr.keep r.gr.entry r.gr.result bd bop d e a b f cell imm args nx el ao _ ac w HF0 hg.kinds rfl (by omega) ha rfl (by omega) hB hk1 hh rfl
 ·exact rnode_15 B rs r.gr.params r.gr.kinds r.gr.init r.gr.nodes fo nF cF r.po r.ko r.io r.no _ r.pc _ r.kc _ r.ic _ r.nc r.gr.cells r.gr.keep r.gr.entry r.gr.result bd bop d e a b f cell imm args nx el ao _ ac w HF0 hg.kinds rfl (by omega) ha rfl (by omega) hB hk1 hh rfl
 ·exact rnode_16 B rs r.gr.params r.gr.kinds r.gr.init r.gr.nodes fo nF cF r.po r.ko r.io r.no _ r.pc _ r.kc _ r.ic _ r.nc r.gr.cells r.gr.keep r.gr.entry r.gr.result bd bop d e a b f cell imm args nx el ao _ ac w HF0 hg.kinds rfl (by omega) ha rfl (by omega) hB hk1 hh rfl
 ·exact rnode_17 B rs r.gr.params r.gr.kinds r.gr.init r.gr.nodes fo nF cF r.po r.ko r.io r.no _ r.pc _ r.kc _ r.ic _ r.nc r.gr.cells r.gr.keep r.gr.entry r.gr.result bd bop d e a b f cell imm args nx el ao _ ac w HF0 hg.kinds rfl (by omega) ha rfl (by omega) hB hk1 hh rfl
 ·exact rnode_18 B rs r.gr.params r.gr.kinds r.gr.init r.gr.nodes fo nF cF r.po r.ko r.io r.no _ r.pc _ r.kc _ r.ic _ r.nc r.gr.cells r.gr.keep r.gr.entry r.gr.result bd bop d e a b f cell imm args nx el ao _ ac w HF0 hg.kinds rfl (by omega) ha rfl (by omega) hB hk1 hh rfl
 ·exact rnode_none (grs rs) r.gr fo nF cF r.po r.ko r.io r.no _ r.pc _ r.kc _ r.ic _ r.nc r.gr.cells r.gr.keep r.gr.entry r.gr.result bd op bop d e a b f cell imm args nx el ao _ ac w hk1 ho0 ho1 (by omega)
theorem rhead_any (B:Nat) (r:RG) (bd:Bool) (w:World) (h:RdG w B r) (hw:WfG r.gr) (hB:B≤w.heap.size) :
  Calls Try.prog 21 #[.agg #[.slice r.po r.gr.params.length r.pc,.slice r.ko r.gr.kinds.length r.kc,.int .i64 r.gr.cells,.slice r.io r.gr.init.length r.ic,.bool r.gr.result,.int .i64 r.gr.keep,.slice r.no r.gr.nodes.length r.nc,.int .i64 r.gr.entry],.bool bd] w fun e w'=>e=.returned (.bool (decide (headHolds r.gr bd)))∧Below w.heap.size w w':=by
 have h1:=hw.pl
 have h2:=hw.kl
 have h3:=hw.il
 have h4:=hw.nl
 cases bd
 ·exact rhead_false B r.gr.params r.gr.kinds r.gr.init r.gr.nodes r.po r.ko r.io r.no _ r.pc _ r.kc _ r.ic _ r.nc r.gr.cells r.gr.keep r.gr.entry r.gr.result w h.params rfl h.pcap (by omega) h.kinds rfl (by omega) h.init rfl (by omega) rfl (by omega) hw.kinds hB
 ·exact rhead_true B r.gr.params r.gr.kinds r.gr.init r.gr.nodes r.po r.ko r.io r.no _ r.pc _ r.kc _ r.ic _ r.nc r.gr.cells r.gr.keep r.gr.entry r.gr.result w h.params rfl h.pcap (by omega) h.kinds rfl (by omega) h.init rfl (by omega) rfl (by omega) hw.kinds hB
theorem rright_any (B:Nat) (fo:Option Addr) (nF cF:Nat) (rs:List RG) (bd:Bool) (w:World) (h:RdP w B fo nF rs) (hB:B≤w.heap.size) :
  Calls Try.prog 11 #[.agg #[.slice fo nF cF],.bool bd] w fun e w'=>e=.returned (.bool (decide (valid (grs rs) bd)))∧Below w.heap.size w w':=by
 have HBL:Hid (Below w.heap.size w (w.alloc (.cells #[.slice fo nF cF] 29))):=(Below.refl _ _).alloc (Nat.le_refl _) _
 have HBX:Hid (Blk (w.alloc (.cells #[.slice fo nF cF] 29)) w.heap.size 29 #[.slice fo nF cF]):=Blk.new w _ _
 have hB1:B≤(w.alloc (.cells #[.slice fo nF cF] 29)).heap.size:=by simp;omega
 have HF:=Lib.hid (h.below (HBL.out.mono hB))
 have HGL:Hid ((grs rs).length=nF):=Lib.hid (by rw [length_grs,h.len])
 obtain ⟨W1,hW1⟩:∃ W,W=(w.alloc (.cells #[.slice fo nF cF] 29)):=⟨_,rfl⟩
 have HW1:=Lib.hid hW1
 have HZ1:Hid (w.heap.size≤W1.heap.size):=Lib.hid (by rw [hW1];simp)
 rw [← hW1] at HBL HBX hB1 HF
 have d0:W1.cell? ⟨w.heap.size,0,none⟩=some (.slice fo nF cF):=HBX.out.cell 0
 clear h hW1
 by_cases c1:nF<1
 ·have HD:Hid (decide (valid (grs rs) bd)=false):=Lib.hid (by rw [decide_eq_false_iff_not];rintro ⟨⟨h,_⟩,_⟩;rw [HGL.out] at h;omega)
  have g:decide ((nF:Int)<1)=true:=by simp;omega
  go_enter Try.func11,Try.ntmps11
  go_wp2
  go_ret
  exact ⟨by rw [HD.out];rfl,by rw [← HW1.out];exact HBL.out⟩
 have g:decide ((nF:Int)<1)=false:=by simp;omega
 by_cases c2:16<nF
 ·have HD:Hid (decide (valid (grs rs) bd)=false):=Lib.hid (by rw [decide_eq_false_iff_not];rintro ⟨⟨_,h⟩,_⟩;rw [HGL.out] at h;omega)
  have g2:decide ((nF:Int) > 16)=true:=by simp;omega
  go_enter Try.func11,Try.ntmps11
  go_wp2
  go_ret
  exact ⟨by rw [HD.out];rfl,by rw [← HW1.out];exact HBL.out⟩
 have g2:decide ((nF:Int) > 16)=false:=by simp;omega
 have hj:0<nF:=by omega
 obtain ⟨b0,off0,r0,hfo,hb0,HX0,HRG0,HWG0,y0,_,_,_,y4,_,_,_⟩:=HF.out.gr hj
 simp only [Nat.zero_mul,Nat.add_zero] at y0 y4
 have HG0:Hid (grAt (grs rs) 0=r0.gr):=Lib.hid (grAt_of HX0.out)
 subst hfo
 have hbr0:b0<W1.heap.size:=by omega
 obtain ⟨p0,hp0⟩:∃ x,x=r0.gr.params.length:=⟨_,rfl⟩
 obtain ⟨q0,hq0⟩:∃ x,x=r0.gr.result:=⟨_,rfl⟩
 rw [← hp0] at y0
 rw [← hq0] at y4
 have HP0:=Lib.hid hp0
 have HQ0:=Lib.hid hq0
 clear hp0 hq0
 by_cases c3:p0=0
 rotate_left
 ·have HD:Hid (decide (valid (grs rs) bd)=false):=Lib.hid (by rw [decide_eq_false_iff_not];rintro ⟨_,⟨h,_⟩,_⟩;rw [HG0.out,← HP0.out] at h;exact c3 h)
  have g3:((p0:Int) != 0)=true:=by rw [bne_iff_ne];omega
  have g3':(p0 != 0)=true:=by rw [bne_iff_ne];omega
  clear c3
  rw [HW1.out] at y0 y4
  go_enter Try.func11,Try.ntmps11
  go_wp2
  go_ret
  exact ⟨by rw [HD.out];rfl,by rw [← HW1.out];exact HBL.out⟩
 have g3:((p0:Int) != 0)=false:=by simp;omega
 have g3':(p0 != 0)=false:=by simp;omega
 cases q0
 rotate_left
 ·have HD:Hid (decide (valid (grs rs) bd)=false):=Lib.hid (by rw [decide_eq_false_iff_not];rintro ⟨_,⟨_,h⟩,_⟩;rw [HG0.out,← HQ0.out] at h;cases h)
  clear c3
  rw [HW1.out] at y0 y4
  go_enter Try.func11,Try.ntmps11
  go_wp2
  go_ret
  exact ⟨by rw [HD.out];rfl,by rw [← HW1.out];exact HBL.out⟩
 have HV:Hid (valid (grs rs) bd↔(∀ g ∈ grs rs,headHolds g bd)∧∀ g ∈ grs rs,∀ n ∈ g.nodes,nodeHolds (grs rs) g bd n):=Lib.hid (by
  unfold valid
  rw [HG0.out,← HP0.out,← HQ0.out,HGL.out]
  exact ⟨fun h=>h.2.2,fun h=>⟨⟨by omega,by omega⟩,⟨c3,rfl⟩,h⟩⟩)
 obtain ⟨fo,hfo⟩:∃ x,x=(some ⟨b0,off0,none⟩:Option Addr):=⟨_,rfl⟩
 have HFO:=Lib.hid hfo
 have hn16:nF≤16:=by omega
 clear c1 c2
 clear d0
 rw [HW1.out] at y0 y4
 go_enter Try.func11,Try.ntmps11
 go_wp2
 rw [← HW1.out]
 clear y0 y4
 go_loopw [40] (fun i wr=>∃ k:Nat,k≤nF∧i=.int .i64 k∧Hid (∀ g ∈ (grs rs).take k,headHolds g bd)∧Hid (Below W1.heap.size W1 wr)) (fun i _=>nF-(intOf i).toNat)
 case atStart=>exact ⟨0,Nat.zero_le _,rfl,Lib.hid (by simp),Lib.hid (Below.refl _ _)⟩
 case round =>
  obtain ⟨k,hk,rfl,HA,HW⟩:=hrel
  have hz:=HW.out.size
  have d0:wr.cell? ⟨w.heap.size,0,none⟩=some (.slice (some ⟨b0,off0,none⟩) nF cF):=(HBX.out.below HW.out HBX.out.lt).cell 0
  have HBW:=Lib.hid (HBL.out.trans (HW.out.mono HZ1.out))
  by_cases hlt:k<nF
  ·obtain ⟨b,off,r,hfe,hb,HX,HRG,HWG,x0,x1,x2,x3,x4,x5,x6,x7⟩:=(HF.out.below (HW.out.mono hB1)).gr hlt
   obtain ⟨rfl,rfl⟩:b0=b∧off0=off:=by injection hfe with hfe;injection hfe with h1 h2;exact ⟨h1,h2⟩
   clear hfe
   have hbr:b0<wr.heap.size:=by omega
   have HBA:Hid (Below wr.heap.size wr (wr.alloc (.cells #[.slice r.po r.gr.params.length r.pc,.slice r.ko r.gr.kinds.length r.kc,.int .i64 r.gr.cells,.slice r.io r.gr.init.length r.ic,.bool r.gr.result,.int .i64 r.gr.keep,.slice r.no r.gr.nodes.length r.nc,.int .i64 r.gr.entry] 45))):=(Below.refl _ _).alloc (Nat.le_refl _) _
   have HRA:=Lib.hid (HRG.out.below (HBA.out.mono (by omega)))
   have hBa:B≤(wr.alloc (.cells #[.slice r.po r.gr.params.length r.pc,.slice r.ko r.gr.kinds.length r.kc,.int .i64 r.gr.cells,.slice r.io r.gr.init.length r.ic,.bool r.gr.result,.int .i64 r.gr.keep,.slice r.no r.gr.nodes.length r.nc,.int .i64 r.gr.entry] 45)).heap.size:=by simp;omega
   have HMM:Hid (r.gr ∈ grs rs):=Lib.hid (List.mem_map_of_mem (List.mem_of_getElem? HX.out))
   have HXG:Hid ((grs rs)[k]?=some r.gr):=Lib.hid (by unfold grs;rw [List.getElem?_map,HX.out];rfl)
   by_cases c4:headHolds r.gr bd
   ·have H1:Hid (decide (headHolds r.gr bd)=true):=Lib.hid (decide_eq_true c4)
    have HA2:=Lib.hid (all_take (Q:=fun g=>headHolds g bd) HXG.out c4 HA.out)
    clear c4
    go_wp2_with (first | (go_at_call 21;refine (rhead_any B r bd _ HRA.out HWG.out hBa).mono ?_;rintro e w2 ⟨rfl,hb2⟩;have HB2:=Lib.hid (HBA.out.trans (hb2.mono HBA.out.size));clear hb2;rw [H1.out]))
    go_roundw
    case rel=>exact ⟨k+1,by omega,by go_num,HA2,Lib.hid (HW.out.trans (HB2.out.mono hz))⟩
    case measure=>simp [intOf];omega
   ·have H1:Hid (decide (headHolds r.gr bd)=false):=Lib.hid (decide_eq_false c4)
    have HD:Hid (decide (valid (grs rs) bd)=false):=Lib.hid (by rw [decide_eq_false_iff_not,HV.out];rintro ⟨h,_⟩;exact c4 (h _ HMM.out))
    clear c4
    go_wp2_with (first | (go_at_call 21;refine (rhead_any B r bd _ HRA.out HWG.out hBa).mono ?_;rintro e w2 ⟨rfl,hb2⟩;have HB2:=Lib.hid (HBA.out.trans (hb2.mono HBA.out.size));clear hb2;rw [H1.out]))
    go_ret
    exact ⟨by rw [HD.out];rfl,HBW.out.trans (HB2.out.mono HBW.out.size)⟩
  ·obtain rfl:nF=k:=by omega
   have HHA:Hid (∀ g ∈ grs rs,headHolds g bd):=Lib.hid (by have:=HA.out;rwa [List.take_of_length_le (by rw [HGL.out];omega)] at this)
   clear hlt hk
   go_wp2
   obtain ⟨wo,rfl⟩:∃ wo,wo=wr:=⟨_,rfl⟩
   clear d0
   go_loopw [52] (fun i wr=>∃ k:Nat,k≤nF∧i=.int .i64 k∧Hid (∀ g ∈ (grs rs).take k,∀ n ∈ g.nodes,nodeHolds (grs rs) g bd n)∧Hid (Below W1.heap.size W1 wr)) (fun i _=>nF-(intOf i).toNat)
   case atStart=>exact ⟨0,Nat.zero_le _,rfl,Lib.hid (by simp),HW⟩
   case round =>
    clear HW HBW hz
    obtain ⟨k,hk,rfl,HA,HW⟩:=hrel
    have hz:=HW.out.size
    have d0:wr.cell? ⟨w.heap.size,0,none⟩=some (.slice (some ⟨b0,off0,none⟩) nF cF):=(HBX.out.below HW.out HBX.out.lt).cell 0
    have HBW:=Lib.hid (HBL.out.trans (HW.out.mono HZ1.out))
    by_cases hlt:k<nF
    ·obtain ⟨b,off,r,hfe,hb,HX,HRG,HWG,x0,x1,x2,x3,x4,x5,x6,x7⟩:=(HF.out.below (HW.out.mono hB1)).gr hlt
     obtain ⟨rfl,rfl⟩:b0=b∧off0=off:=by injection hfe with hfe;injection hfe with h1 h2;exact ⟨h1,h2⟩
     clear hfe
     have hbr:b0<wr.heap.size:=by omega
     have hb8:Below wr.heap.size wr (wr.alloc (.cells #[.slice r.po r.gr.params.length r.pc,.slice r.ko r.gr.kinds.length r.kc,.int .i64 r.gr.cells,.slice r.io r.gr.init.length r.ic,.bool r.gr.result,.int .i64 r.gr.keep,.slice r.no r.gr.nodes.length r.nc,.int .i64 r.gr.entry] 45)):=(Below.refl _ _).alloc (Nat.le_refl _) _
     have hg8:Blk (wr.alloc (.cells #[.slice r.po r.gr.params.length r.pc,.slice r.ko r.gr.kinds.length r.kc,.int .i64 r.gr.cells,.slice r.io r.gr.init.length r.ic,.bool r.gr.result,.int .i64 r.gr.keep,.slice r.no r.gr.nodes.length r.nc,.int .i64 r.gr.entry] 45)) wr.heap.size 45 #[.slice r.po r.gr.params.length r.pc,.slice r.ko r.gr.kinds.length r.kc,.int .i64 r.gr.cells,.slice r.io r.gr.init.length r.ic,.bool r.gr.result,.int .i64 r.gr.keep,.slice r.no r.gr.nodes.length r.nc,.int .i64 r.gr.entry]:=Blk.new wr _ _
     have HMM:Hid (r.gr ∈ grs rs):=Lib.hid (List.mem_map_of_mem (List.mem_of_getElem? HX.out))
     have HXG:Hid ((grs rs)[k]?=some r.gr):=Lib.hid (by unfold grs;rw [List.getElem?_map,HX.out];rfl)
     have hwn:=HWG.out.nl
     have HK1:Hid (∀ k ∈ r.gr.kinds,k=0∨k=1):=Lib.hid (HHA.out _ HMM.out).1.2.2
     obtain ⟨nN,hnN⟩:∃ x,x=r.gr.nodes.length:=⟨_,rfl⟩
     have HNN:=Lib.hid hnN
     rw [← hnN] at hwn
     go_wp2
     obtain ⟨p8,HP8⟩:∃ x,Hid (x=wr.heap.size):=⟨_,Lib.hid rfl⟩
     obtain ⟨W8,hW8⟩:∃ W,W=(wr.alloc (.cells #[.slice r.po r.gr.params.length r.pc,.slice r.ko r.gr.kinds.length r.kc,.int .i64 r.gr.cells,.slice r.io r.gr.init.length r.ic,.bool r.gr.result,.int .i64 r.gr.keep,.slice r.no r.gr.nodes.length r.nc,.int .i64 r.gr.entry] 45)):=⟨_,rfl⟩
     rw [← hW8] at hb8 hg8 ⊢
     rw [← HP8.out] at hg8 ⊢
     rw [← hnN]
     have HW8:=Lib.hid (HW.out.trans (hb8.mono hz))
     have HG8:=Lib.hid hg8
     have HRG8:=Lib.hid (HRG.out.below (hb8.mono (by omega)))
     have hB8:B≤W8.heap.size:=Nat.le_trans (by omega) hb8.size
     obtain ⟨wo2,hwo2⟩:∃ wo,wo=wr:=⟨_,rfl⟩
     clear hwo2 hW8 hb8 hg8 hnN HP8 x0 x1 x2 x3 x4 x5 x6 x7 d0
     go_loopw [59] (fun i wr=>∃ m:Nat,m≤nN∧i=.int .i64 m∧Hid (∀ n ∈ r.gr.nodes.take m,nodeHolds (grs rs) r.gr bd n)∧Hid (Below W8.heap.size W8 wr)) (fun i _=>nN-(intOf i).toNat)
     case atStart=>exact ⟨0,Nat.zero_le _,rfl,Lib.hid (by simp),Lib.hid (Below.refl _ _)⟩
     case round =>
      obtain ⟨m,hm,rfl,HM,HWM⟩:=hrel
      have HWW:=Lib.hid (HW8.out.trans (HWM.out.mono HW8.out.size))
      have HGM:=Lib.hid (HG8.out.below HWM.out HG8.out.lt)
      have HBW:=Lib.hid (HBL.out.trans (HWW.out.mono HZ1.out))
      have d0:wr.cell? ⟨w.heap.size,0,none⟩=some (.slice (some ⟨b0,off0,none⟩) nF cF):=(HBX.out.below HWW.out HBX.out.lt).cell 0
      have v0:wr.cell? ⟨p8,0,none⟩=some (.slice r.po r.gr.params.length r.pc):=HGM.out.cell 0
      have v1:wr.cell? ⟨p8,1,none⟩=some (.slice r.ko r.gr.kinds.length r.kc):=HGM.out.cell 1
      have v2:wr.cell? ⟨p8,2,none⟩=some (.int .i64 r.gr.cells):=HGM.out.cell 2
      have v3:wr.cell? ⟨p8,3,none⟩=some (.slice r.io r.gr.init.length r.ic):=HGM.out.cell 3
      have v4:wr.cell? ⟨p8,4,none⟩=some (.bool r.gr.result):=HGM.out.cell 4
      have v5:wr.cell? ⟨p8,5,none⟩=some (.int .i64 r.gr.keep):=HGM.out.cell 5
      have v6:wr.cell? ⟨p8,6,none⟩=some (.slice r.no r.gr.nodes.length r.nc):=HGM.out.cell 6
      have v7:wr.cell? ⟨p8,7,none⟩=some (.int .i64 r.gr.entry):=HGM.out.cell 7
      have hg8:=HGM.out.lt
      have hbl:w.heap.size<wr.heap.size:=Nat.lt_of_lt_of_le HBX.out.lt HWW.out.size
      by_cases hml:m<nN
      ·have HRN:Hid (RdNs wr B r.no nN r.ns):=Lib.hid (by rw [HNN.out];exact (HRG8.out.below (HWM.out.mono hB8)).nodes)
       obtain ⟨bn,on,i,hno,hbn,HXI,HRI,HWI,u0,u1,u2,u3,u4,u5,u6,u7,u8,u9,u10,u11⟩:=HRN.out.nd hml
       have HXN:Hid (r.gr.nodes[m]?=some i.nd):=Lib.hid (by rw [← HRG8.out.nd];unfold nds;rw [List.getElem?_map,HXI.out];rfl)
       have hBr:B≤wr.heap.size:=Nat.le_trans hB8 HWM.out.size
       have hbnr:bn<wr.heap.size:=by omega
       have HBA:Hid (Below wr.heap.size wr (wr.alloc (.cells #[.int .u8 i.nd.op,.int .u8 i.nd.bop,.int .i64 i.nd.d,.int .i64 i.nd.e,.int .i64 i.nd.a,.int .i64 i.nd.b,.int .i64 i.nd.f,.int .i64 i.nd.cell,.int .u64 i.nd.imm,.slice i.ao i.nd.args.length i.ac,.int .i64 i.nd.next,.int .i64 i.nd.els] 70))):=(Below.refl _ _).alloc (Nat.le_refl _) _
       have hBa:B≤(wr.alloc (.cells #[.int .u8 i.nd.op,.int .u8 i.nd.bop,.int .i64 i.nd.d,.int .i64 i.nd.e,.int .i64 i.nd.a,.int .i64 i.nd.b,.int .i64 i.nd.f,.int .i64 i.nd.cell,.int .u64 i.nd.imm,.slice i.ao i.nd.args.length i.ac,.int .i64 i.nd.next,.int .i64 i.nd.els] 70)).heap.size:=by simp;omega
       have HFA:=Lib.hid ((HF.out.below (HWW.out.mono hB1)).below (HBA.out.mono hBr))
       have HRA:=Lib.hid ((HRG8.out.below (HWM.out.mono hB8)).below (HBA.out.mono hBr))
       have HIA:=Lib.hid (HRI.out.below (HBA.out.mono hBr))
       rw [hno]
       have HNO:=Lib.hid hno
       clear hno
       by_cases c4:nodeHolds (grs rs) r.gr bd i.nd
       ·have H1:Hid (decide (nodeHolds (grs rs) r.gr bd i.nd)=true):=Lib.hid (decide_eq_true c4)
        have HM2:=Lib.hid (all_take (Q:=fun n=>nodeHolds (grs rs) r.gr bd n) HXN.out c4 HM.out)
        clear c4
        go_wp2_with (first | (go_at_call 22;refine (rnode_any B rs r i (some ⟨b0,off0,none⟩) nF cF bd _ HFA.out HRA.out HWG.out HIA.out HWI.out hBa HK1.out HHA.out).mono ?_;rintro e w4 ⟨rfl,hb4⟩;have HB4:=Lib.hid (HBA.out.trans (hb4.mono HBA.out.size));clear hb4;rw [H1.out]))
        go_roundw
        case rel=>exact ⟨m+1,by omega,by go_num,HM2,Lib.hid (HWM.out.trans (HB4.out.mono HWM.out.size))⟩
        case measure=>simp [intOf];omega
       ·have H1:Hid (decide (nodeHolds (grs rs) r.gr bd i.nd)=false):=Lib.hid (decide_eq_false c4)
        have HD:Hid (decide (valid (grs rs) bd)=false):=Lib.hid (by rw [decide_eq_false_iff_not,HV.out];rintro ⟨_,h⟩;exact c4 (h _ HMM.out _ (List.mem_of_getElem? HXN.out)))
        clear c4
        go_wp2_with (first | (go_at_call 22;refine (rnode_any B rs r i (some ⟨b0,off0,none⟩) nF cF bd _ HFA.out HRA.out HWG.out HIA.out HWI.out hBa HK1.out HHA.out).mono ?_;rintro e w4 ⟨rfl,hb4⟩;have HB4:=Lib.hid (HBA.out.trans (hb4.mono HBA.out.size));clear hb4;rw [H1.out]))
        go_ret
        exact ⟨by rw [HD.out];rfl,HBW.out.trans (HB4.out.mono HBW.out.size)⟩
      ·obtain rfl:nN=m:=by omega
       have HA2:=Lib.hid (all_take (Q:=fun g=>∀ n ∈ g.nodes,nodeHolds (grs rs) g bd n) HXG.out (by have:=HM.out;rwa [List.take_of_length_le (by rw [← HNN.out];omega)] at this) HA.out)
       clear hml hm
       go_wp2
       go_roundw
       case rel=>exact ⟨k+1,by omega,by go_num,HA2,HWW⟩
       case measure=>simp [intOf];omega
    ·obtain rfl:nF=k:=by omega
     have HD:Hid (decide (valid (grs rs) bd)=true):=Lib.hid (by
      rw [decide_eq_true_eq,HV.out]
      refine ⟨HHA.out,?_⟩
      have:=HA.out
      rwa [List.take_of_length_le (by rw [HGL.out];omega)] at this)
     go_wp2
     go_ret
     exact ⟨by rw [HD.out];rfl,HBW.out⟩
end Go.Proofs.Ytgekmjkfnhogkaa
