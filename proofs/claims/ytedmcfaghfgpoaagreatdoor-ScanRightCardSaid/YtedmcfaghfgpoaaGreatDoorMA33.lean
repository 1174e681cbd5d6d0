/-
  Texts of one seat, one behind the other: Rhb, Rx, Rt, JSr.
-/
import Derived.StillTailTactics
import Derived.Deep.QuietTactic
import Derived.Test.YtedmcfaghfgpoaaGreatDoorMA25
import Derived.Test.YtedmcfaghfgpoaaGreatDoorMA26
import Derived.Test.YtedmcfaghfgpoaaGreatDoorMA27
import Derived.Test.YtedmcfaghfgpoaaGreatDoorMA28
import Derived.Test.YtedmcfaghfgpoaaGreatDoorMA29
import Derived.Test.YtedmcfaghfgpoaaGreatDoorMA30
import Derived.Test.YtedmcfaghfgpoaaGreatDoorMA31
import Derived.Test.YtedmcfaghfgpoaaGreatDoorMA32
import Derived.Test.YtedmcfaghfgpoaaGreatDoorMA19
import Derived.Test.YtedmcfaghfgpoaaGreatDoorMA24

set_option linter.unusedVariables false
set_option linter.unusedSimpArgs false
set_option maxRecDepth 100000
set_option maxHeartbeats 51200000
namespace Go.Proofs.YtedmcfaghfgpoaaGreatDoor
open Go.ChangeShapes Go.WideShapes Go.ChangeAt Go.RowKit
theorem rhead_true (B:Nat) (ps ks is:List Int) (nodes:List Nd) (po ko io no:Option Addr) (nP pc nK kc nI ic nN nc:Nat) (cells keep entry:Int) (res:Bool) (w:World) (hp:Reads w B 1 po nP (i64c ps)) (hpl:ps.length=nP) (hpc:nP≤pc) (hnP:nP≤140737488351232) (hk:Reads w B 1 ko nK (u8c ks)) (hkl:ks.length=nK) (hnK:nK≤140737488351232) (hi:Reads w B 1 io nI (i64c is)) (hil:is.length=nI) (hnI:nI≤140737488351232) (hnl:nodes.length=nN) (hnN:nN≤140737488351232) (hbyt:Byt ks) (hB:B≤w.heap.size) :
  Calls Tryz.prog 16 #[.agg #[.slice po nP pc,.slice ko nK kc,.int .i64 cells,.slice io nI ic,.bool res,.int .i64 keep,.slice no nN nc,.int .i64 entry],.bool true] w fun e w'=>e=.returned (.bool (decide (headHolds ⟨ps,ks,cells,is,res,keep,nodes,entry⟩ true)))∧Below w.heap.size w w':=by
 have HBL:Hid (Below w.heap.size w (w.alloc (.cells #[.slice po nP pc,.slice ko nK kc,.int .i64 cells,.slice io nI ic,.bool res,.int .i64 keep,.slice no nN nc,.int .i64 entry] 35))):=(Below.refl _ _).alloc (Nat.le_refl _) _
 have hB1:B≤(w.alloc (.cells #[.slice po nP pc,.slice ko nK kc,.int .i64 cells,.slice io nI ic,.bool res,.int .i64 keep,.slice no nN nc,.int .i64 entry] 35)).heap.size:=by simp;omega
 have HBX:Hid (Blk (w.alloc (.cells #[.slice po nP pc,.slice ko nK kc,.int .i64 cells,.slice io nI ic,.bool res,.int .i64 keep,.slice no nN nc,.int .i64 entry] 35)) w.heap.size 35 #[.slice po nP pc,.slice ko nK kc,.int .i64 cells,.slice io nI ic,.bool res,.int .i64 keep,.slice no nN nc,.int .i64 entry]):=Blk.new w _ _
 have HP:=lh (hp.below (HBL.out.mono hB))
 have HK:=lh (hk.below (HBL.out.mono hB))
 have HI:=lh (hi.below (HBL.out.mono hB))
 have HPL:=lh hpl
 have HKL:=lh hkl
 have HIL:=lh hil
 have HX:Hid (headHolds ⟨ps,ks,cells,is,res,keep,nodes,entry⟩ true↔nK≤1024∧(true=true→16≤nK)∧nP≤4∧nI=nP∧0≤cells∧cells≤64∧-1≤keep∧keep<cells∧(∀ k ∈ ks,k≤1)∧(∀ i,i<nP→rparam ⟨ps,ks,cells,is,res,keep,nodes,entry⟩ true i)∧1≤nN∧nN≤4096∧isOne entry nN):=lh (by
  rw [← rhead_eq hbyt]
  unfold rhead
  simp only [hkl,hpl,hil,hnl])
 clear hp hk hi hpl hkl hil hnl hbyt
 by_cases c0:nK≤1024
 rotate_left
 ·have g0a:decide ((nK:Int) > 1024)=true:=by simp;omega
  have g0b:decide (nK > 1024)=true:=by simp;omega
  have HD:Hid (decide (headHolds ⟨ps,ks,cells,is,res,keep,nodes,entry⟩ true)=false):=lh (by rw [dfi,HX.out];intro h;exact c0 h.1)
  go_enter Tryz.func16,Tryz.ntmps16
  go_wp2
  go_ret
  exact ⟨by rw [HD.out];rfl,HBL.out⟩
 have g0a:decide ((nK:Int) > 1024)=false:=by simp;omega
 have g0b:decide (nK > 1024)=false:=by simp;omega
 by_cases c1:16≤nK
 rotate_left
 ·have g1a:decide ((nK:Int)<16)=true:=by simp;omega
  have g1b:decide (nK<16)=true:=by simp;omega
  have HD:Hid (decide (headHolds ⟨ps,ks,cells,is,res,keep,nodes,entry⟩ true)=false):=lh (by rw [dfi,HX.out];intro h;exact c1 (h.2.1 rfl))
  go_enter Tryz.func16,Tryz.ntmps16
  go_wp2
  go_ret
  exact ⟨by rw [HD.out];rfl,HBL.out⟩
 have g1a:decide ((nK:Int)<16)=false:=by simp;omega
 have g1b:decide (nK<16)=false:=by simp;omega
 by_cases c2:nP≤4
 rotate_left
 ·have g2a:decide ((nP:Int) > 4)=true:=by simp;omega
  have g2b:decide (nP > 4)=true:=by simp;omega
  have HD:Hid (decide (headHolds ⟨ps,ks,cells,is,res,keep,nodes,entry⟩ true)=false):=lh (by rw [dfi,HX.out];intro h;exact c2 h.2.2.1)
  go_enter Tryz.func16,Tryz.ntmps16
  go_wp2
  go_ret
  exact ⟨by rw [HD.out];rfl,HBL.out⟩
 have g2a:decide ((nP:Int) > 4)=false:=by simp;omega
 have g2b:decide (nP > 4)=false:=by simp;omega
 by_cases c3:nI=nP
 rotate_left
 ·have g3a:((nI:Int) != (nP:Int))=true:=by rw [bne_iff_ne];omega
  have g3b:(nI != nP)=true:=by rw [bne_iff_ne];omega
  have HD:Hid (decide (headHolds ⟨ps,ks,cells,is,res,keep,nodes,entry⟩ true)=false):=lh (by rw [dfi,HX.out];intro h;exact c3 h.2.2.2.1)
  go_enter Tryz.func16,Tryz.ntmps16
  go_wp2
  go_ret
  exact ⟨by rw [HD.out];rfl,HBL.out⟩
 subst c3
 have g3a:((nI:Int) != (nI:Int))=false:=by simp
 have g3b:(nI != nI)=false:=by simp
 by_cases c4:0≤cells
 rotate_left
 ·have g4a:decide (cells<0)=true:=by simp;omega
  have HD:Hid (decide (headHolds ⟨ps,ks,cells,is,res,keep,nodes,entry⟩ true)=false):=lh (by rw [dfi,HX.out];intro h;exact c4 h.2.2.2.2.1)
  go_enter Tryz.func16,Tryz.ntmps16
  go_wp2
  go_ret
  exact ⟨by rw [HD.out];rfl,HBL.out⟩
 have g4a:decide (cells<0)=false:=by simp;omega
 by_cases c5:cells≤64
 rotate_left
 ·have g5a:decide (cells > 64)=true:=by simp;omega
  have HD:Hid (decide (headHolds ⟨ps,ks,cells,is,res,keep,nodes,entry⟩ true)=false):=lh (by rw [dfi,HX.out];intro h;exact c5 h.2.2.2.2.2.1)
  go_enter Tryz.func16,Tryz.ntmps16
  go_wp2
  go_ret
  exact ⟨by rw [HD.out];rfl,HBL.out⟩
 have g5a:decide (cells > 64)=false:=by simp;omega
 by_cases c6:-1≤keep
 rotate_left
 ·have g6a:decide (keep < -1)=true:=by simp;omega
  have HD:Hid (decide (headHolds ⟨ps,ks,cells,is,res,keep,nodes,entry⟩ true)=false):=lh (by rw [dfi,HX.out];intro h;exact c6 h.2.2.2.2.2.2.1)
  go_enter Tryz.func16,Tryz.ntmps16
  go_wp2
  go_ret
  exact ⟨by rw [HD.out];rfl,HBL.out⟩
 have g6a:decide (keep < -1)=false:=by simp;omega
 by_cases c7:keep<cells
 rotate_left
 ·have g7a:decide (keep≥cells)=true:=by simp;omega
  have HD:Hid (decide (headHolds ⟨ps,ks,cells,is,res,keep,nodes,entry⟩ true)=false):=lh (by rw [dfi,HX.out];intro h;exact c7 h.2.2.2.2.2.2.2.1)
  go_enter Tryz.func16,Tryz.ntmps16
  go_wp2
  go_ret
  exact ⟨by rw [HD.out];rfl,HBL.out⟩
 have g7a:decide (keep≥cells)=false:=by simp;omega
 have HC:Hid ((∀ k ∈ ks,k≤1)→(∀ i,i<nI→rparam ⟨ps,ks,cells,is,res,keep,nodes,entry⟩ true i)→1≤nN→nN≤4096→isOne entry nN→headHolds ⟨ps,ks,cells,is,res,keep,nodes,entry⟩ true):=lh fun h1 h2 h3 h4 h5=>HX.out.2 ⟨c0,(fun _=>c1),c2,rfl,c4,c5,c6,c7,h1,h2,h3,h4,h5⟩
 clear c2 c4 c5 c6 c7
 obtain ⟨W1,hW1⟩:∃ W,W=(w.alloc (.cells #[.slice po nI pc,.slice ko nK kc,.int .i64 cells,.slice io nI ic,.bool res,.int .i64 keep,.slice no nN nc,.int .i64 entry] 35)):=⟨_,rfl⟩
 have HW1:=lh hW1
 rw [← hW1] at HBL hB1 HBX HP HK HI
 clear hW1
 go_enter Tryz.func16,Tryz.ntmps16
 go_wp2
 rw [← HW1.out]
 go_loopw [62] (fun i wr=>∃ k:Nat,k≤nK∧i=.int .i64 k∧Hid (∀ y ∈ ks.take k,y≤1)∧wr=W1) (fun i _=>nK-(intOf i).toNat)
 case atStart=>exact ⟨0,Nat.zero_le _,rfl,lh (by simp),rfl⟩
 case round =>
  obtain ⟨k,hkk,rfl,HQ,rfl⟩:=hrel
  by_cases hlt:k<nK
  ·obtain ⟨b,off,x,hko,hb,HXK,x1⟩:=HK.out.byte hlt
   subst hko
   by_cases hx:x≤1
   rotate_left
   ·have q:decide (x > 1)=true:=by simp;omega
    have HD:Hid (decide (headHolds ⟨ps,ks,cells,is,res,keep,nodes,entry⟩ true)=false):=lh (by rw [dfi,HX.out];intro h;exact hx (h.2.2.2.2.2.2.2.2.1 x (List.mem_of_getElem? HXK.out)))
    go_wp2
    go_ret
    exact ⟨by rw [HD.out];rfl,HBL.out⟩
   have q:decide (x > 1)=false:=by simp;omega
   have HQ2:=lh (all_take (Q:=fun y:Int=>y≤1) HXK.out hx HQ.out)
   clear hx
   go_wp2
   go_roundw
   case rel=>exact ⟨k+1,by omega,by go_num,HQ2,by first | rfl | trivial⟩
   case measure=>simp [intOf];omega
  ·obtain rfl:k=nK:=by omega
   have HKS:Hid (∀ y ∈ ks,y≤1):=lh (by have:=HQ.out;rwa [List.take_of_length_le (by rw [HKL.out];omega)] at this)
   have d0:wr.cell? ⟨w.heap.size,0,none⟩=some (.slice po nI pc):=HBX.out.cell 0
   clear hlt hkk
   go_wp2
   clear d0
   obtain ⟨wo,rfl⟩:∃ wo:World,wo=wr:=⟨_,rfl⟩
   go_loopw [72] (fun i wx=>∃ k:Nat,k≤nI∧i=.int .i64 k∧Hid (∀ i,i<k→rparam ⟨ps,ks,cells,is,res,keep,nodes,entry⟩ true i)∧Hid (Below wo.heap.size wo wx)) (fun i _=>nI-(intOf i).toNat)
   case atStart=>exact ⟨0,Nat.zero_le _,rfl,lh (by intro i hi;omega),lh (Below.refl _ _)⟩
   case round =>
    obtain ⟨j,hj,rfl,HJ,HW⟩:=hrel
    have HBX2:=lh (HBX.out.below HW.out HBX.out.lt)
    have HBL2:=lh (HBL.out.trans (HW.out.mono HBL.out.size))
    have hBr:B≤wr.heap.size:=Nat.le_trans hB1 HW.out.size
    have d0:wr.cell? ⟨w.heap.size,0,none⟩=some (.slice po nI pc):=HBX2.out.cell 0
    have d1:wr.cell? ⟨w.heap.size,1,none⟩=some (.slice ko k kc):=HBX2.out.cell 1
    have d2:wr.cell? ⟨w.heap.size,2,none⟩=some (.int .i64 cells):=HBX2.out.cell 2
    have d3:wr.cell? ⟨w.heap.size,3,none⟩=some (.slice io nI ic):=HBX2.out.cell 3
    have d4:wr.cell? ⟨w.heap.size,4,none⟩=some (.bool res):=HBX2.out.cell 4
    have d5:wr.cell? ⟨w.heap.size,5,none⟩=some (.int .i64 keep):=HBX2.out.cell 5
    have d6:wr.cell? ⟨w.heap.size,6,none⟩=some (.slice no nN nc):=HBX2.out.cell 6
    have d7:wr.cell? ⟨w.heap.size,7,none⟩=some (.int .i64 entry):=HBX2.out.cell 7
    by_cases hjl:j<nI
    ·obtain ⟨bp,op_,p,hpo,hbp,HXP,p1⟩:=(HP.out.below (HW.out.mono hB1)).int hjl
     obtain ⟨bi,oi,q,hio,hbi,HXI,i1⟩:=(HI.out.below (HW.out.mono hB1)).int hjl
     have HPA:=lh (HP.out.below (HW.out.mono hB1))
     have HKA:=lh (HK.out.below (HW.out.mono hB1))
     subst hpo
     subst hio
     have hpg:ps.getD j 0=p:=by simp [List.getD,HXP.out]
     have hig:is.getD j 0=q:=by simp [List.getD,HXI.out]
     have HRP:Hid (rparam ⟨ps,ks,cells,is,res,keep,nodes,entry⟩ true j↔isOne p k∧p ∉ ps.take j∧(true=true→p=j)∧-1≤q∧q<cells∧(0≤q→fits ks true p 0)):=lh (by
      unfold rparam
      simp only [hpg,hig,HKL.out])
     have HPG:=lh hpg
     clear hpg hig
     have hbpr:bp<wr.heap.size:=by omega
     have hbir:bi<wr.heap.size:=by omega
     have HU:=lh (HPA.out.upto (k:=j) (by omega))
     have HUL:Hid ((ps.take j).length=j):=lh (by rw [List.length_take,HPL.out];omega)
     by_cases e1:0≤p
     rotate_left
     ·have r1:decide (p<0)=true:=by simp;omega
      have HD:Hid (decide (headHolds ⟨ps,ks,cells,is,res,keep,nodes,entry⟩ true)=false):=lh (by rw [dfi,HX.out];intro h;have h2:=HRP.out.1 (h.2.2.2.2.2.2.2.2.2.1 j hjl);exact e1 h2.1.1)
      go_wp2
      go_ret
      exact ⟨by rw [HD.out];rfl,by first | exact HBL2.out | exact below_drewN HBL2.out _⟩
     have r1:decide (p<0)=false:=by simp;omega
     by_cases e2:p<k
     rotate_left
     ·have r2:decide (p≥(k:Int))=true:=by simp;omega
      have HD:Hid (decide (headHolds ⟨ps,ks,cells,is,res,keep,nodes,entry⟩ true)=false):=lh (by rw [dfi,HX.out];intro h;have h2:=HRP.out.1 (h.2.2.2.2.2.2.2.2.2.1 j hjl);exact e2 h2.1.2)
      go_wp2
      go_ret
      exact ⟨by rw [HD.out];rfl,by first | exact HBL2.out | exact below_drewN HBL2.out _⟩
     have r2:decide (p≥(k:Int))=false:=by simp;omega
     by_cases e3:p ∈ ps.take j
     ·have H2:Hid (decide (p ∈ ps.take j)=true):=lh (decide_eq_true e3)
      have HD:Hid (decide (headHolds ⟨ps,ks,cells,is,res,keep,nodes,entry⟩ true)=false):=lh (by rw [dfi,HX.out];intro h;have h2:=HRP.out.1 (h.2.2.2.2.2.2.2.2.2.1 j hjl);exact h2.2.1 e3)
      clear e3
      go_wp2_with (first | (go_at_call 31;refine (in_any B _ _ _ (ps.take j) p _ HU.out HUL.out (by omega)).mono ?_;rintro e w3 ⟨rfl,hw3⟩;rw [hw3];clear hw3;rw [H2.out]))
      go_ret
      exact ⟨by rw [HD.out];rfl,by first | exact HBL2.out | exact below_drewN HBL2.out _⟩
     have H2:Hid (decide (p ∈ ps.take j)=false):=lh (decide_eq_false e3)
     have HE3:=lh e3
     clear e3
     by_cases e4:p=(j:Int)
     rotate_left
     ·have r4:(p != (j:Int))=true:=by simpa using e4
      have HD:Hid (decide (headHolds ⟨ps,ks,cells,is,res,keep,nodes,entry⟩ true)=false):=lh (by rw [dfi,HX.out];intro h;have h2:=HRP.out.1 (h.2.2.2.2.2.2.2.2.2.1 j hjl);exact e4 (h2.2.2.1 rfl))
      clear e4
      go_wp2_with (first | (go_at_call 31;refine (in_any B _ _ _ (ps.take j) p _ HU.out HUL.out (by omega)).mono ?_;rintro e w3 ⟨rfl,hw3⟩;rw [hw3];clear hw3;rw [H2.out]))
      go_ret
      exact ⟨by rw [HD.out];rfl,by first | exact HBL2.out | exact below_drewN HBL2.out _⟩
     have r4:(p != (j:Int))=false:=by simpa using e4
     have HE4:=lh e4
     clear e4
     by_cases e5:-1≤q
     rotate_left
     ·have r5:decide (q < -1)=true:=by simp;omega
      have HD:Hid (decide (headHolds ⟨ps,ks,cells,is,res,keep,nodes,entry⟩ true)=false):=lh (by rw [dfi,HX.out];intro h;have h2:=HRP.out.1 (h.2.2.2.2.2.2.2.2.2.1 j hjl);exact e5 h2.2.2.2.1)
      go_wp2_with (first | (go_at_call 31;refine (in_any B _ _ _ (ps.take j) p _ HU.out HUL.out (by omega)).mono ?_;rintro e w3 ⟨rfl,hw3⟩;rw [hw3];clear hw3;rw [H2.out]))
      go_quiet (fail)
      go_wp2
      go_ret
      exact ⟨by rw [HD.out];rfl,by first | exact HBL2.out | exact below_drewN HBL2.out _⟩
     have r5:decide (q < -1)=false:=by simp;omega
     by_cases e6:q<cells
     rotate_left
     ·have r6:decide (q≥cells)=true:=by simp;omega
      have HD:Hid (decide (headHolds ⟨ps,ks,cells,is,res,keep,nodes,entry⟩ true)=false):=lh (by rw [dfi,HX.out];intro h;have h2:=HRP.out.1 (h.2.2.2.2.2.2.2.2.2.1 j hjl);exact e6 h2.2.2.2.2.1)
      go_wp2_with (first | (go_at_call 31;refine (in_any B _ _ _ (ps.take j) p _ HU.out HUL.out (by omega)).mono ?_;rintro e w3 ⟨rfl,hw3⟩;rw [hw3];clear hw3;rw [H2.out]))
      go_quiet (fail)
      go_wp2
      go_ret
      exact ⟨by rw [HD.out];rfl,by first | exact HBL2.out | exact below_drewN HBL2.out _⟩
     have r6:decide (q≥cells)=false:=by simp;omega
     by_cases e7:0≤q
     rotate_left
     ·have r7:decide (q≥0)=false:=by simp;omega
      have HJ2:=lh (upto_snoc HJ.out (HRP.out.2 ⟨⟨e1,e2⟩,HE3.out,(fun _=>HE4.out),e5,e6,fun h=>absurd h e7⟩))
      clear e1 e2 e5 e6 e7
      go_wp2_with (first | (go_at_call 31;refine (in_any B _ _ _ (ps.take j) p _ HU.out HUL.out (by omega)).mono ?_;rintro e w3 ⟨rfl,hw3⟩;rw [hw3];clear hw3;rw [H2.out]))
      go_quiet (fail)
      go_wp2
      go_roundw
      case rel=>exact ⟨j+1,by omega,by go_num,HJ2,lh (below_drewN HW.out _)⟩
      case measure=>simp [intOf];omega
     have r7:decide (q≥0)=true:=by simp;omega
     have HKD:Hid (Reads wr.drew B 1 ko k (u8c ks)):=lh (HKA.out.drew)
     by_cases e8:fits ks true p 0
     rotate_left
     ·have H1:Hid (decide (fits ks true p 0)=false):=lh (decide_eq_false e8)
      have HD:Hid (decide (headHolds ⟨ps,ks,cells,is,res,keep,nodes,entry⟩ true)=false):=lh (by rw [dfi,HX.out];intro h;have h2:=HRP.out.1 (h.2.2.2.2.2.2.2.2.2.1 j hjl);exact e8 (h2.2.2.2.2.2 e7))
      clear e8
      go_wp2_with (first | (go_at_call 31;refine (in_any B _ _ _ (ps.take j) p _ HU.out HUL.out (by omega)).mono ?_;rintro e w3 ⟨rfl,hw3⟩;rw [hw3];clear hw3;rw [H2.out]))
      go_still_tail 27,(by kernel_rfl)
      change wpList _ _ _ _ _ wr.drew
      go_wp2_with (first | (go_at_call 32;refine (rfits_any B ks _ _ _ _ _ _ _ _ _ _ _ _ _ _ _ _ true p 0 _ HKD.out HKL.out hnK hBr).mono ?_;rintro ee w9 ⟨rfl,hb9⟩;have HWL:Hid (Below wr.heap.size wr w9):=lh ((Below.refl _ _).drew.trans hb9);clear hb9;rw [H1.out]))
      go_ret
      exact ⟨by rw [HD.out];rfl,HBL2.out.trans (HWL.out.mono HBL2.out.size)⟩
     have H1:Hid (decide (fits ks true p 0)=true):=lh (decide_eq_true e8)
     have HJ2:=lh (upto_snoc HJ.out (HRP.out.2 ⟨⟨e1,e2⟩,HE3.out,(fun _=>HE4.out),e5,e6,fun _=>e8⟩))
     clear e8
     go_wp2_with (first | (go_at_call 31;refine (in_any B _ _ _ (ps.take j) p _ HU.out HUL.out (by omega)).mono ?_;rintro e w3 ⟨rfl,hw3⟩;rw [hw3];clear hw3;rw [H2.out]))
     go_still_tail 27,(by kernel_rfl)
     change wpList _ _ _ _ _ wr.drew
     go_wp2_with (first | (go_at_call 32;refine (rfits_any B ks _ _ _ _ _ _ _ _ _ _ _ _ _ _ _ _ true p 0 _ HKD.out HKL.out hnK hBr).mono ?_;rintro ee w9 ⟨rfl,hb9⟩;have HWL:Hid (Below wr.heap.size wr w9):=lh ((Below.refl _ _).drew.trans hb9);clear hb9;rw [H1.out]))
     go_roundw
     case rel=>exact ⟨j+1,by omega,by go_num,HJ2,lh (HW.out.trans (HWL.out.mono HW.out.size))⟩
     case measure=>simp [intOf];omega
    ·obtain rfl:j=nI:=by omega
     clear hjl hj
     by_cases k0:1≤nN
     rotate_left
     ·have s0a:decide ((nN:Int)≥1)=false:=by simp;omega
      have s0b:decide (nN≥1)=false:=by simp;omega
      have HD:Hid (decide (headHolds ⟨ps,ks,cells,is,res,keep,nodes,entry⟩ true)=false):=lh (by rw [dfi,HX.out];intro h;exact k0 h.2.2.2.2.2.2.2.2.2.2.1)
      go_wp2
      go_ret
      exact ⟨by rw [HD.out];rfl,HBL2.out⟩
     have s0a:decide ((nN:Int)≥1)=true:=by simp;omega
     have s0b:decide (nN≥1)=true:=by simp;omega
     by_cases k1:nN≤4096
     rotate_left
     ·have s1a:decide ((nN:Int)≤4096)=false:=by simp;omega
      have s1b:decide (nN≤4096)=false:=by simp;omega
      have HD:Hid (decide (headHolds ⟨ps,ks,cells,is,res,keep,nodes,entry⟩ true)=false):=lh (by rw [dfi,HX.out];intro h;exact k1 h.2.2.2.2.2.2.2.2.2.2.2.1)
      go_wp2
      go_ret
      exact ⟨by rw [HD.out];rfl,HBL2.out⟩
     have s1a:decide ((nN:Int)≤4096)=true:=by simp;omega
     have s1b:decide (nN≤4096)=true:=by simp;omega
     by_cases k2:0≤entry
     rotate_left
     ·have s2a:decide (entry≥0)=false:=by simp;omega
      have HD:Hid (decide (headHolds ⟨ps,ks,cells,is,res,keep,nodes,entry⟩ true)=false):=lh (by rw [dfi,HX.out];intro h;exact k2 h.2.2.2.2.2.2.2.2.2.2.2.2.1)
      go_wp2
      go_ret
      exact ⟨by rw [HD.out];rfl,HBL2.out⟩
     have s2a:decide (entry≥0)=true:=by simp;omega
     by_cases k3:entry<nN
     rotate_left
     ·have s3a:decide (entry<(nN:Int))=false:=by simp;omega
      have HD:Hid (decide (headHolds ⟨ps,ks,cells,is,res,keep,nodes,entry⟩ true)=false):=lh (by rw [dfi,HX.out];intro h;exact k3 h.2.2.2.2.2.2.2.2.2.2.2.2.2)
      go_wp2
      go_ret
      exact ⟨by rw [HD.out];rfl,HBL2.out⟩
     have s3a:decide (entry<(nN:Int))=true:=by simp;omega
     have HD:Hid (decide (headHolds ⟨ps,ks,cells,is,res,keep,nodes,entry⟩ true)=true):=lh (by rw [decide_eq_true_eq];exact HC.out HKS.out HJ.out k0 k1 ⟨k2,k3⟩)
     go_wp2
     go_ret
     exact ⟨by rw [HD.out];rfl,HBL2.out⟩
theorem rnode_none (gs:List Gr) (g:Gr) (fo:Option Addr) (nF cF:Nat) (po ko io no:Option Addr) (nP pc nK kc nI ic nN nc:Nat) (cells keep entry:Int) (res bd:Bool) (op bop d e a b f cell imm:Int) (args:List Int) (nx el:Int) (ao:Option Addr) (nA ac:Nat) (w:World) (hk1:∀ k ∈ g.kinds,k=0∨k=1) (ho0:0≤op) (ho1:op≤255) (ho:op<1∨18<op) :
  Calls Tryz.prog 17 #[.slice fo nF cF,.agg #[.slice po nP pc,.slice ko nK kc,.int .i64 cells,.slice io nI ic,.bool res,.int .i64 keep,.slice no nN nc,.int .i64 entry],.bool bd,.agg #[.int .u8 op,.int .u8 bop,.int .i64 d,.int .i64 e,.int .i64 a,.int .i64 b,.int .i64 f,.int .i64 cell,.int .u64 imm,.slice ao nA ac,.int .i64 nx,.int .i64 el]] w fun ee w'=>ee=.returned (.bool (decide (nodeHolds gs g bd ⟨op,bop,d,e,a,b,f,cell,imm,args,nx,el⟩)))∧Below w.heap.size w w':=by
 have HB2:Hid (Below w.heap.size w ((w.alloc (.cells #[.slice po nP pc,.slice ko nK kc,.int .i64 cells,.slice io nI ic,.bool res,.int .i64 keep,.slice no nN nc,.int .i64 entry] 35)).alloc (.cells #[.int .u8 op,.int .u8 bop,.int .i64 d,.int .i64 e,.int .i64 a,.int .i64 b,.int .i64 f,.int .i64 cell,.int .u64 imm,.slice ao nA ac,.int .i64 nx,.int .i64 el] 47))):=((Below.refl _ _).alloc (Nat.le_refl _) _).alloc (by simp) _
 have HD:Hid (decide (nodeHolds gs g bd ⟨op,bop,d,e,a,b,f,cell,imm,args,nx,el⟩)=false):=lh (by
  rw [dfi,← rnode_eq hk1 ho0 ho1]
  rintro ⟨⟨h1,h2⟩,_⟩
  have h1:1≤op:=h1
  have h2:op≤18:=h2
  omega)
 by_cases h:op<1
 ·have q:decide (op<1)=true:=by simpa using h
  go_enter Tryz.func17,Tryz.ntmps17
  go_wp2
  go_ret
  exact ⟨by rw [HD.out];rfl,HB2.out⟩
 ·have q:decide (op<1)=false:=by simpa using h
  have q2:decide (op > 18)=true:=by simp;omega
  go_enter Tryz.func17,Tryz.ntmps17
  go_wp2
  go_ret
  exact ⟨by rw [HD.out];rfl,HB2.out⟩

theorem rnode_any (B:Nat) (rs:List RG) (r:RG) (i:RN) (fo:Option Addr) (nF cF:Nat) (bd:Bool) (w:World) (HF0:RdP w B fo nF rs) (hg:RdG w B r) (hwg:WfG r.gr) (hi:RdN w B i) (hwi:WfN i.nd) (hB:B≤w.heap.size) (hk1:∀ k ∈ r.gr.kinds,k=0∨k=1) (hh:∀ g ∈ grs rs,headHolds g bd) :
  Calls Tryz.prog 17 #[.slice fo nF cF,.agg #[.slice r.po r.gr.params.length r.pc,.slice r.ko r.gr.kinds.length r.kc,.int .i64 r.gr.cells,.slice r.io r.gr.init.length r.ic,.bool r.gr.result,.int .i64 r.gr.keep,.slice r.no r.gr.nodes.length r.nc,.int .i64 r.gr.entry],.bool bd,.agg #[.int .u8 i.nd.op,.int .u8 i.nd.bop,.int .i64 i.nd.d,.int .i64 i.nd.e,.int .i64 i.nd.a,.int .i64 i.nd.b,.int .i64 i.nd.f,.int .i64 i.nd.cell,.int .u64 i.nd.imm,.slice i.ao i.nd.args.length i.ac,.int .i64 i.nd.next,.int .i64 i.nd.els]] w fun ee w'=>ee=.returned (.bool (decide (nodeHolds (grs rs) r.gr bd i.nd)))∧Below w.heap.size w w':=by
 obtain ⟨⟨op,bop,d,e,a,b,f,cell,imm,args,nx,el⟩,ao,ac⟩:=i
 have ho0:=hwi.o0
 have ho1:=hwi.o1
 have hal:=hwi.al
 have hkl:=hwg.kl
 have ha:=hi.args
 simp only at ho0 ho1 hal ha
 rcases op_cases ho0 ho1 with rfl | rfl | rfl | rfl | rfl | rfl | rfl | rfl | rfl | rfl | rfl | rfl | rfl | rfl | rfl | rfl | rfl | rfl | h
 ·exact rnode_1 B rs r.gr.params r.gr.kinds r.gr.init r.gr.nodes fo nF cF r.po r.ko r.io r.no _ r.pc _ r.kc _ r.ic _ r.nc r.gr.cells r.gr.keep r.gr.entry r.gr.result bd bop d e a b f cell imm args nx el ao _ ac w HF0 hg.kinds rfl (by omega) ha rfl (by omega) hB hk1 hh rfl
 ·exact rnode_2 B rs r.gr.params r.gr.kinds r.gr.init r.gr.nodes fo nF cF r.po r.ko r.io r.no _ r.pc _ r.kc _ r.ic _ r.nc r.gr.cells r.gr.keep r.gr.entry r.gr.result bd bop d e a b f cell imm args nx el ao _ ac w HF0 hg.kinds rfl (by omega) ha rfl (by omega) hB hk1 hh rfl
 ·exact rnode_3 B rs r.gr.params r.gr.kinds r.gr.init r.gr.nodes fo nF cF r.po r.ko r.io r.no _ r.pc _ r.kc _ r.ic _ r.nc r.gr.cells r.gr.keep r.gr.entry r.gr.result bd bop d e a b f cell imm args nx el ao _ ac w HF0 hg.kinds rfl (by omega) ha rfl (by omega) hB hk1 hh rfl
 ·exact rnode_4 B rs r.gr.params r.gr.kinds r.gr.init r.gr.nodes fo nF cF r.po r.ko r.io r.no _ r.pc _ r.kc _ r.ic _ r.nc r.gr.cells r.gr.keep r.gr.entry r.gr.result bd bop d e a b f cell imm args nx el ao _ ac w HF0 hg.kinds rfl (by omega) ha rfl (by omega) hB hk1 hh rfl
 ·exact rnode_5 B rs r.gr.params r.gr.kinds r.gr.init r.gr.nodes fo nF cF r.po r.ko r.io r.no _ r.pc _ r.kc _ r.ic _ r.nc r.gr.cells r.gr.keep r.gr.entry r.gr.result bd bop d e a b f cell imm args nx el ao _ ac w HF0 hg.kinds rfl (by omega) ha rfl (by omega) hB hk1 hh rfl
 ·exact rnode_6 B rs r.gr.params r.gr.kinds r.gr.init r.gr.nodes fo nF cF r.po r.ko r.io r.no _ r.pc _ r.kc _ r.ic _ r.nc r.gr.cells r.gr.keep r.gr.entry r.gr.result bd bop d e a b f cell imm args nx el ao _ ac w HF0 hg.kinds rfl (by omega) ha rfl (by omega) hB hk1 hh rfl
 ·exact rnode_7 B rs r.gr.params r.gr.kinds r.gr.init r.gr.nodes fo nF cF r.po r.ko r.io r.no _ r.pc _ r.kc _ r.ic _ r.nc r.gr.cells r.gr.keep r.gr.entry r.gr.result bd bop d e a b f cell imm args nx el ao _ ac w HF0 hg.kinds rfl (by omega) ha rfl (by omega) hB hk1 hh rfl
 ·exact rnode_8 B rs r.gr.params r.gr.kinds r.gr.init r.gr.nodes fo nF cF r.po r.ko r.io r.no _ r.pc _ r.kc _ r.ic _ r.nc r.gr.cells r.gr.keep r.gr.entry r.gr.result bd bop d e a b f cell imm args nx el ao _ ac w HF0 hg.kinds rfl (by omega) ha rfl (by omega) hB hk1 hh rfl
 ·exact rnode_9 B rs r.gr.params r.gr.kinds r.gr.init r.gr.nodes fo nF cF r.po r.ko r.io r.no _ r.pc _ r.kc _ r.ic _ r.nc r.gr.cells r.gr.keep r.gr.entry r.gr.result bd bop d e a b f cell imm args nx el ao _ ac w HF0 hg.kinds rfl (by omega) ha rfl (by omega) hB hk1 hh rfl
 ·exact rnode_10 B rs r.gr.params r.gr.kinds r.gr.init r.gr.nodes fo nF cF r.po r.ko r.io r.no _ r.pc _ r.kc _ r.ic _ r.nc r.gr.cells r.gr.keep r.gr.entry r.gr.result bd bop d e a b f cell imm args nx el ao _ ac w HF0 hg.kinds rfl (by omega) ha rfl (by omega) hB hk1 hh rfl
 ·exact rnode_11 B rs r.gr.params r.gr.kinds r.gr.init r.gr.nodes fo nF cF r.po r.ko r.io r.no _ r.pc _ r.kc _ r.ic _ r.nc r.gr.cells r.gr.keep r.gr.entry r.gr.result bd bop d e a b f cell imm args nx el ao _ ac w HF0 hg.kinds rfl (by omega) ha rfl (by omega) hB hk1 hh rfl
 ·exact rnode_12 B rs r.gr.params r.gr.kinds r.gr.init r.gr.nodes fo nF cF r.po r.ko r.io r.no _ r.pc _ r.kc _ r.ic _ r.nc r.gr.cells r.gr.keep r.gr.entry r.gr.result bd bop d e a b f cell imm args nx el ao _ ac w HF0 hg.kinds rfl (by omega) ha rfl (by omega) hB hk1 hh rfl
 ·exact rnode_13 B rs r.gr.params r.gr.kinds r.gr.init r.gr.nodes fo nF cF r.po r.ko r.io r.no _ r.pc _ r.kc _ r.ic _ r.nc r.gr.cells r.gr.keep r.gr.entry r.gr.result bd bop d e a b f cell imm args nx el ao _ ac w HF0 hg.kinds rfl (by omega) ha rfl (by omega) hB hk1 hh rfl
 ·exact rnode_14 B rs r.gr.params r.gr.kinds r.gr.init r.gr.nodes fo nF cF r.po r.ko r.io r.no _ r.pc _ r.kc _ r.ic _ r.nc r.gr.cells r.gr.keep r.gr.entry r.gr.result bd bop d e a b f cell imm args nx el ao _ ac w HF0 hg.kinds rfl (by omega) ha rfl (by omega) hB hk1 hh rfl
 ·exact rnode_15 B rs r.gr.params r.gr.kinds r.gr.init r.gr.nodes fo nF cF r.po r.ko r.io r.no _ r.pc _ r.kc _ r.ic _ r.nc r.gr.cells r.gr.keep r.gr.entry r.gr.result bd bop d e a b f cell imm args nx el ao _ ac w HF0 hg.kinds rfl (by omega) ha rfl (by omega) hB hk1 hh rfl
 ·exact rnode_16 B rs r.gr.params r.gr.kinds r.gr.init r.gr.nodes fo nF cF r.po r.ko r.io r.no _ r.pc _ r.kc _ r.ic _ r.nc r.gr.cells r.gr.keep r.gr.entry r.gr.result bd bop d e a b f cell imm args nx el ao _ ac w HF0 hg.kinds rfl (by omega) ha rfl (by omega) hB hk1 hh rfl
 ·exact rnode_17 B rs r.gr.params r.gr.kinds r.gr.init r.gr.nodes fo nF cF r.po r.ko r.io r.no _ r.pc _ r.kc _ r.ic _ r.nc r.gr.cells r.gr.keep r.gr.entry r.gr.result bd bop d e a b f cell imm args nx el ao _ ac w HF0 hg.kinds rfl (by omega) ha rfl (by omega) hB hk1 hh rfl
 ·exact rnode_18 B rs r.gr.params r.gr.kinds r.gr.init r.gr.nodes fo nF cF r.po r.ko r.io r.no _ r.pc _ r.kc _ r.ic _ r.nc r.gr.cells r.gr.keep r.gr.entry r.gr.result bd bop d e a b f cell imm args nx el ao _ ac w HF0 hg.kinds rfl (by omega) ha rfl (by omega) hB hk1 hh rfl
 ·exact rnode_none (grs rs) r.gr fo nF cF r.po r.ko r.io r.no _ r.pc _ r.kc _ r.ic _ r.nc r.gr.cells r.gr.keep r.gr.entry r.gr.result bd op bop d e a b f cell imm args nx el ao _ ac w hk1 ho0 ho1 (by omega)
theorem rhead_any (B:Nat) (r:RG) (bd:Bool) (w:World) (h:RdG w B r) (hw:WfG r.gr) (hB:B≤w.heap.size) :
  Calls Tryz.prog 16 #[.agg #[.slice r.po r.gr.params.length r.pc,.slice r.ko r.gr.kinds.length r.kc,.int .i64 r.gr.cells,.slice r.io r.gr.init.length r.ic,.bool r.gr.result,.int .i64 r.gr.keep,.slice r.no r.gr.nodes.length r.nc,.int .i64 r.gr.entry],.bool bd] w fun e w'=>e=.returned (.bool (decide (headHolds r.gr bd)))∧Below w.heap.size w w':=by
 have h1:=hw.pl
 have h2:=hw.kl
 have h3:=hw.il
 have h4:=hw.nl
 cases bd
 ·exact rhead_false B r.gr.params r.gr.kinds r.gr.init r.gr.nodes r.po r.ko r.io r.no _ r.pc _ r.kc _ r.ic _ r.nc r.gr.cells r.gr.keep r.gr.entry r.gr.result w h.params rfl h.pcap (by omega) h.kinds rfl (by omega) h.init rfl (by omega) rfl (by omega) hw.kinds hB
 ·exact rhead_true B r.gr.params r.gr.kinds r.gr.init r.gr.nodes r.po r.ko r.io r.no _ r.pc _ r.kc _ r.ic _ r.nc r.gr.cells r.gr.keep r.gr.entry r.gr.result w h.params rfl h.pcap (by omega) h.kinds rfl (by omega) h.init rfl (by omega) rfl (by omega) hw.kinds hB
theorem rright_any (B:Nat) (fo:Option Addr) (nF cF:Nat) (rs:List RG) (bd:Bool) (w:World) (h:RdP w B fo nF rs) (hB:B≤w.heap.size) :
  Calls Tryz.prog 8 #[.agg #[.slice fo nF cF],.bool bd] w fun e w'=>e=.returned (.bool (decide (valid (grs rs) bd)))∧Below w.heap.size w w':=by
 have HBL:Hid (Below w.heap.size w (w.alloc (.cells #[.slice fo nF cF] 24))):=(Below.refl _ _).alloc (Nat.le_refl _) _
 have HBX:Hid (Blk (w.alloc (.cells #[.slice fo nF cF] 24)) w.heap.size 24 #[.slice fo nF cF]):=Blk.new w _ _
 have hB1:B≤(w.alloc (.cells #[.slice fo nF cF] 24)).heap.size:=by simp;omega
 have HF:=lh (h.below (HBL.out.mono hB))
 have HGL:Hid ((grs rs).length=nF):=lh (by rw [length_grs,h.len])
 obtain ⟨W1,hW1⟩:∃ W,W=(w.alloc (.cells #[.slice fo nF cF] 24)):=⟨_,rfl⟩
 have HW1:=lh hW1
 have HZ1:Hid (w.heap.size≤W1.heap.size):=lh (by rw [hW1];simp)
 rw [← hW1] at HBL HBX hB1 HF
 have d0:W1.cell? ⟨w.heap.size,0,none⟩=some (.slice fo nF cF):=HBX.out.cell 0
 clear h hW1
 by_cases c1:nF<1
 ·have HD:Hid (decide (valid (grs rs) bd)=false):=lh (by rw [dfi];rintro ⟨⟨h,_⟩,_⟩;rw [HGL.out] at h;omega)
  have g:decide ((nF:Int)<1)=true:=by simp;omega
  go_enter Tryz.func8,Tryz.ntmps8
  go_wp2
  go_ret
  exact ⟨by rw [HD.out];rfl,by rw [← HW1.out];exact HBL.out⟩
 have g:decide ((nF:Int)<1)=false:=by simp;omega
 by_cases c2:16<nF
 ·have HD:Hid (decide (valid (grs rs) bd)=false):=lh (by rw [dfi];rintro ⟨⟨_,h⟩,_⟩;rw [HGL.out] at h;omega)
  have g2:decide ((nF:Int) > 16)=true:=by simp;omega
  go_enter Tryz.func8,Tryz.ntmps8
  go_wp2
  go_ret
  exact ⟨by rw [HD.out];rfl,by rw [← HW1.out];exact HBL.out⟩
 have g2:decide ((nF:Int) > 16)=false:=by simp;omega
 have hj:0<nF:=by omega
 obtain ⟨b0,off0,r0,hfo,hb0,HX0,HRG0,HWG0,y0,_,_,_,y4,_,_,_⟩:=HF.out.gr hj
 simp only [Nat.zero_mul,Nat.add_zero] at y0 y4
 have HG0:Hid (grAt (grs rs) 0=r0.gr):=lh (grAt_of HX0.out)
 subst hfo
 have hbr0:b0<W1.heap.size:=by omega
 obtain ⟨p0,hp0⟩:∃ x,x=r0.gr.params.length:=⟨_,rfl⟩
 obtain ⟨q0,hq0⟩:∃ x,x=r0.gr.result:=⟨_,rfl⟩
 rw [← hp0] at y0
 rw [← hq0] at y4
 have HP0:=lh hp0
 have HQ0:=lh hq0
 clear hp0 hq0
 by_cases c3:p0=0
 rotate_left
 ·have HD:Hid (decide (valid (grs rs) bd)=false):=lh (by rw [dfi];rintro ⟨_,⟨h,_⟩,_⟩;rw [HG0.out,← HP0.out] at h;exact c3 h)
  have g3:((p0:Int) != 0)=true:=by rw [bne_iff_ne];omega
  have g3':(p0 != 0)=true:=by rw [bne_iff_ne];omega
  clear c3
  rw [HW1.out] at y0 y4
  go_enter Tryz.func8,Tryz.ntmps8
  go_wp2
  go_ret
  exact ⟨by rw [HD.out];rfl,by rw [← HW1.out];exact HBL.out⟩
 have g3:((p0:Int) != 0)=false:=by simp;omega
 have g3':(p0 != 0)=false:=by simp;omega
 cases q0
 rotate_left
 ·have HD:Hid (decide (valid (grs rs) bd)=false):=lh (by rw [dfi];rintro ⟨_,⟨_,h⟩,_⟩;rw [HG0.out,← HQ0.out] at h;cases h)
  clear c3
  rw [HW1.out] at y0 y4
  go_enter Tryz.func8,Tryz.ntmps8
  go_wp2
  go_ret
  exact ⟨by rw [HD.out];rfl,by rw [← HW1.out];exact HBL.out⟩
 have HV:Hid (valid (grs rs) bd↔(∀ g ∈ grs rs,headHolds g bd)∧∀ g ∈ grs rs,∀ n ∈ g.nodes,nodeHolds (grs rs) g bd n):=lh (by
  unfold valid
  rw [HG0.out,← HP0.out,← HQ0.out,HGL.out]
  exact ⟨fun h=>h.2.2,fun h=>⟨⟨by omega,by omega⟩,⟨c3,rfl⟩,h⟩⟩)
 obtain ⟨fo,hfo⟩:∃ x,x=(some ⟨b0,off0,none⟩:Option Addr):=⟨_,rfl⟩
 have HFO:=lh hfo
 have hn16:nF≤16:=by omega
 clear c1 c2
 clear d0
 rw [HW1.out] at y0 y4
 go_enter Tryz.func8,Tryz.ntmps8
 go_wp2
 rw [← HW1.out]
 clear y0 y4
 go_loopw [40] (fun i wr=>∃ k:Nat,k≤nF∧i=.int .i64 k∧Hid (∀ g ∈ (grs rs).take k,headHolds g bd)∧Hid (Below W1.heap.size W1 wr)) (fun i _=>nF-(intOf i).toNat)
 case atStart=>exact ⟨0,Nat.zero_le _,rfl,lh (by simp),lh (Below.refl _ _)⟩
 case round =>
  obtain ⟨k,hk,rfl,HA,HW⟩:=hrel
  have hz:=HW.out.size
  have d0:wr.cell? ⟨w.heap.size,0,none⟩=some (.slice (some ⟨b0,off0,none⟩) nF cF):=(HBX.out.below HW.out HBX.out.lt).cell 0
  have HBW:=lh (HBL.out.trans (HW.out.mono HZ1.out))
  by_cases hlt:k<nF
  ·obtain ⟨b,off,r,hfe,hb,HX,HRG,HWG,x0,x1,x2,x3,x4,x5,x6,x7⟩:=(HF.out.below (HW.out.mono hB1)).gr hlt
   obtain ⟨rfl,rfl⟩:b0=b∧off0=off:=by injection hfe with hfe;injection hfe with h1 h2;exact ⟨h1,h2⟩
   clear hfe
   have hbr:b0<wr.heap.size:=by omega
   have HBA:Hid (Below wr.heap.size wr (wr.alloc (.cells #[.slice r.po r.gr.params.length r.pc,.slice r.ko r.gr.kinds.length r.kc,.int .i64 r.gr.cells,.slice r.io r.gr.init.length r.ic,.bool r.gr.result,.int .i64 r.gr.keep,.slice r.no r.gr.nodes.length r.nc,.int .i64 r.gr.entry] 35))):=(Below.refl _ _).alloc (Nat.le_refl _) _
   have HRA:=lh (HRG.out.below (HBA.out.mono (by omega)))
   have hBa:B≤(wr.alloc (.cells #[.slice r.po r.gr.params.length r.pc,.slice r.ko r.gr.kinds.length r.kc,.int .i64 r.gr.cells,.slice r.io r.gr.init.length r.ic,.bool r.gr.result,.int .i64 r.gr.keep,.slice r.no r.gr.nodes.length r.nc,.int .i64 r.gr.entry] 35)).heap.size:=by simp;omega
   have HMM:Hid (r.gr ∈ grs rs):=lh (List.mem_map_of_mem (List.mem_of_getElem? HX.out))
   have HXG:Hid ((grs rs)[k]?=some r.gr):=lh (by unfold grs;rw [List.getElem?_map,HX.out];rfl)
   by_cases c4:headHolds r.gr bd
   ·have H1:Hid (decide (headHolds r.gr bd)=true):=lh (decide_eq_true c4)
    have HA2:=lh (all_take (Q:=fun g=>headHolds g bd) HXG.out c4 HA.out)
    clear c4
    go_wp2_with (first | (go_at_call 16;refine (rhead_any B r bd _ HRA.out HWG.out hBa).mono ?_;rintro e w2 ⟨rfl,hb2⟩;have HB2:=lh (HBA.out.trans (hb2.mono HBA.out.size));clear hb2;rw [H1.out]))
    go_roundw
    case rel=>exact ⟨k+1,by omega,by go_num,HA2,lh (HW.out.trans (HB2.out.mono hz))⟩
    case measure=>simp [intOf];omega
   ·have H1:Hid (decide (headHolds r.gr bd)=false):=lh (decide_eq_false c4)
    have HD:Hid (decide (valid (grs rs) bd)=false):=lh (by rw [dfi,HV.out];rintro ⟨h,_⟩;exact c4 (h _ HMM.out))
    clear c4
    go_wp2_with (first | (go_at_call 16;refine (rhead_any B r bd _ HRA.out HWG.out hBa).mono ?_;rintro e w2 ⟨rfl,hb2⟩;have HB2:=lh (HBA.out.trans (hb2.mono HBA.out.size));clear hb2;rw [H1.out]))
    go_ret
    exact ⟨by rw [HD.out];rfl,HBW.out.trans (HB2.out.mono HBW.out.size)⟩
  ·obtain rfl:nF=k:=by omega
   have HHA:Hid (∀ g ∈ grs rs,headHolds g bd):=lh (by have:=HA.out;rwa [List.take_of_length_le (by rw [HGL.out];omega)] at this)
   clear hlt hk
   go_wp2
   obtain ⟨wo,rfl⟩:∃ wo,wo=wr:=⟨_,rfl⟩
   clear d0
   go_loopw [52] (fun i wr=>∃ k:Nat,k≤nF∧i=.int .i64 k∧Hid (∀ g ∈ (grs rs).take k,∀ n ∈ g.nodes,nodeHolds (grs rs) g bd n)∧Hid (Below W1.heap.size W1 wr)) (fun i _=>nF-(intOf i).toNat)
   case atStart=>exact ⟨0,Nat.zero_le _,rfl,lh (by simp),HW⟩
   case round =>
    clear HW HBW hz
    obtain ⟨k,hk,rfl,HA,HW⟩:=hrel
    have hz:=HW.out.size
    have d0:wr.cell? ⟨w.heap.size,0,none⟩=some (.slice (some ⟨b0,off0,none⟩) nF cF):=(HBX.out.below HW.out HBX.out.lt).cell 0
    have HBW:=lh (HBL.out.trans (HW.out.mono HZ1.out))
    by_cases hlt:k<nF
    ·obtain ⟨b,off,r,hfe,hb,HX,HRG,HWG,x0,x1,x2,x3,x4,x5,x6,x7⟩:=(HF.out.below (HW.out.mono hB1)).gr hlt
     obtain ⟨rfl,rfl⟩:b0=b∧off0=off:=by injection hfe with hfe;injection hfe with h1 h2;exact ⟨h1,h2⟩
     clear hfe
     have hbr:b0<wr.heap.size:=by omega
     have hb8:Below wr.heap.size wr (wr.alloc (.cells #[.slice r.po r.gr.params.length r.pc,.slice r.ko r.gr.kinds.length r.kc,.int .i64 r.gr.cells,.slice r.io r.gr.init.length r.ic,.bool r.gr.result,.int .i64 r.gr.keep,.slice r.no r.gr.nodes.length r.nc,.int .i64 r.gr.entry] 35)):=(Below.refl _ _).alloc (Nat.le_refl _) _
     have hg8:Blk (wr.alloc (.cells #[.slice r.po r.gr.params.length r.pc,.slice r.ko r.gr.kinds.length r.kc,.int .i64 r.gr.cells,.slice r.io r.gr.init.length r.ic,.bool r.gr.result,.int .i64 r.gr.keep,.slice r.no r.gr.nodes.length r.nc,.int .i64 r.gr.entry] 35)) wr.heap.size 35 #[.slice r.po r.gr.params.length r.pc,.slice r.ko r.gr.kinds.length r.kc,.int .i64 r.gr.cells,.slice r.io r.gr.init.length r.ic,.bool r.gr.result,.int .i64 r.gr.keep,.slice r.no r.gr.nodes.length r.nc,.int .i64 r.gr.entry]:=Blk.new wr _ _
     have HMM:Hid (r.gr ∈ grs rs):=lh (List.mem_map_of_mem (List.mem_of_getElem? HX.out))
     have HXG:Hid ((grs rs)[k]?=some r.gr):=lh (by unfold grs;rw [List.getElem?_map,HX.out];rfl)
     have hwn:=HWG.out.nl
     have HK1:Hid (∀ k ∈ r.gr.kinds,k=0∨k=1):=lh (HHA.out _ HMM.out).1.2.2
     obtain ⟨nN,hnN⟩:∃ x,x=r.gr.nodes.length:=⟨_,rfl⟩
     have HNN:=lh hnN
     rw [← hnN] at hwn
     go_wp2
     obtain ⟨p8,HP8⟩:∃ x,Hid (x=wr.heap.size):=⟨_,lh rfl⟩
     obtain ⟨W8,hW8⟩:∃ W,W=(wr.alloc (.cells #[.slice r.po r.gr.params.length r.pc,.slice r.ko r.gr.kinds.length r.kc,.int .i64 r.gr.cells,.slice r.io r.gr.init.length r.ic,.bool r.gr.result,.int .i64 r.gr.keep,.slice r.no r.gr.nodes.length r.nc,.int .i64 r.gr.entry] 35)):=⟨_,rfl⟩
     rw [← hW8] at hb8 hg8 ⊢
     rw [← HP8.out] at hg8 ⊢
     rw [← hnN]
     have HW8:=lh (HW.out.trans (hb8.mono hz))
     have HG8:=lh hg8
     have HRG8:=lh (HRG.out.below (hb8.mono (by omega)))
     have hB8:B≤W8.heap.size:=Nat.le_trans (by omega) hb8.size
     obtain ⟨wo2,hwo2⟩:∃ wo,wo=wr:=⟨_,rfl⟩
     clear hwo2 hW8 hb8 hg8 hnN HP8 x0 x1 x2 x3 x4 x5 x6 x7 d0
     go_loopw [59] (fun i wr=>∃ m:Nat,m≤nN∧i=.int .i64 m∧Hid (∀ n ∈ r.gr.nodes.take m,nodeHolds (grs rs) r.gr bd n)∧Hid (Below W8.heap.size W8 wr)) (fun i _=>nN-(intOf i).toNat)
     case atStart=>exact ⟨0,Nat.zero_le _,rfl,lh (by simp),lh (Below.refl _ _)⟩
     case round =>
      obtain ⟨m,hm,rfl,HM,HWM⟩:=hrel
      have HWW:=lh (HW8.out.trans (HWM.out.mono HW8.out.size))
      have HGM:=lh (HG8.out.below HWM.out HG8.out.lt)
      have HBW:=lh (HBL.out.trans (HWW.out.mono HZ1.out))
      have d0:wr.cell? ⟨w.heap.size,0,none⟩=some (.slice (some ⟨b0,off0,none⟩) nF cF):=(HBX.out.below HWW.out HBX.out.lt).cell 0
      have v0:wr.cell? ⟨p8,0,none⟩=some (.slice r.po r.gr.params.length r.pc):=HGM.out.cell 0
      have v1:wr.cell? ⟨p8,1,none⟩=some (.slice r.ko r.gr.kinds.length r.kc):=HGM.out.cell 1
      have v2:wr.cell? ⟨p8,2,none⟩=some (.int .i64 r.gr.cells):=HGM.out.cell 2
      have v3:wr.cell? ⟨p8,3,none⟩=some (.slice r.io r.gr.init.length r.ic):=HGM.out.cell 3
      have v4:wr.cell? ⟨p8,4,none⟩=some (.bool r.gr.result):=HGM.out.cell 4
      have v5:wr.cell? ⟨p8,5,none⟩=some (.int .i64 r.gr.keep):=HGM.out.cell 5
      have v6:wr.cell? ⟨p8,6,none⟩=some (.slice r.no r.gr.nodes.length r.nc):=HGM.out.cell 6
      have v7:wr.cell? ⟨p8,7,none⟩=some (.int .i64 r.gr.entry):=HGM.out.cell 7
      have hg8:=HGM.out.lt
      have hbl:w.heap.size<wr.heap.size:=Nat.lt_of_lt_of_le HBX.out.lt HWW.out.size
      by_cases hml:m<nN
      ·have HRN:Hid (RdNs wr B r.no nN r.ns):=lh (by rw [HNN.out];exact (HRG8.out.below (HWM.out.mono hB8)).nodes)
       obtain ⟨bn,on,i,hno,hbn,HXI,HRI,HWI,u0,u1,u2,u3,u4,u5,u6,u7,u8,u9,u10,u11⟩:=HRN.out.nd hml
       have HXN:Hid (r.gr.nodes[m]?=some i.nd):=lh (by rw [← HRG8.out.nd];unfold nds;rw [List.getElem?_map,HXI.out];rfl)
       have hBr:B≤wr.heap.size:=Nat.le_trans hB8 HWM.out.size
       have hbnr:bn<wr.heap.size:=by omega
       have HBA:Hid (Below wr.heap.size wr (wr.alloc (.cells #[.int .u8 i.nd.op,.int .u8 i.nd.bop,.int .i64 i.nd.d,.int .i64 i.nd.e,.int .i64 i.nd.a,.int .i64 i.nd.b,.int .i64 i.nd.f,.int .i64 i.nd.cell,.int .u64 i.nd.imm,.slice i.ao i.nd.args.length i.ac,.int .i64 i.nd.next,.int .i64 i.nd.els] 47))):=(Below.refl _ _).alloc (Nat.le_refl _) _
       have hBa:B≤(wr.alloc (.cells #[.int .u8 i.nd.op,.int .u8 i.nd.bop,.int .i64 i.nd.d,.int .i64 i.nd.e,.int .i64 i.nd.a,.int .i64 i.nd.b,.int .i64 i.nd.f,.int .i64 i.nd.cell,.int .u64 i.nd.imm,.slice i.ao i.nd.args.length i.ac,.int .i64 i.nd.next,.int .i64 i.nd.els] 47)).heap.size:=by simp;omega
       have HFA:=lh ((HF.out.below (HWW.out.mono hB1)).below (HBA.out.mono hBr))
       have HRA:=lh ((HRG8.out.below (HWM.out.mono hB8)).below (HBA.out.mono hBr))
       have HIA:=lh (HRI.out.below (HBA.out.mono hBr))
       rw [hno]
       have HNO:=lh hno
       clear hno
       by_cases c4:nodeHolds (grs rs) r.gr bd i.nd
       ·have H1:Hid (decide (nodeHolds (grs rs) r.gr bd i.nd)=true):=lh (decide_eq_true c4)
        have HM2:=lh (all_take (Q:=fun n=>nodeHolds (grs rs) r.gr bd n) HXN.out c4 HM.out)
        clear c4
        go_wp2_with (first | (go_at_call 17;refine (rnode_any B rs r i (some ⟨b0,off0,none⟩) nF cF bd _ HFA.out HRA.out HWG.out HIA.out HWI.out hBa HK1.out HHA.out).mono ?_;rintro e w4 ⟨rfl,hb4⟩;have HB4:=lh (HBA.out.trans (hb4.mono HBA.out.size));clear hb4;rw [H1.out]))
        go_roundw
        case rel=>exact ⟨m+1,by omega,by go_num,HM2,lh (HWM.out.trans (HB4.out.mono HWM.out.size))⟩
        case measure=>simp [intOf];omega
       ·have H1:Hid (decide (nodeHolds (grs rs) r.gr bd i.nd)=false):=lh (decide_eq_false c4)
        have HD:Hid (decide (valid (grs rs) bd)=false):=lh (by rw [dfi,HV.out];rintro ⟨_,h⟩;exact c4 (h _ HMM.out _ (List.mem_of_getElem? HXN.out)))
        clear c4
        go_wp2_with (first | (go_at_call 17;refine (rnode_any B rs r i (some ⟨b0,off0,none⟩) nF cF bd _ HFA.out HRA.out HWG.out HIA.out HWI.out hBa HK1.out HHA.out).mono ?_;rintro e w4 ⟨rfl,hb4⟩;have HB4:=lh (HBA.out.trans (hb4.mono HBA.out.size));clear hb4;rw [H1.out]))
        go_ret
        exact ⟨by rw [HD.out];rfl,HBW.out.trans (HB4.out.mono HBW.out.size)⟩
      ·obtain rfl:nN=m:=by omega
       have HA2:=lh (all_take (Q:=fun g=>∀ n ∈ g.nodes,nodeHolds (grs rs) g bd n) HXG.out (by have:=HM.out;rwa [List.take_of_length_le (by rw [← HNN.out];omega)] at this) HA.out)
       clear hml hm
       go_wp2
       go_roundw
       case rel=>exact ⟨k+1,by omega,by go_num,HA2,HWW⟩
       case measure=>simp [intOf];omega
    ·obtain rfl:nF=k:=by omega
     have HD:Hid (decide (valid (grs rs) bd)=true):=lh (by
      rw [decide_eq_true_eq,HV.out]
      refine ⟨HHA.out,?_⟩
      have:=HA.out
      rwa [List.take_of_length_le (by rw [HGL.out];omega)] at this)
     go_wp2
     go_ret
     exact ⟨by rw [HD.out];rfl,HBW.out⟩
theorem right13_asg {gs:List Gr} {g:Gr} (hv:valid gs false) (hg:g ∈ gs) (B:Nat) (r:RG) (hr:r.gr=g) (en b:Nat) (hent:g.entry=(en:Int)) (hen:en<g.nodes.length) (w:World) (hRG:RdG w B r) (hB:B≤w.heap.size)
  (hblk:Blk w b 3 (rowA g.kinds.length fun q=>.int .i64 (asgG g q))) :
  Calls Tryz.prog 9 #[.agg #[.slice r.po r.gr.params.length r.pc,.slice r.ko r.gr.kinds.length r.kc,.int .i64 r.gr.cells,.slice r.io r.gr.init.length r.ic,.bool r.gr.result,.int .i64 r.gr.keep,.slice r.no r.gr.nodes.length r.nc,.int .i64 en],.slice (some ⟨b,0,none⟩) r.gr.kinds.length r.gr.kinds.length] w fun e w'=>e=.returned (.bool true)∧Below w.heap.size w w':=by
 subst hr
 have hsz:=valid_sizes hv hg
 have hnin:=valid_next hv hg
 have hpin:=valid_params hv hg
 have hR:=asg_right hv hg
 have hLL:lineK r.gr.nodes en=lineG r.gr:=by unfold lineG;rw [hent,Int.toNat_natCast]
 rw [← hRG.nd] at hnin
 have hF:∀ i,i<(spansG r.gr).length→(spansG r.gr)[i]?=some (spF r.gr i):=fun i hi=>by
  unfold spF
  rw [List.getD_eq_getElem?_getD,List.getElem?_eq_getElem hi];rfl
 have hin:∀ i,i<(spansG r.gr).length→∃ q:Nat,(spF r.gr i).p=q∧q<r.gr.kinds.length:=fun i hi=>by
  obtain ⟨⟨q,h1,h2,_⟩,_⟩:=spG_in hv hg (spF_mem hi)
  exact ⟨q,h1,h2⟩
 refine right13_any r.po r.ko r.io r.no (some ⟨b,0,none⟩) r.gr.params.length r.pc r.gr.kinds.length r.kc r.gr.init.length r.ic r.gr.nodes.length r.nc r.gr.cells r.gr.keep en r.gr.result r.gr.kinds (spF r.gr) (spansG r.gr).length (spansG r.gr) (asgG r.gr) w
  rfl (kdL_ok hv hg) hsz.1 (hRG.kinds.more hB) (.inr ⟨b,rfl,hblk⟩) rfl hF (spG_len _) hin (fun i j hi hj hij e=>?_) hR.none_ hR.dom hR.two hR.slot (fun W hW=>?_)
 ·obtain ⟨q,h1,_⟩:=hin i hi
  obtain ⟨q2,h2,_⟩:=hin j hj
  rcases Nat.lt_or_gt_of_ne hij with h | h
  ·have:=spF_apart r.gr h hj;omega
  ·have:=spF_apart r.gr h hi;omega
 ·have h:=rspans_any w.heap.size r.po r.ko r.io r.no r.gr.params.length r.pc r.gr.kinds.length r.kc r.gr.init.length r.ic r.gr.nodes.length r.nc en r.gr.cells r.gr.keep r.gr.result r.ns r.gr.params W ((hRG.nodes.more hB).below hW) ((hRG.params.more hB).below hW) rfl hpin.2 hW.size hsz.2 hsz.1 hnin hen
  rw [hRG.nd,hLL] at h
  exact h
theorem sright_walk (fo:Option Addr) (nF cF:Nat) (rs:List RG) (f:Int) (w:World) (h:RdP w w.heap.size fo nF rs) (hT:TzTab w) :
  Calls Tryz.prog 3 #[.agg #[.slice fo nF cF],.int .i64 f] w fun e w'=>e=.returned (.bool true)∧Below w.heap.size w w':=by
 have hb0:Below w.heap.size w (w.alloc (.cells #[.slice fo nF cF] 24)):=(Below.refl _ _).alloc (Nat.le_refl _) _
 have HG0:=lh (Blk.new w 24 #[.slice fo nF cF])
 have HF:=lh (jfirst_any (w.alloc (.cells #[.slice fo nF cF] 24)) (hT.below hb0))
 have HB0:=lh hb0
 have H:=lh h
 have HAS:Hid (∀ W,Below w.heap.size w W→Calls Tryz.prog 7 #[.agg #[.slice fo nF cF],.int .i64 f] W (AsPost (grs rs) f W)):=lh fun W hb=>asg_any w.heap.size fo nF cF rs f W (h.below hb) hb.size (hT.below hb)
 have HRI:Hid (∀ W,Below w.heap.size w W→Calls Tryz.prog 8 #[.agg #[.slice fo nF cF],.bool false] W fun e w'=>e=.returned (.bool (decide (valid (grs rs) false)))∧Below W.heap.size W w'):=lh fun W hb=>rright_any w.heap.size fo nF cF rs false W (h.below hb) hb.size
 clear h hT hb0
 have HG:Hid (∀ W,Below (w.heap.size+1) (w.alloc (.cells #[.slice fo nF cF] 24)) W→W.cell? ⟨w.heap.size,0,none⟩=some (.slice fo nF cF)):=lh fun W hb=>(HG0.out.below hb (by omega)).cell 0
 have HZ0:Hid ((w.alloc (.cells #[.slice fo nF cF] 24)).heap.size=w.heap.size+1):=lh (by simp)
 by_cases hv:valid (grs rs) false
 ·have HD:Hid (decide (valid (grs rs) false)=true):=lh (decide_eq_true hv)
  rw [HD.out] at HRI
  by_cases hr:f<0∨(nF:Int)≤f
  ·have HC:Hid (chkL (grs rs) f=2):=lh (by
    unfold chkL
    rw [if_pos hv,if_pos]
    rw [length_grs,H.out.len]
    exact hr)
   clear hv
   have hcase:decide (f<0)=true∨(decide (f<0)=false∧decide (f≥(nF:Int))=true∧decide ((nF:Int)≤f)=true):=by
    by_cases h0:f<0
    ·exact .inl (decide_eq_true h0)
    ·exact .inr ⟨decide_eq_false h0,decide_eq_true (by omega),decide_eq_true (by omega)⟩
   clear hr
   rcases hcase with g0 | ⟨g0,g1,g2⟩
   all_goals
    go_enter Tryz.func3,Tryz.ntmps3
    go_wp2_with (first
     | (go_at_call 6;refine HF.out.mono ?_;rintro e w1 ⟨rfl,hb1⟩;rw [HZ0.out] at hb1;have HB1:=lh hb1;have HW1:=lh (HB0.out.trans (hb1.mono (by omega)));have x1:=HG.out _ hb1;clear hb1)
     | (go_at_call 7;refine (HAS.out _ HW1.out).mono ?_;rintro e w2 hl;obtain ⟨hb2,rfl⟩:=hl.bad HC.out (by decide);have hb2':=HB1.out.trans (hb2.mono (by have:=HB1.out.size;rw [HZ0.out] at this;exact this));have HB2:=lh hb2';have HW2:=lh (HW1.out.trans (hb2.mono HW1.out.size));have x2:=HG.out _ hb2';clear hl hb2 hb2')
     | (go_at_call 8;refine (HRI.out _ HW2.out).mono ?_;rintro e w4 ⟨rfl,hb4⟩;have hb4':=HB2.out.trans (hb4.mono (by have:=HB2.out.size;rw [HZ0.out] at this;exact this));have HW4:=lh (HW2.out.trans (hb4.mono HW2.out.size));have x4:=HG.out _ hb4';clear hb4 hb4'))
    go_ret
    exact ⟨rfl,HW4.out⟩
  ·obtain ⟨k,rfl⟩:∃ k:Nat,f=(k:Int):=⟨f.toNat,by omega⟩
   have hkF:k<nF:=by omega
   obtain ⟨b,off,r,hfe,hb,HX,HRG,HWG,x0,x1,x2,x3,x4,x5,x6,x7⟩:=H.out.gr hkF
   have HXG:Hid ((grs rs)[k]?=some r.gr):=lh (by unfold grs;rw [List.getElem?_map,HX.out];rfl)
   have hmem:r.gr ∈ grs rs:=List.mem_of_getElem? HXG.out
   obtain ⟨en,hent,hen⟩:=valid_entry hv hmem
   have HRT:Hid (∀ (W:World) (b:Nat),Below w.heap.size w W→Blk W b 3 (rowA r.gr.kinds.length fun q=>.int .i64 (asgG r.gr q))→Calls Tryz.prog 9 #[.agg #[.slice r.po r.gr.params.length r.pc,.slice r.ko r.gr.kinds.length r.kc,.int .i64 r.gr.cells,.slice r.io r.gr.init.length r.ic,.bool r.gr.result,.int .i64 r.gr.keep,.slice r.no r.gr.nodes.length r.nc,.int .i64 en],.slice (some ⟨b,0,none⟩) r.gr.kinds.length r.gr.kinds.length] W fun e w'=>e=.returned (.bool true)∧Below W.heap.size W w') :=
    lh fun W b hb hk=>right13_asg hv hmem w.heap.size r rfl en b hent hen W (HRG.out.below hb) hb.size hk
   have HV:=lh hv
   have g0:decide ((k:Int)<0)=false:=decide_eq_false (by omega)
   have g1:decide ((k:Int)≥(nF:Int))=false:=decide_eq_false (by omega)
   have g2:decide ((nF:Int)≤(k:Int))=false:=decide_eq_false (by omega)
   have g3:decide (nF≤k)=false:=decide_eq_false (by omega)
   rw [hent] at x7
   have HCE:Hid (∀ W,Below w.heap.size w W→W.cell? ⟨b,off+k*8,none⟩=some (.slice r.po r.gr.params.length r.pc)∧W.cell? ⟨b,off+k*8+1,none⟩=some (.slice r.ko r.gr.kinds.length r.kc)∧W.cell? ⟨b,off+k*8+2,none⟩=some (.int .i64 r.gr.cells)∧W.cell? ⟨b,off+k*8+3,none⟩=some (.slice r.io r.gr.init.length r.ic)∧W.cell? ⟨b,off+k*8+4,none⟩=some (.bool r.gr.result)∧W.cell? ⟨b,off+k*8+5,none⟩=some (.int .i64 r.gr.keep)∧W.cell? ⟨b,off+k*8+6,none⟩=some (.slice r.no r.gr.nodes.length r.nc)∧W.cell? ⟨b,off+k*8+7,none⟩=some (.int .i64 en)):=lh fun W hbw=>by
    rw [hbw.cell hb,hbw.cell hb,hbw.cell hb,hbw.cell hb,hbw.cell hb,hbw.cell hb,hbw.cell hb,hbw.cell hb]
    exact ⟨x0,x1,x2,x3,x4,x5,x6,x7⟩
   rw [hfe] at HG0 HF HB0 HAS HRI HG HZ0 H ⊢
   clear hfe x0 x1 x2 x3 x4 x5 x6 x7 hv hmem hent hen
   go_enter Tryz.func3,Tryz.ntmps3
   go_wp2_with (first
    | (go_at_call 6;refine HF.out.mono ?_;rintro e w1 ⟨rfl,hb1⟩;rw [HZ0.out] at hb1;have HB1:=lh hb1;have HW1:=lh (HB0.out.trans (hb1.mono (by omega)));have x1:=HG.out _ hb1;clear hb1)
    | (go_at_call 7;refine (HAS.out _ HW1.out).mono ?_;rintro e w2 hl;obtain ⟨hb2,b2,rfl,hg2,hk2⟩:=hl.ok HV.out HXG.out;have hb2':=HB1.out.trans (hb2.mono (by have:=HB1.out.size;rw [HZ0.out] at this;exact this));have HB2:=lh hb2';have HW2:=lh (HW1.out.trans (hb2.mono HW1.out.size));have HK2:=lh hk2;have x2:=HG.out _ hb2';clear hl hb2 hb2' hk2)
    | (go_at_call 8;refine (HRI.out _ HW2.out).mono ?_;rintro e w4 ⟨rfl,hb4⟩;have hb4':=HB2.out.trans (hb4.mono (by have:=HB2.out.size;rw [HZ0.out] at this;exact this));have HW4:=lh (HW2.out.trans (hb4.mono HW2.out.size));have HK4:=lh (HK2.out.below hb4 HK2.out.lt);have x4:=HG.out _ hb4';obtain ⟨y0,y1,y2,y3,y4,y5,y6,y7⟩:=HCE.out _ HW4.out;clear hb4 hb4')
    | (go_at_call 9;refine (HRT.out _ b2 HW4.out HK4.out).mono ?_;rintro e w5 ⟨rfl,hb5⟩;have HW5:=lh (HW4.out.trans (hb5.mono HW4.out.size));clear hb5)
    | go_in)
   go_ret
   exact ⟨rfl,HW5.out⟩
 ·have HD:Hid (decide (valid (grs rs) false)=false):=lh (decide_eq_false hv)
  rw [HD.out] at HRI
  have HC:Hid (chkL (grs rs) f=70):=lh (by unfold chkL;rw [if_neg hv])
  clear hv
  go_enter Tryz.func3,Tryz.ntmps3
  go_wp2_with (first
   | (go_at_call 6;refine HF.out.mono ?_;rintro e w1 ⟨rfl,hb1⟩;rw [HZ0.out] at hb1;have HB1:=lh hb1;have HW1:=lh (HB0.out.trans (hb1.mono (by omega)));have x1:=HG.out _ hb1;clear hb1)
   | (go_at_call 7;refine (HAS.out _ HW1.out).mono ?_;rintro e w2 hl;obtain ⟨hb2,rfl⟩:=hl.bad HC.out (by decide);have hb2':=HB1.out.trans (hb2.mono (by have:=HB1.out.size;rw [HZ0.out] at this;exact this));have HB2:=lh hb2';have HW2:=lh (HW1.out.trans (hb2.mono HW1.out.size));have x2:=HG.out _ hb2';clear hl hb2 hb2')
   | (go_at_call 8;refine (HRI.out _ HW2.out).mono ?_;rintro e w4 ⟨rfl,hb4⟩;have HW4:=lh (HW2.out.trans (hb4.mono HW2.out.size));clear hb4))
  go_ret
  exact ⟨rfl,HW4.out⟩
end Go.Proofs.YtedmcfaghfgpoaaGreatDoor
