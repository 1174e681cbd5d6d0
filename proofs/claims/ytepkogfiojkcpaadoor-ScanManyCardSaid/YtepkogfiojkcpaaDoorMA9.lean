/-
  Texts of one seat, one behind the other: Ch, Cwa, Cwb.
-/
import Derived.Deep.RegionLaw
import Derived.Deep.DeepCutAuto
import Derived.Deep.RegionHeld3
import Derived.Test.YtepkogfiojkcpaaDoorMA7

set_option linter.unusedVariables false
set_option linter.unusedSimpArgs false
set_option maxRecDepth 100000
set_option maxHeartbeats 51200000
namespace Go.Proofs.YtepkogfiojkcpaaDoor
open Go.ChangeShapes Go.WideShapes Go.ChangeAt Go.RowKit
theorem hands_any (B:Nat) (rs:List RG) (ps ks is:List Int) (nodes:List Nd) (fo:Option Addr) (nF cF:Nat) (po ko io no:Option Addr) (nP pc nK kc nI ic nN nc:Nat) (cells keep entry:Int) (res bd:Bool) (op bop d e a b f cell imm:Int) (args:List Int) (nx el:Int) (ao:Option Addr) (nA ac:Nat) (w:World) (HF0:RdP w B fo nF rs) (hk:Reads w B 1 ko nK (u8c ks)) (hkl:ks.length=nK) (ha:Reads w B 1 ao nA (i64c args)) (hal:args.length=nA) (hnA:nA*8≤140737488351232) (hB:B≤w.heap.size)
  (hh:bd=false→∀ g ∈ grs rs,headHolds g false) :
  Calls Tryd.prog 115 #[.agg #[.slice fo nF cF,.slice po nP pc,.slice ko nK kc,.int .i64 cells,.slice io nI ic,.bool res,.int .i64 keep,.slice no nN nc,.int .i64 entry,.bool bd],.agg #[.int .u8 op,.int .u8 bop,.int .i64 d,.int .i64 e,.int .i64 a,.int .i64 b,.int .i64 f,.int .i64 cell,.int .u64 imm,.slice ao nA ac,.int .i64 nx,.int .i64 el]] w fun ee w'=>ee=.returned (.bool (decide (hands (grs rs) ⟨ps,ks,cells,is,res,keep,nodes,entry⟩ bd f args)))∧Below w.heap.size w w':=by
 have HB2:Hid (Below w.heap.size w ((w.alloc (.cells #[.slice fo nF cF,.slice po nP pc,.slice ko nK kc,.int .i64 cells,.slice io nI ic,.bool res,.int .i64 keep,.slice no nN nc,.int .i64 entry,.bool bd] 151)).alloc (.cells #[.int .u8 op,.int .u8 bop,.int .i64 d,.int .i64 e,.int .i64 a,.int .i64 b,.int .i64 f,.int .i64 cell,.int .u64 imm,.slice ao nA ac,.int .i64 nx,.int .i64 el] 60))):=((Below.refl _ _).alloc (Nat.le_refl _) _).alloc (by simp) _
 have HCB:Hid (Blk ((w.alloc (.cells #[.slice fo nF cF,.slice po nP pc,.slice ko nK kc,.int .i64 cells,.slice io nI ic,.bool res,.int .i64 keep,.slice no nN nc,.int .i64 entry,.bool bd] 151)).alloc (.cells #[.int .u8 op,.int .u8 bop,.int .i64 d,.int .i64 e,.int .i64 a,.int .i64 b,.int .i64 f,.int .i64 cell,.int .u64 imm,.slice ao nA ac,.int .i64 nx,.int .i64 el] 60)) w.heap.size 151 #[.slice fo nF cF,.slice po nP pc,.slice ko nK kc,.int .i64 cells,.slice io nI ic,.bool res,.int .i64 keep,.slice no nN nc,.int .i64 entry,.bool bd]):=Lib.hid ((Blk.new w 151 #[.slice fo nF cF,.slice po nP pc,.slice ko nK kc,.int .i64 cells,.slice io nI ic,.bool res,.int .i64 keep,.slice no nN nc,.int .i64 entry,.bool bd]).alloc _)
 have HNB:Hid (Blk ((w.alloc (.cells #[.slice fo nF cF,.slice po nP pc,.slice ko nK kc,.int .i64 cells,.slice io nI ic,.bool res,.int .i64 keep,.slice no nN nc,.int .i64 entry,.bool bd] 151)).alloc (.cells #[.int .u8 op,.int .u8 bop,.int .i64 d,.int .i64 e,.int .i64 a,.int .i64 b,.int .i64 f,.int .i64 cell,.int .u64 imm,.slice ao nA ac,.int .i64 nx,.int .i64 el] 60)) (w.heap.size+1) 60 #[.int .u8 op,.int .u8 bop,.int .i64 d,.int .i64 e,.int .i64 a,.int .i64 b,.int .i64 f,.int .i64 cell,.int .u64 imm,.slice ao nA ac,.int .i64 nx,.int .i64 el]):=Lib.hid (by
  have:=Blk.new (w.alloc (.cells #[.slice fo nF cF,.slice po nP pc,.slice ko nK kc,.int .i64 cells,.slice io nI ic,.bool res,.int .i64 keep,.slice no nN nc,.int .i64 entry,.bool bd] 151)) 60 #[.int .u8 op,.int .u8 bop,.int .i64 d,.int .i64 e,.int .i64 a,.int .i64 b,.int .i64 f,.int .i64 cell,.int .u64 imm,.slice ao nA ac,.int .i64 nx,.int .i64 el]
  rwa [show (w.alloc (.cells #[.slice fo nF cF,.slice po nP pc,.slice ko nK kc,.int .i64 cells,.slice io nI ic,.bool res,.int .i64 keep,.slice no nN nc,.int .i64 entry,.bool bd] 151)).heap.size=w.heap.size+1 by simp] at this)
 have HF:=Lib.hid HF0
 have HK:=Lib.hid hk
 have HKL:=Lib.hid hkl
 have HA:=Lib.hid ha
 have HAL:=Lib.hid hal
 have HH:=Lib.hid hh
 have HGL:Hid ((grs rs).length=nF):=Lib.hid (by rw [length_grs,HF0.len])
 clear hk hkl HF0 ha hal hh
 by_cases hf:isOne f nF
 rotate_left
 ·have HI:Hid (decide (isOne f nF)=false):=Lib.hid (decide_eq_false hf)
  have HD:Hid (decide (hands (grs rs) ⟨ps,ks,cells,is,res,keep,nodes,entry⟩ bd f args)=false):=Lib.hid (by
   rw [decide_eq_false_iff_not]
   rintro ⟨h,_⟩
   rw [HGL.out] at h
   exact hf h)
  clear hf
  go_enter Tryd.func115,Tryd.ntmps115
  go_wp2_with (first | (go_at_call 103;refine (isOne_any _ _ _).mono ?_;rintro ee w2 ⟨rfl,rfl⟩;rw [HI.out]))
  go_ret
  exact ⟨by rw [HD.out];rfl,HB2.out⟩
 have HI:Hid (decide (isOne f nF)=true):=Lib.hid (decide_eq_true hf)
 have HI0:=Lib.hid hf
 obtain ⟨j,rfl⟩:∃ j:Nat,f=(j:Int):=⟨f.toNat,by have:=hf.1;omega⟩
 have hj:j<nF:=by have:=hf.2;omega
 clear hf
 obtain ⟨bf,off,r,rfl,hbf,HX,HRG,HWG,x0,x1,x2,x3,x4,x5,x6,x7⟩:=HF.out.gr hj
 have HGR:=Lib.hid (grAt_of HX.out)
 have hbr:bf<w.heap.size:=by omega
 obtain ⟨pl,hpl⟩:∃ x,x=r.gr.params.length:=⟨_,rfl⟩
 rw [← hpl] at x0
 have HPL:=Lib.hid hpl
 clear hpl
 by_cases hne:nA=pl
 rotate_left
 ·have HD:Hid (decide (hands (grs rs) ⟨ps,ks,cells,is,res,keep,nodes,entry⟩ bd j args)=false):=Lib.hid (by
   rw [decide_eq_false_iff_not]
   rintro ⟨_,h,_⟩
   rw [HGR.out,← HPL.out,HAL.out] at h
   exact hne h)
  have g:((nA:Int) != (pl:Int))=true:=by rw [bne_iff_ne];omega
  clear hne
  go_enter Tryd.func115,Tryd.ntmps115
  go_wp2_with (first | (go_at_call 103;refine (isOne_any _ _ _).mono ?_;rintro ee w2 ⟨rfl,rfl⟩;rw [HI.out]))
  go_ret
  exact ⟨by rw [HD.out];rfl,HB2.out.alloc (by simp;omega) _⟩
 subst hne
 have HB3:Hid (Below w.heap.size w (((w.alloc (.cells #[.slice (some ⟨bf,off,none⟩) nF cF,.slice po nP pc,.slice ko nK kc,.int .i64 cells,.slice io nI ic,.bool res,.int .i64 keep,.slice no nN nc,.int .i64 entry,.bool bd] 151)).alloc (.cells #[.int .u8 op,.int .u8 bop,.int .i64 d,.int .i64 e,.int .i64 a,.int .i64 b,.int .i64 j,.int .i64 cell,.int .u64 imm,.slice ao nA ac,.int .i64 nx,.int .i64 el] 60)).alloc (.cells #[.slice r.po nA r.pc,.slice r.ko r.gr.kinds.length r.kc,.int .i64 r.gr.cells,.slice r.io r.gr.init.length r.ic,.bool r.gr.result,.int .i64 r.gr.keep,.slice r.no r.gr.nodes.length r.nc,.int .i64 r.gr.entry] 38))):=HB2.out.alloc (by simp;omega) _
 have g:((nA:Int) != (nA:Int))=false:=by simp
 cases bd
 rotate_left
 ·have HD:Hid (decide (hands (grs rs) ⟨ps,ks,cells,is,res,keep,nodes,entry⟩ true j args)=decide (inOrder args)):=Lib.hid (by
   rw [decide_eq_decide]
   unfold hands
   rw [HGL.out,HGR.out,← HPL.out,HAL.out]
   simp only [if_true,true_and]
   exact ⟨fun h=>h.2,fun h=>⟨HI0.out,h⟩⟩)
  have HA3:=Lib.hid (HA.out.below (HB3.out.mono hB))
  go_enter Tryd.func115,Tryd.ntmps115
  go_wp2_with (first
   | (go_at_call 103;refine (isOne_any _ _ _).mono ?_;rintro ee w2 ⟨rfl,rfl⟩;rw [HI.out])
   | (go_at_call 111;refine (inOrder_any B _ _ _ args _ HA3.out HAL.out (by omega)).mono ?_;rintro ee w2 ⟨rfl,rfl⟩))
  go_ret
  exact ⟨by rw [HD.out];rfl,HB3.out⟩
 have HHD:Hid (headHolds r.gr false):=Lib.hid (HH.out rfl _ (List.mem_map_of_mem (List.mem_of_getElem? HX.out)))
 have HCB3:=Lib.hid (HCB.out.alloc (.cells #[.slice r.po nA r.pc,.slice r.ko r.gr.kinds.length r.kc,.int .i64 r.gr.cells,.slice r.io r.gr.init.length r.ic,.bool r.gr.result,.int .i64 r.gr.keep,.slice r.no r.gr.nodes.length r.nc,.int .i64 r.gr.entry] 38))
 have HNB3:=Lib.hid (HNB.out.alloc (.cells #[.slice r.po nA r.pc,.slice r.ko r.gr.kinds.length r.kc,.int .i64 r.gr.cells,.slice r.io r.gr.init.length r.ic,.bool r.gr.result,.int .i64 r.gr.keep,.slice r.no r.gr.nodes.length r.nc,.int .i64 r.gr.entry] 38))
 have HGB3:Hid (Blk (((w.alloc (.cells #[.slice (some ⟨bf,off,none⟩) nF cF,.slice po nP pc,.slice ko nK kc,.int .i64 cells,.slice io nI ic,.bool res,.int .i64 keep,.slice no nN nc,.int .i64 entry,.bool false] 151)).alloc (.cells #[.int .u8 op,.int .u8 bop,.int .i64 d,.int .i64 e,.int .i64 a,.int .i64 b,.int .i64 j,.int .i64 cell,.int .u64 imm,.slice ao nA ac,.int .i64 nx,.int .i64 el] 60)).alloc (.cells #[.slice r.po nA r.pc,.slice r.ko r.gr.kinds.length r.kc,.int .i64 r.gr.cells,.slice r.io r.gr.init.length r.ic,.bool r.gr.result,.int .i64 r.gr.keep,.slice r.no r.gr.nodes.length r.nc,.int .i64 r.gr.entry] 38)) (w.heap.size+1+1) 38 #[.slice r.po nA r.pc,.slice r.ko r.gr.kinds.length r.kc,.int .i64 r.gr.cells,.slice r.io r.gr.init.length r.ic,.bool r.gr.result,.int .i64 r.gr.keep,.slice r.no r.gr.nodes.length r.nc,.int .i64 r.gr.entry]):=Lib.hid (by
  have:=Blk.new ((w.alloc (.cells #[.slice (some ⟨bf,off,none⟩) nF cF,.slice po nP pc,.slice ko nK kc,.int .i64 cells,.slice io nI ic,.bool res,.int .i64 keep,.slice no nN nc,.int .i64 entry,.bool false] 151)).alloc (.cells #[.int .u8 op,.int .u8 bop,.int .i64 d,.int .i64 e,.int .i64 a,.int .i64 b,.int .i64 j,.int .i64 cell,.int .u64 imm,.slice ao nA ac,.int .i64 nx,.int .i64 el] 60)) 38 #[.slice r.po nA r.pc,.slice r.ko r.gr.kinds.length r.kc,.int .i64 r.gr.cells,.slice r.io r.gr.init.length r.ic,.bool r.gr.result,.int .i64 r.gr.keep,.slice r.no r.gr.nodes.length r.nc,.int .i64 r.gr.entry]
  rwa [show ((w.alloc (.cells #[.slice (some ⟨bf,off,none⟩) nF cF,.slice po nP pc,.slice ko nK kc,.int .i64 cells,.slice io nI ic,.bool res,.int .i64 keep,.slice no nN nc,.int .i64 entry,.bool false] 151)).alloc (.cells #[.int .u8 op,.int .u8 bop,.int .i64 d,.int .i64 e,.int .i64 a,.int .i64 b,.int .i64 j,.int .i64 cell,.int .u64 imm,.slice ao nA ac,.int .i64 nx,.int .i64 el] 60)).heap.size=w.heap.size+1+1 by simp] at this)
 have HZ3:Hid ((((w.alloc (.cells #[.slice (some ⟨bf,off,none⟩) nF cF,.slice po nP pc,.slice ko nK kc,.int .i64 cells,.slice io nI ic,.bool res,.int .i64 keep,.slice no nN nc,.int .i64 entry,.bool false] 151)).alloc (.cells #[.int .u8 op,.int .u8 bop,.int .i64 d,.int .i64 e,.int .i64 a,.int .i64 b,.int .i64 j,.int .i64 cell,.int .u64 imm,.slice ao nA ac,.int .i64 nx,.int .i64 el] 60)).alloc (.cells #[.slice r.po nA r.pc,.slice r.ko r.gr.kinds.length r.kc,.int .i64 r.gr.cells,.slice r.io r.gr.init.length r.ic,.bool r.gr.result,.int .i64 r.gr.keep,.slice r.no r.gr.nodes.length r.nc,.int .i64 r.gr.entry] 38)).heap.size=w.heap.size+1+1+1):=Lib.hid (by simp)
 obtain ⟨W3,HW3⟩:∃ W,Hid (W=(((w.alloc (.cells #[.slice (some ⟨bf,off,none⟩) nF cF,.slice po nP pc,.slice ko nK kc,.int .i64 cells,.slice io nI ic,.bool res,.int .i64 keep,.slice no nN nc,.int .i64 entry,.bool false] 151)).alloc (.cells #[.int .u8 op,.int .u8 bop,.int .i64 d,.int .i64 e,.int .i64 a,.int .i64 b,.int .i64 j,.int .i64 cell,.int .u64 imm,.slice ao nA ac,.int .i64 nx,.int .i64 el] 60)).alloc (.cells #[.slice r.po nA r.pc,.slice r.ko r.gr.kinds.length r.kc,.int .i64 r.gr.cells,.slice r.io r.gr.init.length r.ic,.bool r.gr.result,.int .i64 r.gr.keep,.slice r.no r.gr.nodes.length r.nc,.int .i64 r.gr.entry] 38))):=⟨_,rfl⟩
 go_enter Tryd.func115,Tryd.ntmps115
 go_wp2_with (first | (go_at_call 103;refine (isOne_any _ _ _).mono ?_;rintro ee w2 ⟨rfl,rfl⟩;rw [HI.out]))
 rw [← HW3.out] at HB3 HCB3 HNB3 HGB3 HZ3 ⊢
 go_loopw [36] (fun i wr=>∃ k:Nat,k≤nA∧i=.int .i64 k∧Hid (Below W3.heap.size W3 wr)∧Hid (∀ i,i<k→fits ks false (args.getD i 0) (kindAt r.gr.kinds (r.gr.params.getD i 0)))) (fun i _=>nA-(intOf i).toNat)
 case atStart=>exact ⟨0,Nat.zero_le _,rfl,Below.refl _ _,Lib.hid (by intro i hi;omega)⟩
 case round =>
  obtain ⟨k,hkk,rfl,HBW,HFT⟩:=hrel
  have hz3:=HZ3.out
  have hzr:=HBW.out.size
  have HBB:Hid (Below w.heap.size w wr):=HB3.out.trans (HBW.out.mono (by omega))
  have HCR:=Lib.hid (HCB3.out.below HBW.out HCB3.out.lt)
  have HNR:=Lib.hid (HNB3.out.below HBW.out HNB3.out.lt)
  have HGR3:=Lib.hid (HGB3.out.below HBW.out HGB3.out.lt)
  have q0:wr.cell? ⟨w.heap.size+1+1,0,none⟩=some (.slice r.po nA r.pc):=HGR3.out.cell 0
  have q1:wr.cell? ⟨w.heap.size+1+1,1,none⟩=some (.slice r.ko r.gr.kinds.length r.kc):=HGR3.out.cell 1
  have hzc:w.heap.size<wr.heap.size:=by omega
  have hzg:w.heap.size+1+1<wr.heap.size:=by omega
  by_cases hlt:k<nA
  ·obtain ⟨ba,oa,x,rfl,hba,HXA,a1⟩:=(HA.out.below (HBB.out.mono hB)).int hlt
   have hPR:Reads wr B 1 r.po nA (i64c r.gr.params):=by
    have:=HRG.out.params.below (HBB.out.mono hB)
    rwa [← HPL.out] at this
   obtain ⟨bp,op2,z,hpo,hbp,HXP,p1⟩:=hPR.int hlt
   have hzo:isOne z r.gr.kinds.length:=by
    have h1:=HHD.out.2.2.2.1.2
    rw [if_neg (by simp)] at h1
    have h2:=(h1 k (by rw [← HPL.out];exact hlt)).1
    rwa [show r.gr.params.getD k 0=z by simp [List.getD,HXP.out]] at h2
   obtain ⟨m,rfl⟩:∃ m:Nat,z=(m:Int):=⟨z.toNat,by have:=hzo.1;omega⟩
   have hm:m<r.gr.kinds.length:=by have:=hzo.2;omega
   obtain ⟨bk,ok,y,hko,hbk,HXK,k1⟩:=(HRG.out.kinds.below (HBB.out.mono hB)).byte hm
   rw [hpo] at q0
   rw [hko] at q1
   have hka:kindAt r.gr.kinds (r.gr.params.getD k 0)=y:=by
    rw [show r.gr.params.getD k 0=(m:Int) by simp [List.getD,HXP.out]]
    simp [kindAt,List.getD,HXK.out]
   have hax:args.getD k 0=x:=by simp [List.getD,HXA.out]
   have HKA:=Lib.hid hka
   have HAX:=Lib.hid hax
   have l1:ba<wr.heap.size:=by omega
   have l2:bp<wr.heap.size:=by omega
   have l3:bk<wr.heap.size:=by omega
   have HKR:=Lib.hid (HK.out.below (HBB.out.mono hB))
   have hBr:B≤wr.heap.size:=by omega
   have c0:wr.cell? ⟨w.heap.size,0,none⟩=some (.slice (some ⟨bf,off,none⟩) nF cF):=HCR.out.cell 0
   have c1:wr.cell? ⟨w.heap.size,1,none⟩=some (.slice po nP pc):=HCR.out.cell 1
   have c2:wr.cell? ⟨w.heap.size,2,none⟩=some (.slice ko nK kc):=HCR.out.cell 2
   have c3:wr.cell? ⟨w.heap.size,3,none⟩=some (.int .i64 cells):=HCR.out.cell 3
   have c4:wr.cell? ⟨w.heap.size,4,none⟩=some (.slice io nI ic):=HCR.out.cell 4
   have c5:wr.cell? ⟨w.heap.size,5,none⟩=some (.bool res):=HCR.out.cell 5
   have c6:wr.cell? ⟨w.heap.size,6,none⟩=some (.int .i64 keep):=HCR.out.cell 6
   have c7:wr.cell? ⟨w.heap.size,7,none⟩=some (.slice no nN nc):=HCR.out.cell 7
   have c8:wr.cell? ⟨w.heap.size,8,none⟩=some (.int .i64 entry):=HCR.out.cell 8
   have c9:wr.cell? ⟨w.heap.size,9,none⟩=some (.bool false):=HCR.out.cell 9

   clear hPR hpo hko hka hax hzo hz3 hzr
   by_cases hft:fits ks false x y
   ·have HT:Hid (decide (∀ p ∈ [x],fits ks false p y)=true):=Lib.hid (by rw [all_one (fun p=>fits ks false p y)];exact decide_eq_true hft)
    have HFT2:Hid (∀ i,i<k+1→fits ks false (args.getD i 0) (kindAt r.gr.kinds (r.gr.params.getD i 0))):=Lib.hid (by
     intro i hi
     by_cases hik:i<k
     ·exact HFT.out i hik
     ·obtain rfl:i=k:=by omega
      rw [HKA.out,HAX.out];exact hft)
    clear hft
    go_wp2
    go_region_held3 (fun W=>W.cell? ⟨w.heap.size,0,none⟩=some (.slice (some ⟨bf,off,none⟩) nF cF)∧W.cell? ⟨w.heap.size,1,none⟩=some (.slice po nP pc)∧W.cell? ⟨w.heap.size,2,none⟩=some (.slice ko nK kc)∧W.cell? ⟨w.heap.size,3,none⟩=some (.int .i64 cells)∧W.cell? ⟨w.heap.size,4,none⟩=some (.slice io nI ic)∧W.cell? ⟨w.heap.size,5,none⟩=some (.bool res)∧W.cell? ⟨w.heap.size,6,none⟩=some (.int .i64 keep)∧W.cell? ⟨w.heap.size,7,none⟩=some (.slice no nN nc)∧W.cell? ⟨w.heap.size,8,none⟩=some (.int .i64 entry)∧W.cell? ⟨w.heap.size,9,none⟩=some (.bool false)∧W.cell? ⟨w.heap.size+1+1,0,none⟩=some (.slice (some ⟨bp,op2,none⟩) nA r.pc)∧W.cell? ⟨w.heap.size+1+1,1,none⟩=some (.slice (some ⟨bk,ok,none⟩) r.gr.kinds.length r.kc)∧W.cell? ⟨bp,op2+k,none⟩=some (.int .i64 m)∧W.cell? ⟨bk,ok+m,none⟩=some (.int .u8 y))
     (first | go_keep | exact hS5)
     (first
      | (go_at_call 112;refine (are_lit B _ [x] 1 ks y _ _ _ _ _ _ _ _ _ _ _ _ _ _ _ _ _ _ _ _ wr _ rfl (by omega) HKR.out HKL.out hBr (by first | rfl | simp) (by first | exact .inl rfl | exact .inr rfl)).mono ?_;rintro ee w5 ⟨rfl,hb5⟩;have hS5:=And.intro ((hb5.cell (p:=⟨w.heap.size,0,none⟩) hzc).trans c0) (And.intro ((hb5.cell (p:=⟨w.heap.size,1,none⟩) hzc).trans c1) (And.intro ((hb5.cell (p:=⟨w.heap.size,2,none⟩) hzc).trans c2) (And.intro ((hb5.cell (p:=⟨w.heap.size,3,none⟩) hzc).trans c3) (And.intro ((hb5.cell (p:=⟨w.heap.size,4,none⟩) hzc).trans c4) (And.intro ((hb5.cell (p:=⟨w.heap.size,5,none⟩) hzc).trans c5) (And.intro ((hb5.cell (p:=⟨w.heap.size,6,none⟩) hzc).trans c6) (And.intro ((hb5.cell (p:=⟨w.heap.size,7,none⟩) hzc).trans c7) (And.intro ((hb5.cell (p:=⟨w.heap.size,8,none⟩) hzc).trans c8) (And.intro ((hb5.cell (p:=⟨w.heap.size,9,none⟩) hzc).trans c9) (And.intro ((hb5.cell (p:=⟨w.heap.size+1+1,0,none⟩) hzg).trans q0) (And.intro ((hb5.cell (p:=⟨w.heap.size+1+1,1,none⟩) hzg).trans q1) (And.intro ((hb5.cell (p:=⟨bp,op2+k,none⟩) l2).trans p1) ((hb5.cell (p:=⟨bk,ok+m,none⟩) l3).trans k1)))))))))))));have HB5:=Lib.hid hb5;clear hb5;rw [HT.out]))
    go_wp2
    go_roundw
    case rel=>exact ⟨k+1,by omega,by go_num,HBW.out.trans (HB5.out.mono HBW.out.size),HFT2⟩
    case measure=>simp [intOf];omega
   ·have HT:Hid (decide (∀ p ∈ [x],fits ks false p y)=false):=Lib.hid (by rw [all_one (fun p=>fits ks false p y)];exact decide_eq_false hft)
    have HD:Hid (decide (hands (grs rs) ⟨ps,ks,cells,is,res,keep,nodes,entry⟩ false j args)=false):=Lib.hid (by
     rw [decide_eq_false_iff_not]
     rintro ⟨_,_,h⟩
     rw [if_neg (by simp),HGR.out] at h
     have:=h k (by rw [HAL.out];exact hlt)
     rw [HKA.out,HAX.out] at this
     exact hft this)
    clear hft
    go_wp2
    go_region_held3 (fun W=>W.cell? ⟨w.heap.size,0,none⟩=some (.slice (some ⟨bf,off,none⟩) nF cF)∧W.cell? ⟨w.heap.size,1,none⟩=some (.slice po nP pc)∧W.cell? ⟨w.heap.size,2,none⟩=some (.slice ko nK kc)∧W.cell? ⟨w.heap.size,3,none⟩=some (.int .i64 cells)∧W.cell? ⟨w.heap.size,4,none⟩=some (.slice io nI ic)∧W.cell? ⟨w.heap.size,5,none⟩=some (.bool res)∧W.cell? ⟨w.heap.size,6,none⟩=some (.int .i64 keep)∧W.cell? ⟨w.heap.size,7,none⟩=some (.slice no nN nc)∧W.cell? ⟨w.heap.size,8,none⟩=some (.int .i64 entry)∧W.cell? ⟨w.heap.size,9,none⟩=some (.bool false)∧W.cell? ⟨w.heap.size+1+1,0,none⟩=some (.slice (some ⟨bp,op2,none⟩) nA r.pc)∧W.cell? ⟨w.heap.size+1+1,1,none⟩=some (.slice (some ⟨bk,ok,none⟩) r.gr.kinds.length r.kc)∧W.cell? ⟨bp,op2+k,none⟩=some (.int .i64 m)∧W.cell? ⟨bk,ok+m,none⟩=some (.int .u8 y))
     (first | go_keep | exact hS5)
     (first
      | (go_at_call 112;refine (are_lit B _ [x] 1 ks y _ _ _ _ _ _ _ _ _ _ _ _ _ _ _ _ _ _ _ _ wr _ rfl (by omega) HKR.out HKL.out hBr (by first | rfl | simp) (by first | exact .inl rfl | exact .inr rfl)).mono ?_;rintro ee w5 ⟨rfl,hb5⟩;have hS5:=And.intro ((hb5.cell (p:=⟨w.heap.size,0,none⟩) hzc).trans c0) (And.intro ((hb5.cell (p:=⟨w.heap.size,1,none⟩) hzc).trans c1) (And.intro ((hb5.cell (p:=⟨w.heap.size,2,none⟩) hzc).trans c2) (And.intro ((hb5.cell (p:=⟨w.heap.size,3,none⟩) hzc).trans c3) (And.intro ((hb5.cell (p:=⟨w.heap.size,4,none⟩) hzc).trans c4) (And.intro ((hb5.cell (p:=⟨w.heap.size,5,none⟩) hzc).trans c5) (And.intro ((hb5.cell (p:=⟨w.heap.size,6,none⟩) hzc).trans c6) (And.intro ((hb5.cell (p:=⟨w.heap.size,7,none⟩) hzc).trans c7) (And.intro ((hb5.cell (p:=⟨w.heap.size,8,none⟩) hzc).trans c8) (And.intro ((hb5.cell (p:=⟨w.heap.size,9,none⟩) hzc).trans c9) (And.intro ((hb5.cell (p:=⟨w.heap.size+1+1,0,none⟩) hzg).trans q0) (And.intro ((hb5.cell (p:=⟨w.heap.size+1+1,1,none⟩) hzg).trans q1) (And.intro ((hb5.cell (p:=⟨bp,op2+k,none⟩) l2).trans p1) ((hb5.cell (p:=⟨bk,ok+m,none⟩) l3).trans k1)))))))))))));have HB5:=Lib.hid hb5;clear hb5;rw [HT.out]))
    go_wp2
    go_ret
    exact ⟨by rw [HD.out];rfl,HBB.out.trans (HB5.out.mono HBB.out.size)⟩
  ·obtain rfl:nA=k:=by omega
   have HD:Hid (decide (hands (grs rs) ⟨ps,ks,cells,is,res,keep,nodes,entry⟩ false j args)=true):=Lib.hid (by
    rw [decide_eq_true_eq]
    refine ⟨by rw [HGL.out];exact HI0.out,by rw [HGR.out,← HPL.out,HAL.out],?_⟩
    rw [if_neg (by simp),HGR.out,HAL.out]
    exact HFT.out)
   go_wp2
   go_ret
   exact ⟨by rw [HD.out];rfl,HBB.out⟩
theorem uses_a (B:Nat) (rs:List RG) (ps ks is:List Int) (nodes:List Nd) (fo:Option Addr) (nF cF:Nat) (po ko io no:Option Addr) (nP pc nK kc nI ic nN nc:Nat) (cells keep entry:Int) (res bd:Bool) (op bop d e a b f cell imm:Int) (args:List Int) (nx el:Int) (ao:Option Addr) (nA ac:Nat) (w:World) (HF0:RdP w B fo nF rs) (hk:Reads w B 1 ko nK (u8c ks)) (hkl:ks.length=nK) (ha:Reads w B 1 ao nA (i64c args)) (hal:args.length=nA) (hnA:nA*8≤140737488351232) (hB:B≤w.heap.size)
  (hh:bd=false→∀ g ∈ grs rs,headHolds g false) (hop:op=1∨op=16∨op=9∨op=14∨op=17∨op=18∨op=10) :
  Calls Tryd.prog 106 #[.agg #[.slice fo nF cF,.slice po nP pc,.slice ko nK kc,.int .i64 cells,.slice io nI ic,.bool res,.int .i64 keep,.slice no nN nc,.int .i64 entry,.bool bd],.agg #[.int .u8 op,.int .u8 bop,.int .i64 d,.int .i64 e,.int .i64 a,.int .i64 b,.int .i64 f,.int .i64 cell,.int .u64 imm,.slice ao nA ac,.int .i64 nx,.int .i64 el]] w fun ee w'=>ee=.returned (.bool (decide (uses (grs rs) ⟨ps,ks,cells,is,res,keep,nodes,entry⟩ bd ⟨op,bop,d,e,a,b,f,cell,imm,args,nx,el⟩)))∧Below w.heap.size w w':=by
 have HB2:Hid (Below w.heap.size w ((w.alloc (.cells #[.slice fo nF cF,.slice po nP pc,.slice ko nK kc,.int .i64 cells,.slice io nI ic,.bool res,.int .i64 keep,.slice no nN nc,.int .i64 entry,.bool bd] 151)).alloc (.cells #[.int .u8 op,.int .u8 bop,.int .i64 d,.int .i64 e,.int .i64 a,.int .i64 b,.int .i64 f,.int .i64 cell,.int .u64 imm,.slice ao nA ac,.int .i64 nx,.int .i64 el] 60))):=((Below.refl _ _).alloc (Nat.le_refl _) _).alloc (by simp) _
 have HCB:Hid (Blk ((w.alloc (.cells #[.slice fo nF cF,.slice po nP pc,.slice ko nK kc,.int .i64 cells,.slice io nI ic,.bool res,.int .i64 keep,.slice no nN nc,.int .i64 entry,.bool bd] 151)).alloc (.cells #[.int .u8 op,.int .u8 bop,.int .i64 d,.int .i64 e,.int .i64 a,.int .i64 b,.int .i64 f,.int .i64 cell,.int .u64 imm,.slice ao nA ac,.int .i64 nx,.int .i64 el] 60)) w.heap.size 151 #[.slice fo nF cF,.slice po nP pc,.slice ko nK kc,.int .i64 cells,.slice io nI ic,.bool res,.int .i64 keep,.slice no nN nc,.int .i64 entry,.bool bd]):=Lib.hid ((Blk.new w 151 #[.slice fo nF cF,.slice po nP pc,.slice ko nK kc,.int .i64 cells,.slice io nI ic,.bool res,.int .i64 keep,.slice no nN nc,.int .i64 entry,.bool bd]).alloc _)
 have HNB:Hid (Blk ((w.alloc (.cells #[.slice fo nF cF,.slice po nP pc,.slice ko nK kc,.int .i64 cells,.slice io nI ic,.bool res,.int .i64 keep,.slice no nN nc,.int .i64 entry,.bool bd] 151)).alloc (.cells #[.int .u8 op,.int .u8 bop,.int .i64 d,.int .i64 e,.int .i64 a,.int .i64 b,.int .i64 f,.int .i64 cell,.int .u64 imm,.slice ao nA ac,.int .i64 nx,.int .i64 el] 60)) (w.heap.size+1) 60 #[.int .u8 op,.int .u8 bop,.int .i64 d,.int .i64 e,.int .i64 a,.int .i64 b,.int .i64 f,.int .i64 cell,.int .u64 imm,.slice ao nA ac,.int .i64 nx,.int .i64 el]):=Lib.hid (by
  have:=Blk.new (w.alloc (.cells #[.slice fo nF cF,.slice po nP pc,.slice ko nK kc,.int .i64 cells,.slice io nI ic,.bool res,.int .i64 keep,.slice no nN nc,.int .i64 entry,.bool bd] 151)) 60 #[.int .u8 op,.int .u8 bop,.int .i64 d,.int .i64 e,.int .i64 a,.int .i64 b,.int .i64 f,.int .i64 cell,.int .u64 imm,.slice ao nA ac,.int .i64 nx,.int .i64 el]
  rwa [show (w.alloc (.cells #[.slice fo nF cF,.slice po nP pc,.slice ko nK kc,.int .i64 cells,.slice io nI ic,.bool res,.int .i64 keep,.slice no nN nc,.int .i64 entry,.bool bd] 151)).heap.size=w.heap.size+1 by simp] at this)
 have HF:=Lib.hid (HF0.below (HB2.out.mono hB))
 have HK:=Lib.hid (hk.below (HB2.out.mono hB))
 have HKL:=Lib.hid hkl
 have HA:=Lib.hid (ha.below (HB2.out.mono hB))
 have HAL:=Lib.hid hal
 have HH:=Lib.hid hh
 have HGL:Hid ((grs rs).length=nF):=Lib.hid (by rw [length_grs,HF0.len])
 have hB2:B≤((w.alloc (.cells #[.slice fo nF cF,.slice po nP pc,.slice ko nK kc,.int .i64 cells,.slice io nI ic,.bool res,.int .i64 keep,.slice no nN nc,.int .i64 entry,.bool bd] 151)).alloc (.cells #[.int .u8 op,.int .u8 bop,.int .i64 d,.int .i64 e,.int .i64 a,.int .i64 b,.int .i64 f,.int .i64 cell,.int .u64 imm,.slice ao nA ac,.int .i64 nx,.int .i64 el] 60)).heap.size:=by simp;omega
 have HZ2:Hid (w.heap.size+1+1=((w.alloc (.cells #[.slice fo nF cF,.slice po nP pc,.slice ko nK kc,.int .i64 cells,.slice io nI ic,.bool res,.int .i64 keep,.slice no nN nc,.int .i64 entry,.bool bd] 151)).alloc (.cells #[.int .u8 op,.int .u8 bop,.int .i64 d,.int .i64 e,.int .i64 a,.int .i64 b,.int .i64 f,.int .i64 cell,.int .u64 imm,.slice ao nA ac,.int .i64 nx,.int .i64 el] 60)).heap.size):=Lib.hid (by simp)
 clear hk hkl HF0 ha hal hh
 rcases hop with rfl | rfl | rfl | rfl | rfl | rfl | rfl
 ·-- 1
  have HU:Hid (uses (grs rs) ⟨ps,ks,cells,is,res,keep,nodes,entry⟩ bd ⟨1,bop,d,e,a,b,f,cell,imm,args,nx,el⟩↔fits ks bd d 0):=Lib.hid (by unfold uses;rw [if_pos (by simp)];all_goals exact Iff.rfl)
  have HD:Hid (decide (∀ p ∈ [d],fits ks bd p 0)=decide (uses (grs rs) ⟨ps,ks,cells,is,res,keep,nodes,entry⟩ bd ⟨1,bop,d,e,a,b,f,cell,imm,args,nx,el⟩)):=Lib.hid (by rw [decide_eq_decide,HU.out];simp)
  go_enter Tryd.func106,Tryd.ntmps106
  go_wp2_with (first | (go_at_call 112;refine (are_lit B _ [d] 1 ks 0 _ _ _ _ _ _ _ _ _ _ _ _ _ _ _ _ _ _ _ _ _ _ rfl (by omega) HK.out HKL.out hB2 HZ2.out (by first | exact .inl rfl | exact .inr rfl)).mono ?_;rintro ee w3 ⟨rfl,hb3⟩;have HB3:=Lib.hid hb3;clear hb3;rw [HD.out]))
  go_ret
  exact ⟨rfl,HB2.out.trans (HB3.out.mono (by simp;omega))⟩
 ·-- 16
  have HU:Hid (uses (grs rs) ⟨ps,ks,cells,is,res,keep,nodes,entry⟩ bd ⟨16,bop,d,e,a,b,f,cell,imm,args,nx,el⟩↔fits ks bd d 0):=Lib.hid (by unfold uses;rw [if_pos (by simp)];all_goals exact Iff.rfl)
  have HD:Hid (decide (∀ p ∈ [d],fits ks bd p 0)=decide (uses (grs rs) ⟨ps,ks,cells,is,res,keep,nodes,entry⟩ bd ⟨16,bop,d,e,a,b,f,cell,imm,args,nx,el⟩)):=Lib.hid (by rw [decide_eq_decide,HU.out];simp)
  go_enter Tryd.func106,Tryd.ntmps106
  go_wp2_with (first | (go_at_call 112;refine (are_lit B _ [d] 1 ks 0 _ _ _ _ _ _ _ _ _ _ _ _ _ _ _ _ _ _ _ _ _ _ rfl (by omega) HK.out HKL.out hB2 HZ2.out (by first | exact .inl rfl | exact .inr rfl)).mono ?_;rintro ee w3 ⟨rfl,hb3⟩;have HB3:=Lib.hid hb3;clear hb3;rw [HD.out]))
  go_ret
  exact ⟨rfl,HB2.out.trans (HB3.out.mono (by simp;omega))⟩
 ·-- 9
  have HU:Hid (uses (grs rs) ⟨ps,ks,cells,is,res,keep,nodes,entry⟩ bd ⟨9,bop,d,e,a,b,f,cell,imm,args,nx,el⟩↔fits ks bd a 0):=Lib.hid (by unfold uses;rw [if_neg (by simp)];rw [if_neg (by simp)];rw [if_neg (by simp)];rw [if_neg (by simp)];rw [if_neg (by simp)];rw [if_neg (by simp)];rw [if_neg (by simp)];rw [if_neg (by simp)];rw [if_pos (by simp)];all_goals exact Iff.rfl)
  have HD:Hid (decide (∀ p ∈ [a],fits ks bd p 0)=decide (uses (grs rs) ⟨ps,ks,cells,is,res,keep,nodes,entry⟩ bd ⟨9,bop,d,e,a,b,f,cell,imm,args,nx,el⟩)):=Lib.hid (by rw [decide_eq_decide,HU.out];simp)
  go_enter Tryd.func106,Tryd.ntmps106
  go_wp2_with (first | (go_at_call 112;refine (are_lit B _ [a] 1 ks 0 _ _ _ _ _ _ _ _ _ _ _ _ _ _ _ _ _ _ _ _ _ _ rfl (by omega) HK.out HKL.out hB2 HZ2.out (by first | exact .inl rfl | exact .inr rfl)).mono ?_;rintro ee w3 ⟨rfl,hb3⟩;have HB3:=Lib.hid hb3;clear hb3;rw [HD.out]))
  go_ret
  exact ⟨rfl,HB2.out.trans (HB3.out.mono (by simp;omega))⟩
 ·-- 14
  have HU:Hid (uses (grs rs) ⟨ps,ks,cells,is,res,keep,nodes,entry⟩ bd ⟨14,bop,d,e,a,b,f,cell,imm,args,nx,el⟩↔fits ks bd a 0):=Lib.hid (by unfold uses;rw [if_neg (by simp)];rw [if_neg (by simp)];rw [if_neg (by simp)];rw [if_neg (by simp)];rw [if_neg (by simp)];rw [if_neg (by simp)];rw [if_neg (by simp)];rw [if_neg (by simp)];rw [if_pos (by simp)];all_goals exact Iff.rfl)
  have HD:Hid (decide (∀ p ∈ [a],fits ks bd p 0)=decide (uses (grs rs) ⟨ps,ks,cells,is,res,keep,nodes,entry⟩ bd ⟨14,bop,d,e,a,b,f,cell,imm,args,nx,el⟩)):=Lib.hid (by rw [decide_eq_decide,HU.out];simp)
  go_enter Tryd.func106,Tryd.ntmps106
  go_wp2_with (first | (go_at_call 112;refine (are_lit B _ [a] 1 ks 0 _ _ _ _ _ _ _ _ _ _ _ _ _ _ _ _ _ _ _ _ _ _ rfl (by omega) HK.out HKL.out hB2 HZ2.out (by first | exact .inl rfl | exact .inr rfl)).mono ?_;rintro ee w3 ⟨rfl,hb3⟩;have HB3:=Lib.hid hb3;clear hb3;rw [HD.out]))
  go_ret
  exact ⟨rfl,HB2.out.trans (HB3.out.mono (by simp;omega))⟩
 ·-- 17
  have HU:Hid (uses (grs rs) ⟨ps,ks,cells,is,res,keep,nodes,entry⟩ bd ⟨17,bop,d,e,a,b,f,cell,imm,args,nx,el⟩↔fits ks bd a 0):=Lib.hid (by unfold uses;rw [if_neg (by simp)];rw [if_neg (by simp)];rw [if_neg (by simp)];rw [if_neg (by simp)];rw [if_neg (by simp)];rw [if_neg (by simp)];rw [if_neg (by simp)];rw [if_neg (by simp)];rw [if_pos (by simp)];all_goals exact Iff.rfl)
  have HD:Hid (decide (∀ p ∈ [a],fits ks bd p 0)=decide (uses (grs rs) ⟨ps,ks,cells,is,res,keep,nodes,entry⟩ bd ⟨17,bop,d,e,a,b,f,cell,imm,args,nx,el⟩)):=Lib.hid (by rw [decide_eq_decide,HU.out];simp)
  go_enter Tryd.func106,Tryd.ntmps106
  go_wp2_with (first | (go_at_call 112;refine (are_lit B _ [a] 1 ks 0 _ _ _ _ _ _ _ _ _ _ _ _ _ _ _ _ _ _ _ _ _ _ rfl (by omega) HK.out HKL.out hB2 HZ2.out (by first | exact .inl rfl | exact .inr rfl)).mono ?_;rintro ee w3 ⟨rfl,hb3⟩;have HB3:=Lib.hid hb3;clear hb3;rw [HD.out]))
  go_ret
  exact ⟨rfl,HB2.out.trans (HB3.out.mono (by simp;omega))⟩
 ·-- 18
  have HU:Hid (uses (grs rs) ⟨ps,ks,cells,is,res,keep,nodes,entry⟩ bd ⟨18,bop,d,e,a,b,f,cell,imm,args,nx,el⟩↔fits ks bd a 0):=Lib.hid (by unfold uses;rw [if_neg (by simp)];rw [if_neg (by simp)];rw [if_neg (by simp)];rw [if_neg (by simp)];rw [if_neg (by simp)];rw [if_neg (by simp)];rw [if_neg (by simp)];rw [if_neg (by simp)];rw [if_pos (by simp)];all_goals exact Iff.rfl)
  have HD:Hid (decide (∀ p ∈ [a],fits ks bd p 0)=decide (uses (grs rs) ⟨ps,ks,cells,is,res,keep,nodes,entry⟩ bd ⟨18,bop,d,e,a,b,f,cell,imm,args,nx,el⟩)):=Lib.hid (by rw [decide_eq_decide,HU.out];simp)
  go_enter Tryd.func106,Tryd.ntmps106
  go_wp2_with (first | (go_at_call 112;refine (are_lit B _ [a] 1 ks 0 _ _ _ _ _ _ _ _ _ _ _ _ _ _ _ _ _ _ _ _ _ _ rfl (by omega) HK.out HKL.out hB2 HZ2.out (by first | exact .inl rfl | exact .inr rfl)).mono ?_;rintro ee w3 ⟨rfl,hb3⟩;have HB3:=Lib.hid hb3;clear hb3;rw [HD.out]))
  go_ret
  exact ⟨rfl,HB2.out.trans (HB3.out.mono (by simp;omega))⟩
 ·-- 10
  have HD:Hid (decide (uses (grs rs) ⟨ps,ks,cells,is,res,keep,nodes,entry⟩ bd ⟨10,bop,d,e,a,b,f,cell,imm,args,nx,el⟩)=true):=Lib.hid (by rw [decide_eq_true_eq];unfold uses;rw [if_neg (by simp)];rw [if_neg (by simp)];rw [if_neg (by simp)];rw [if_neg (by simp)];rw [if_neg (by simp)];rw [if_neg (by simp)];rw [if_neg (by simp)];rw [if_neg (by simp)];rw [if_neg (by simp)];rw [if_pos (by simp)];all_goals exact trivial)
  go_enter Tryd.func106,Tryd.ntmps106
  go_wp2
  go_ret
  exact ⟨by rw [HD.out];rfl,HB2.out⟩
theorem uses_b (B:Nat) (rs:List RG) (ps ks is:List Int) (nodes:List Nd) (fo:Option Addr) (nF cF:Nat) (po ko io no:Option Addr) (nP pc nK kc nI ic nN nc:Nat) (cells keep entry:Int) (res bd:Bool) (op bop d e a b f cell imm:Int) (args:List Int) (nx el:Int) (ao:Option Addr) (nA ac:Nat) (w:World) (HF0:RdP w B fo nF rs) (hk:Reads w B 1 ko nK (u8c ks)) (hkl:ks.length=nK) (ha:Reads w B 1 ao nA (i64c args)) (hal:args.length=nA) (hnA:nA*8≤140737488351232) (hB:B≤w.heap.size)
  (hh:bd=false→∀ g ∈ grs rs,headHolds g false) (hop:op=4∨op=5∨op=6∨op=15∨op=3) :
  Calls Tryd.prog 106 #[.agg #[.slice fo nF cF,.slice po nP pc,.slice ko nK kc,.int .i64 cells,.slice io nI ic,.bool res,.int .i64 keep,.slice no nN nc,.int .i64 entry,.bool bd],.agg #[.int .u8 op,.int .u8 bop,.int .i64 d,.int .i64 e,.int .i64 a,.int .i64 b,.int .i64 f,.int .i64 cell,.int .u64 imm,.slice ao nA ac,.int .i64 nx,.int .i64 el]] w fun ee w'=>ee=.returned (.bool (decide (uses (grs rs) ⟨ps,ks,cells,is,res,keep,nodes,entry⟩ bd ⟨op,bop,d,e,a,b,f,cell,imm,args,nx,el⟩)))∧Below w.heap.size w w':=by
 have HB2:Hid (Below w.heap.size w ((w.alloc (.cells #[.slice fo nF cF,.slice po nP pc,.slice ko nK kc,.int .i64 cells,.slice io nI ic,.bool res,.int .i64 keep,.slice no nN nc,.int .i64 entry,.bool bd] 151)).alloc (.cells #[.int .u8 op,.int .u8 bop,.int .i64 d,.int .i64 e,.int .i64 a,.int .i64 b,.int .i64 f,.int .i64 cell,.int .u64 imm,.slice ao nA ac,.int .i64 nx,.int .i64 el] 60))):=((Below.refl _ _).alloc (Nat.le_refl _) _).alloc (by simp) _
 have HCB:Hid (Blk ((w.alloc (.cells #[.slice fo nF cF,.slice po nP pc,.slice ko nK kc,.int .i64 cells,.slice io nI ic,.bool res,.int .i64 keep,.slice no nN nc,.int .i64 entry,.bool bd] 151)).alloc (.cells #[.int .u8 op,.int .u8 bop,.int .i64 d,.int .i64 e,.int .i64 a,.int .i64 b,.int .i64 f,.int .i64 cell,.int .u64 imm,.slice ao nA ac,.int .i64 nx,.int .i64 el] 60)) w.heap.size 151 #[.slice fo nF cF,.slice po nP pc,.slice ko nK kc,.int .i64 cells,.slice io nI ic,.bool res,.int .i64 keep,.slice no nN nc,.int .i64 entry,.bool bd]):=Lib.hid ((Blk.new w 151 #[.slice fo nF cF,.slice po nP pc,.slice ko nK kc,.int .i64 cells,.slice io nI ic,.bool res,.int .i64 keep,.slice no nN nc,.int .i64 entry,.bool bd]).alloc _)
 have HNB:Hid (Blk ((w.alloc (.cells #[.slice fo nF cF,.slice po nP pc,.slice ko nK kc,.int .i64 cells,.slice io nI ic,.bool res,.int .i64 keep,.slice no nN nc,.int .i64 entry,.bool bd] 151)).alloc (.cells #[.int .u8 op,.int .u8 bop,.int .i64 d,.int .i64 e,.int .i64 a,.int .i64 b,.int .i64 f,.int .i64 cell,.int .u64 imm,.slice ao nA ac,.int .i64 nx,.int .i64 el] 60)) (w.heap.size+1) 60 #[.int .u8 op,.int .u8 bop,.int .i64 d,.int .i64 e,.int .i64 a,.int .i64 b,.int .i64 f,.int .i64 cell,.int .u64 imm,.slice ao nA ac,.int .i64 nx,.int .i64 el]):=Lib.hid (by
  have:=Blk.new (w.alloc (.cells #[.slice fo nF cF,.slice po nP pc,.slice ko nK kc,.int .i64 cells,.slice io nI ic,.bool res,.int .i64 keep,.slice no nN nc,.int .i64 entry,.bool bd] 151)) 60 #[.int .u8 op,.int .u8 bop,.int .i64 d,.int .i64 e,.int .i64 a,.int .i64 b,.int .i64 f,.int .i64 cell,.int .u64 imm,.slice ao nA ac,.int .i64 nx,.int .i64 el]
  rwa [show (w.alloc (.cells #[.slice fo nF cF,.slice po nP pc,.slice ko nK kc,.int .i64 cells,.slice io nI ic,.bool res,.int .i64 keep,.slice no nN nc,.int .i64 entry,.bool bd] 151)).heap.size=w.heap.size+1 by simp] at this)
 have HF:=Lib.hid (HF0.below (HB2.out.mono hB))
 have HK:=Lib.hid (hk.below (HB2.out.mono hB))
 have HKL:=Lib.hid hkl
 have HA:=Lib.hid (ha.below (HB2.out.mono hB))
 have HAL:=Lib.hid hal
 have HH:=Lib.hid hh
 have HGL:Hid ((grs rs).length=nF):=Lib.hid (by rw [length_grs,HF0.len])
 have hB2:B≤((w.alloc (.cells #[.slice fo nF cF,.slice po nP pc,.slice ko nK kc,.int .i64 cells,.slice io nI ic,.bool res,.int .i64 keep,.slice no nN nc,.int .i64 entry,.bool bd] 151)).alloc (.cells #[.int .u8 op,.int .u8 bop,.int .i64 d,.int .i64 e,.int .i64 a,.int .i64 b,.int .i64 f,.int .i64 cell,.int .u64 imm,.slice ao nA ac,.int .i64 nx,.int .i64 el] 60)).heap.size:=by simp;omega
 have HZ2:Hid (w.heap.size+1+1=((w.alloc (.cells #[.slice fo nF cF,.slice po nP pc,.slice ko nK kc,.int .i64 cells,.slice io nI ic,.bool res,.int .i64 keep,.slice no nN nc,.int .i64 entry,.bool bd] 151)).alloc (.cells #[.int .u8 op,.int .u8 bop,.int .i64 d,.int .i64 e,.int .i64 a,.int .i64 b,.int .i64 f,.int .i64 cell,.int .u64 imm,.slice ao nA ac,.int .i64 nx,.int .i64 el] 60)).heap.size):=Lib.hid (by simp)
 clear hk hkl HF0 ha hal hh
 rcases hop with rfl | rfl | rfl | rfl | rfl
 ·-- 4
  have HU:Hid (uses (grs rs) ⟨ps,ks,cells,is,res,keep,nodes,entry⟩ bd ⟨4,bop,d,e,a,b,f,cell,imm,args,nx,el⟩↔isOne cell cells∧fits ks bd d 0):=Lib.hid (by unfold uses;rw [if_neg (by simp)];rw [if_neg (by simp)];rw [if_neg (by simp)];rw [if_pos (by simp)];all_goals exact Iff.rfl)
  by_cases h1:isOne cell cells
  rotate_left
  ·have H1:Hid (decide (isOne cell cells)=false):=Lib.hid (decide_eq_false (by simpa using h1))
   have HD:Hid (decide (uses (grs rs) ⟨ps,ks,cells,is,res,keep,nodes,entry⟩ bd ⟨4,bop,d,e,a,b,f,cell,imm,args,nx,el⟩)=false):=Lib.hid (by rw [decide_eq_false_iff_not,HU.out];rintro ⟨h,_⟩;exact h1 h)
   clear h1
   go_enter Tryd.func106,Tryd.ntmps106
   go_wp2_with (first | (go_at_call 114;refine (hasCell_any _ _ _ _ _ _ _ _ _ _ _ _ _ _ _ _ _ _ _ _ _ _ _ _ _ _ _ _ _ args _ _ _ _ _ _).mono ?_;rintro ee w3 ⟨rfl,hb3⟩;have HB3:=Lib.hid hb3;clear hb3;rw [H1.out]))
   go_ret
   exact ⟨by rw [HD.out];rfl,HB2.out.trans (HB3.out.mono (by simp;omega))⟩
  ·have H1:Hid (decide (isOne cell cells)=true):=Lib.hid (decide_eq_true (by simpa using h1))
   have HF1:=Lib.hid h1
   have HD:Hid (decide (∀ p ∈ [d],fits ks bd p 0)=decide (uses (grs rs) ⟨ps,ks,cells,is,res,keep,nodes,entry⟩ bd ⟨4,bop,d,e,a,b,f,cell,imm,args,nx,el⟩)):=Lib.hid (by rw [decide_eq_decide,HU.out];exact ⟨fun h=>⟨h1,by simpa using h⟩,fun h=>by simpa using h.2⟩)
   clear h1
   go_enter Tryd.func106,Tryd.ntmps106
   go_wp2_with (first | (go_at_call 112;refine (are_lit B _ [d] 1 ks 0 _ _ _ _ _ _ _ _ _ _ _ _ _ _ _ _ _ _ _ _ w3 _ rfl (by omega) HK3.out HKL.out hB3 (by first | rfl | simp) (by first | exact .inl rfl | exact .inr rfl)).mono ?_;rintro ee w4 ⟨rfl,hb4⟩;have HB4:=Lib.hid hb4;clear hb4;rw [HD.out]) | (go_at_call 114;refine (hasCell_any _ _ _ _ _ _ _ _ _ _ _ _ _ _ _ _ _ _ _ _ _ _ _ _ _ _ _ _ _ args _ _ _ _ _ _).mono ?_;rintro ee w3 ⟨rfl,hb3⟩;have HC3:=HCB.out.below hb3 HCB.out.lt;have HN3:=HNB.out.below hb3 HNB.out.lt;have c0:w3.cell? ⟨w.heap.size,0,none⟩=some (.slice fo nF cF):=HC3.cell 0;have c1:w3.cell? ⟨w.heap.size,1,none⟩=some (.slice po nP pc):=HC3.cell 1;have c2:w3.cell? ⟨w.heap.size,2,none⟩=some (.slice ko nK kc):=HC3.cell 2;have c3:w3.cell? ⟨w.heap.size,3,none⟩=some (.int .i64 cells):=HC3.cell 3;have c4:w3.cell? ⟨w.heap.size,4,none⟩=some (.slice io nI ic):=HC3.cell 4;have c5:w3.cell? ⟨w.heap.size,5,none⟩=some (.bool res):=HC3.cell 5;have c6:w3.cell? ⟨w.heap.size,6,none⟩=some (.int .i64 keep):=HC3.cell 6;have c7:w3.cell? ⟨w.heap.size,7,none⟩=some (.slice no nN nc):=HC3.cell 7;have c8:w3.cell? ⟨w.heap.size,8,none⟩=some (.int .i64 entry):=HC3.cell 8;have c9:w3.cell? ⟨w.heap.size,9,none⟩=some (.bool bd):=HC3.cell 9;have n2:w3.cell? ⟨w.heap.size+1,2,none⟩=some (.int .i64 d):=HN3.cell 2;have n4:w3.cell? ⟨w.heap.size+1,4,none⟩=some (.int .i64 a):=HN3.cell 4;have n5:w3.cell? ⟨w.heap.size+1,5,none⟩=some (.int .i64 b):=HN3.cell 5;have HK3:=Lib.hid (HK.out.below (hb3.mono hB2));have hB3:B≤w3.heap.size:=Nat.le_trans hB2 hb3.size;have hz3:w.heap.size+1<w3.heap.size:=Nat.lt_of_lt_of_le (by simp) hb3.size;have HB3:=Lib.hid hb3;clear hb3 HC3 HN3;rw [H1.out]))
   go_ret
   exact ⟨rfl,HB2.out.trans ((HB3.out.trans (HB4.out.mono HB3.out.size)).mono (by simp;omega))⟩
 ·-- 5
  have HU:Hid (uses (grs rs) ⟨ps,ks,cells,is,res,keep,nodes,entry⟩ bd ⟨5,bop,d,e,a,b,f,cell,imm,args,nx,el⟩↔isOne cell cells∧fits ks bd a 0):=Lib.hid (by unfold uses;rw [if_neg (by simp)];rw [if_neg (by simp)];rw [if_neg (by simp)];rw [if_neg (by simp)];rw [if_pos (by simp)];all_goals exact Iff.rfl)
  by_cases h1:isOne cell cells
  rotate_left
  ·have H1:Hid (decide (isOne cell cells)=false):=Lib.hid (decide_eq_false (by simpa using h1))
   have HD:Hid (decide (uses (grs rs) ⟨ps,ks,cells,is,res,keep,nodes,entry⟩ bd ⟨5,bop,d,e,a,b,f,cell,imm,args,nx,el⟩)=false):=Lib.hid (by rw [decide_eq_false_iff_not,HU.out];rintro ⟨h,_⟩;exact h1 h)
   clear h1
   go_enter Tryd.func106,Tryd.ntmps106
   go_wp2_with (first | (go_at_call 114;refine (hasCell_any _ _ _ _ _ _ _ _ _ _ _ _ _ _ _ _ _ _ _ _ _ _ _ _ _ _ _ _ _ args _ _ _ _ _ _).mono ?_;rintro ee w3 ⟨rfl,hb3⟩;have HB3:=Lib.hid hb3;clear hb3;rw [H1.out]))
   go_ret
   exact ⟨by rw [HD.out];rfl,HB2.out.trans (HB3.out.mono (by simp;omega))⟩
  ·have H1:Hid (decide (isOne cell cells)=true):=Lib.hid (decide_eq_true (by simpa using h1))
   have HF1:=Lib.hid h1
   have HD:Hid (decide (∀ p ∈ [a],fits ks bd p 0)=decide (uses (grs rs) ⟨ps,ks,cells,is,res,keep,nodes,entry⟩ bd ⟨5,bop,d,e,a,b,f,cell,imm,args,nx,el⟩)):=Lib.hid (by rw [decide_eq_decide,HU.out];exact ⟨fun h=>⟨h1,by simpa using h⟩,fun h=>by simpa using h.2⟩)
   clear h1
   go_enter Tryd.func106,Tryd.ntmps106
   go_wp2_with (first | (go_at_call 112;refine (are_lit B _ [a] 1 ks 0 _ _ _ _ _ _ _ _ _ _ _ _ _ _ _ _ _ _ _ _ w3 _ rfl (by omega) HK3.out HKL.out hB3 (by first | rfl | simp) (by first | exact .inl rfl | exact .inr rfl)).mono ?_;rintro ee w4 ⟨rfl,hb4⟩;have HB4:=Lib.hid hb4;clear hb4;rw [HD.out]) | (go_at_call 114;refine (hasCell_any _ _ _ _ _ _ _ _ _ _ _ _ _ _ _ _ _ _ _ _ _ _ _ _ _ _ _ _ _ args _ _ _ _ _ _).mono ?_;rintro ee w3 ⟨rfl,hb3⟩;have HC3:=HCB.out.below hb3 HCB.out.lt;have HN3:=HNB.out.below hb3 HNB.out.lt;have c0:w3.cell? ⟨w.heap.size,0,none⟩=some (.slice fo nF cF):=HC3.cell 0;have c1:w3.cell? ⟨w.heap.size,1,none⟩=some (.slice po nP pc):=HC3.cell 1;have c2:w3.cell? ⟨w.heap.size,2,none⟩=some (.slice ko nK kc):=HC3.cell 2;have c3:w3.cell? ⟨w.heap.size,3,none⟩=some (.int .i64 cells):=HC3.cell 3;have c4:w3.cell? ⟨w.heap.size,4,none⟩=some (.slice io nI ic):=HC3.cell 4;have c5:w3.cell? ⟨w.heap.size,5,none⟩=some (.bool res):=HC3.cell 5;have c6:w3.cell? ⟨w.heap.size,6,none⟩=some (.int .i64 keep):=HC3.cell 6;have c7:w3.cell? ⟨w.heap.size,7,none⟩=some (.slice no nN nc):=HC3.cell 7;have c8:w3.cell? ⟨w.heap.size,8,none⟩=some (.int .i64 entry):=HC3.cell 8;have c9:w3.cell? ⟨w.heap.size,9,none⟩=some (.bool bd):=HC3.cell 9;have n2:w3.cell? ⟨w.heap.size+1,2,none⟩=some (.int .i64 d):=HN3.cell 2;have n4:w3.cell? ⟨w.heap.size+1,4,none⟩=some (.int .i64 a):=HN3.cell 4;have n5:w3.cell? ⟨w.heap.size+1,5,none⟩=some (.int .i64 b):=HN3.cell 5;have HK3:=Lib.hid (HK.out.below (hb3.mono hB2));have hB3:B≤w3.heap.size:=Nat.le_trans hB2 hb3.size;have hz3:w.heap.size+1<w3.heap.size:=Nat.lt_of_lt_of_le (by simp) hb3.size;have HB3:=Lib.hid hb3;clear hb3 HC3 HN3;rw [H1.out]))
   go_ret
   exact ⟨rfl,HB2.out.trans ((HB3.out.trans (HB4.out.mono HB3.out.size)).mono (by simp;omega))⟩
 ·-- 6
  have HU:Hid (uses (grs rs) ⟨ps,ks,cells,is,res,keep,nodes,entry⟩ bd ⟨6,bop,d,e,a,b,f,cell,imm,args,nx,el⟩↔isOne cell cells∧fits ks bd d 1):=Lib.hid (by unfold uses;rw [if_neg (by simp)];rw [if_neg (by simp)];rw [if_neg (by simp)];rw [if_neg (by simp)];rw [if_neg (by simp)];rw [if_pos (by simp)];all_goals exact Iff.rfl)
  by_cases h1:isOne cell cells
  rotate_left
  ·have H1:Hid (decide (isOne cell cells)=false):=Lib.hid (decide_eq_false (by simpa using h1))
   have HD:Hid (decide (uses (grs rs) ⟨ps,ks,cells,is,res,keep,nodes,entry⟩ bd ⟨6,bop,d,e,a,b,f,cell,imm,args,nx,el⟩)=false):=Lib.hid (by rw [decide_eq_false_iff_not,HU.out];rintro ⟨h,_⟩;exact h1 h)
   clear h1
   go_enter Tryd.func106,Tryd.ntmps106
   go_wp2_with (first | (go_at_call 114;refine (hasCell_any _ _ _ _ _ _ _ _ _ _ _ _ _ _ _ _ _ _ _ _ _ _ _ _ _ _ _ _ _ args _ _ _ _ _ _).mono ?_;rintro ee w3 ⟨rfl,hb3⟩;have HB3:=Lib.hid hb3;clear hb3;rw [H1.out]))
   go_ret
   exact ⟨by rw [HD.out];rfl,HB2.out.trans (HB3.out.mono (by simp;omega))⟩
  ·have H1:Hid (decide (isOne cell cells)=true):=Lib.hid (decide_eq_true (by simpa using h1))
   have HF1:=Lib.hid h1
   have HD:Hid (decide (∀ p ∈ [d],fits ks bd p 1)=decide (uses (grs rs) ⟨ps,ks,cells,is,res,keep,nodes,entry⟩ bd ⟨6,bop,d,e,a,b,f,cell,imm,args,nx,el⟩)):=Lib.hid (by rw [decide_eq_decide,HU.out];exact ⟨fun h=>⟨h1,by simpa using h⟩,fun h=>by simpa using h.2⟩)
   clear h1
   go_enter Tryd.func106,Tryd.ntmps106
   go_wp2_with (first | (go_at_call 112;refine (are_lit B _ [d] 1 ks 1 _ _ _ _ _ _ _ _ _ _ _ _ _ _ _ _ _ _ _ _ w3 _ rfl (by omega) HK3.out HKL.out hB3 (by first | rfl | simp) (by first | exact .inl rfl | exact .inr rfl)).mono ?_;rintro ee w4 ⟨rfl,hb4⟩;have HB4:=Lib.hid hb4;clear hb4;rw [HD.out]) | (go_at_call 114;refine (hasCell_any _ _ _ _ _ _ _ _ _ _ _ _ _ _ _ _ _ _ _ _ _ _ _ _ _ _ _ _ _ args _ _ _ _ _ _).mono ?_;rintro ee w3 ⟨rfl,hb3⟩;have HC3:=HCB.out.below hb3 HCB.out.lt;have HN3:=HNB.out.below hb3 HNB.out.lt;have c0:w3.cell? ⟨w.heap.size,0,none⟩=some (.slice fo nF cF):=HC3.cell 0;have c1:w3.cell? ⟨w.heap.size,1,none⟩=some (.slice po nP pc):=HC3.cell 1;have c2:w3.cell? ⟨w.heap.size,2,none⟩=some (.slice ko nK kc):=HC3.cell 2;have c3:w3.cell? ⟨w.heap.size,3,none⟩=some (.int .i64 cells):=HC3.cell 3;have c4:w3.cell? ⟨w.heap.size,4,none⟩=some (.slice io nI ic):=HC3.cell 4;have c5:w3.cell? ⟨w.heap.size,5,none⟩=some (.bool res):=HC3.cell 5;have c6:w3.cell? ⟨w.heap.size,6,none⟩=some (.int .i64 keep):=HC3.cell 6;have c7:w3.cell? ⟨w.heap.size,7,none⟩=some (.slice no nN nc):=HC3.cell 7;have c8:w3.cell? ⟨w.heap.size,8,none⟩=some (.int .i64 entry):=HC3.cell 8;have c9:w3.cell? ⟨w.heap.size,9,none⟩=some (.bool bd):=HC3.cell 9;have n2:w3.cell? ⟨w.heap.size+1,2,none⟩=some (.int .i64 d):=HN3.cell 2;have n4:w3.cell? ⟨w.heap.size+1,4,none⟩=some (.int .i64 a):=HN3.cell 4;have n5:w3.cell? ⟨w.heap.size+1,5,none⟩=some (.int .i64 b):=HN3.cell 5;have HK3:=Lib.hid (HK.out.below (hb3.mono hB2));have hB3:B≤w3.heap.size:=Nat.le_trans hB2 hb3.size;have hz3:w.heap.size+1<w3.heap.size:=Nat.lt_of_lt_of_le (by simp) hb3.size;have HB3:=Lib.hid hb3;clear hb3 HC3 HN3;rw [H1.out]))
   go_ret
   exact ⟨rfl,HB2.out.trans ((HB3.out.trans (HB4.out.mono HB3.out.size)).mono (by simp;omega))⟩
 ·-- 15
  have HU:Hid (uses (grs rs) ⟨ps,ks,cells,is,res,keep,nodes,entry⟩ bd ⟨15,bop,d,e,a,b,f,cell,imm,args,nx,el⟩↔d≠e∧fits ks bd d 0∧fits ks bd e 0):=Lib.hid (by unfold uses;rw [if_neg (by simp)];rw [if_neg (by simp)];rw [if_neg (by simp)];rw [if_neg (by simp)];rw [if_neg (by simp)];rw [if_neg (by simp)];rw [if_neg (by simp)];rw [if_neg (by simp)];rw [if_neg (by simp)];rw [if_neg (by simp)];rw [if_neg (by simp)];rw [if_neg (by simp)];rw [if_neg (by simp)];rw [if_pos (by simp)];all_goals exact Iff.rfl)
  by_cases h1:d=e
  ·have g:(d != e)=false:=by simpa using h1
   have HD:Hid (decide (uses (grs rs) ⟨ps,ks,cells,is,res,keep,nodes,entry⟩ bd ⟨15,bop,d,e,a,b,f,cell,imm,args,nx,el⟩)=false):=Lib.hid (by rw [decide_eq_false_iff_not,HU.out];rintro ⟨h,_⟩;exact h h1)
   clear h1
   go_enter Tryd.func106,Tryd.ntmps106
   go_wp2
   go_ret
   exact ⟨by rw [HD.out];rfl,HB2.out⟩
  ·have g:(d != e)=true:=by simpa using h1
   have HD:Hid (decide (∀ p ∈ [d,e],fits ks bd p 0)=decide (uses (grs rs) ⟨ps,ks,cells,is,res,keep,nodes,entry⟩ bd ⟨15,bop,d,e,a,b,f,cell,imm,args,nx,el⟩)):=Lib.hid (by rw [decide_eq_decide,HU.out];simp [h1])
   clear h1
   go_enter Tryd.func106,Tryd.ntmps106
   go_wp2_with (first | (go_at_call 112;refine (are_lit B _ [d,e] 2 ks 0 _ _ _ _ _ _ _ _ _ _ _ _ _ _ _ _ _ _ _ _ _ _ rfl (by omega) HK.out HKL.out hB2 HZ2.out (by first | exact .inl rfl | exact .inr rfl)).mono ?_;rintro ee w3 ⟨rfl,hb3⟩;have HB3:=Lib.hid hb3;clear hb3;rw [HD.out]))
   go_ret
   exact ⟨rfl,HB2.out.trans (HB3.out.mono (by simp;omega))⟩
 ·-- 3
  have HU:Hid (uses (grs rs) ⟨ps,ks,cells,is,res,keep,nodes,entry⟩ bd ⟨3,bop,d,e,a,b,f,cell,imm,args,nx,el⟩↔(7≤bop∧bop≤20)∧fits ks bd d 0∧fits ks bd a 0∧fits ks bd b 0):=Lib.hid (by unfold uses;rw [if_neg (by simp)];rw [if_neg (by simp)];rw [if_pos (by simp)];all_goals exact Iff.rfl)
  by_cases h1:7≤bop∧bop≤20
  rotate_left
  ·have HD:Hid (decide (uses (grs rs) ⟨ps,ks,cells,is,res,keep,nodes,entry⟩ bd ⟨3,bop,d,e,a,b,f,cell,imm,args,nx,el⟩)=false):=Lib.hid (by rw [decide_eq_false_iff_not,HU.out];rintro ⟨h,_⟩;exact h1 h)
   have g:decide (bop≥7)=false∨decide (bop≥7)=true∧decide (bop≤20)=false:=by simp;omega
   clear h1
   rcases g with g | ⟨g,g'⟩
   all_goals
    go_enter Tryd.func106,Tryd.ntmps106
    go_wp2
    go_ret
    exact ⟨by rw [HD.out];rfl,HB2.out⟩
  ·have g:decide (bop≥7)=true:=by simp;omega
   have g':decide (bop≤20)=true:=by simp;omega
   have HD:Hid (decide (∀ p ∈ [d,a,b],fits ks bd p 0)=decide (uses (grs rs) ⟨ps,ks,cells,is,res,keep,nodes,entry⟩ bd ⟨3,bop,d,e,a,b,f,cell,imm,args,nx,el⟩)):=Lib.hid (by rw [decide_eq_decide,HU.out];simp [h1])
   clear h1
   go_enter Tryd.func106,Tryd.ntmps106
   go_wp2_with (first | (go_at_call 112;refine (are_lit B _ [d,a,b] 3 ks 0 _ _ _ _ _ _ _ _ _ _ _ _ _ _ _ _ _ _ _ _ _ _ rfl (by omega) HK.out HKL.out hB2 HZ2.out (by first | exact .inl rfl | exact .inr rfl)).mono ?_;rintro ee w3 ⟨rfl,hb3⟩;have HB3:=Lib.hid hb3;clear hb3;rw [HD.out]))
   go_ret
   exact ⟨rfl,HB2.out.trans (HB3.out.mono (by simp;omega))⟩
end Go.Proofs.YtepkogfiojkcpaaDoor
