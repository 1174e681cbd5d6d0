/-
  Texts of one seat, one behind the other: Rna.
-/
import Derived.Test.YtedmcfaghfgpoaaGreatDoorMA24
import Derived.Test.YtedmcfaghfgpoaaGreatDoorMA25

set_option linter.unusedVariables false
set_option linter.unusedSimpArgs false
set_option maxRecDepth 100000
set_option maxHeartbeats 51200000
namespace Go.Proofs.YtedmcfaghfgpoaaGreatDoor
open Go.ChangeShapes Go.WideShapes Go.ChangeAt Go.RowKit
theorem rnode_1 (B:Nat) (rs:List RG) (ps ks is:List Int) (nodes:List Nd) (fo:Option Addr) (nF cF:Nat) (po ko io no:Option Addr) (nP pc nK kc nI ic nN nc:Nat) (cells keep entry:Int) (res bd:Bool) (bop d e a b f cell imm:Int) (args:List Int) (nx el:Int) (ao:Option Addr) (nA ac:Nat) (w:World)
  (HF0:RdP w B fo nF rs) (hk:Reads w B 1 ko nK (u8c ks)) (hkl:ks.length=nK) (hnK:nK≤140737488351232) (ha:Reads w B 1 ao nA (i64c args)) (hal:args.length=nA) (hnA:nA*8≤140737488351232) (hB:B≤w.heap.size) (hk1:∀ k ∈ ks,k=0∨k=1)
  (hh:∀ g ∈ grs rs,headHolds g bd) (hnl:nodes.length=nN) :
  Calls Tryz.prog 17 #[.slice fo nF cF,.agg #[.slice po nP pc,.slice ko nK kc,.int .i64 cells,.slice io nI ic,.bool res,.int .i64 keep,.slice no nN nc,.int .i64 entry],.bool bd,.agg #[.int .u8 1,.int .u8 bop,.int .i64 d,.int .i64 e,.int .i64 a,.int .i64 b,.int .i64 f,.int .i64 cell,.int .u64 imm,.slice ao nA ac,.int .i64 nx,.int .i64 el]] w fun ee w'=>ee=.returned (.bool (decide (nodeHolds (grs rs) ⟨ps,ks,cells,is,res,keep,nodes,entry⟩ bd ⟨1,bop,d,e,a,b,f,cell,imm,args,nx,el⟩)))∧Below w.heap.size w w':=by
 have HB2:Hid (Below w.heap.size w ((w.alloc (.cells #[.slice po nP pc,.slice ko nK kc,.int .i64 cells,.slice io nI ic,.bool res,.int .i64 keep,.slice no nN nc,.int .i64 entry] 35)).alloc (.cells #[.int .u8 1,.int .u8 bop,.int .i64 d,.int .i64 e,.int .i64 a,.int .i64 b,.int .i64 f,.int .i64 cell,.int .u64 imm,.slice ao nA ac,.int .i64 nx,.int .i64 el] 47))):=((Below.refl _ _).alloc (Nat.le_refl _) _).alloc (by simp) _
 have hB2:B≤((w.alloc (.cells #[.slice po nP pc,.slice ko nK kc,.int .i64 cells,.slice io nI ic,.bool res,.int .i64 keep,.slice no nN nc,.int .i64 entry] 35)).alloc (.cells #[.int .u8 1,.int .u8 bop,.int .i64 d,.int .i64 e,.int .i64 a,.int .i64 b,.int .i64 f,.int .i64 cell,.int .u64 imm,.slice ao nA ac,.int .i64 nx,.int .i64 el] 47)).heap.size:=by simp;omega
 have HG:Hid (Blk ((w.alloc (.cells #[.slice po nP pc,.slice ko nK kc,.int .i64 cells,.slice io nI ic,.bool res,.int .i64 keep,.slice no nN nc,.int .i64 entry] 35)).alloc (.cells #[.int .u8 1,.int .u8 bop,.int .i64 d,.int .i64 e,.int .i64 a,.int .i64 b,.int .i64 f,.int .i64 cell,.int .u64 imm,.slice ao nA ac,.int .i64 nx,.int .i64 el] 47)) w.heap.size 35 #[.slice po nP pc,.slice ko nK kc,.int .i64 cells,.slice io nI ic,.bool res,.int .i64 keep,.slice no nN nc,.int .i64 entry]):=lh ((Blk.new w _ _).alloc _)
 have HN:Hid (Blk ((w.alloc (.cells #[.slice po nP pc,.slice ko nK kc,.int .i64 cells,.slice io nI ic,.bool res,.int .i64 keep,.slice no nN nc,.int .i64 entry] 35)).alloc (.cells #[.int .u8 1,.int .u8 bop,.int .i64 d,.int .i64 e,.int .i64 a,.int .i64 b,.int .i64 f,.int .i64 cell,.int .u64 imm,.slice ao nA ac,.int .i64 nx,.int .i64 el] 47)) (w.heap.size+1) 47 #[.int .u8 1,.int .u8 bop,.int .i64 d,.int .i64 e,.int .i64 a,.int .i64 b,.int .i64 f,.int .i64 cell,.int .u64 imm,.slice ao nA ac,.int .i64 nx,.int .i64 el]):=lh (blk_2nd w _ _ _ _)
 have HK:=lh (hk.below (HB2.out.mono hB))
 have HF:=lh (HF0.below (HB2.out.mono hB))
 have HA:=lh (ha.below (HB2.out.mono hB))
 have HKL:=lh hkl
 have HAL:=lh hal
 have HH:=lh hh
 have HNL:=lh hnl
 have HK1:=lh hk1
 have HGL:Hid ((grs rs).length=nF):=lh (by rw [length_grs,HF0.len])
 have HX:Hid (nodeHolds (grs rs) ⟨ps,ks,cells,is,res,keep,nodes,entry⟩ bd ⟨1,bop,d,e,a,b,f,cell,imm,args,nx,el⟩↔(∀ x ∈ nextsOf ⟨1,bop,d,e,a,b,f,cell,imm,args,nx,el⟩,isOne x nN)∧(∀ i,i<4→asked ks bd ((wantOf 1).getD i 45) ([d,e,a,b].getD i 0))∧restOf (grs rs) ⟨ps,ks,cells,is,res,keep,nodes,entry⟩ bd ⟨1,bop,d,e,a,b,f,cell,imm,args,nx,el⟩):=lh (by
  have h:=holds_split (gs:=grs rs) (g:=⟨ps,ks,cells,is,res,keep,nodes,entry⟩) (bd:=bd) (n:=⟨1,bop,d,e,a,b,f,cell,imm,args,nx,el⟩) hk1 (by show (1:Int)≤1;decide) (by show (1:Int)≤18;decide)
  rw [show (⟨ps,ks,cells,is,res,keep,nodes,entry⟩:Gr).nodes.length=nN from hnl] at h
  exact h)
 have hln:=nexts_lenC ⟨1,bop,d,e,a,b,f,cell,imm,args,nx,el⟩
 obtain ⟨L,hL⟩:∃ L,L=nextsOf ⟨1,bop,d,e,a,b,f,cell,imm,args,nx,el⟩:=⟨_,rfl⟩
 rw [← hL] at HX hln
 have HL:=lh hL
 have HBW:Hid (Below ((w.alloc (.cells #[.slice po nP pc,.slice ko nK kc,.int .i64 cells,.slice io nI ic,.bool res,.int .i64 keep,.slice no nN nc,.int .i64 entry] 35)).alloc (.cells #[.int .u8 1,.int .u8 bop,.int .i64 d,.int .i64 e,.int .i64 a,.int .i64 b,.int .i64 f,.int .i64 cell,.int .u64 imm,.slice ao nA ac,.int .i64 nx,.int .i64 el] 47)).heap.size ((w.alloc (.cells #[.slice po nP pc,.slice ko nK kc,.int .i64 cells,.slice io nI ic,.bool res,.int .i64 keep,.slice no nN nc,.int .i64 entry] 35)).alloc (.cells #[.int .u8 1,.int .u8 bop,.int .i64 d,.int .i64 e,.int .i64 a,.int .i64 b,.int .i64 f,.int .i64 cell,.int .u64 imm,.slice ao nA ac,.int .i64 nx,.int .i64 el] 47)) ((w.alloc (.cells #[.slice po nP pc,.slice ko nK kc,.int .i64 cells,.slice io nI ic,.bool res,.int .i64 keep,.slice no nN nc,.int .i64 entry] 35)).alloc (.cells #[.int .u8 1,.int .u8 bop,.int .i64 d,.int .i64 e,.int .i64 a,.int .i64 b,.int .i64 f,.int .i64 cell,.int .u64 imm,.slice ao nA ac,.int .i64 nx,.int .i64 el] 47))):=lh (Below.refl _ _)
 obtain ⟨W2,hW2⟩:∃ W,W=((w.alloc (.cells #[.slice po nP pc,.slice ko nK kc,.int .i64 cells,.slice io nI ic,.bool res,.int .i64 keep,.slice no nN nc,.int .i64 entry] 35)).alloc (.cells #[.int .u8 1,.int .u8 bop,.int .i64 d,.int .i64 e,.int .i64 a,.int .i64 b,.int .i64 f,.int .i64 cell,.int .u64 imm,.slice ao nA ac,.int .i64 nx,.int .i64 el] 47)):=⟨_,rfl⟩
 have HW2:=lh hW2
 have HZ2:Hid (w.heap.size≤W2.heap.size):=lh (by rw [hW2];exact HB2.out.size)
 rw [← hW2] at HB2 hB2 HG HN HK HF HA HBW
 clear HF0 hk hkl ha hal hh hnl hk1 hL hW2
 go_enter Tryz.func17,Tryz.ntmps17
 go_wp2_with (first
  | (go_at_call 33;rw [← HW2.out];refine (rnext_any 1 bop d e a b f cell imm args nx el ao nA ac _ (by decide) (by decide)).mono ?_;rintro ee w4 ⟨A4,c4,rfl,hr4,hc4,hb4⟩;rw [← HL.out] at hr4 ⊢;have HR4:=lh hr4;have HBW:=lh (HBW.out.trans (hb4.mono HBW.out.size));have HG:=lh (HG.out.below hb4 HG.out.lt);have HN:=lh (HN.out.below hb4 HN.out.lt);obtain ⟨g0,g1,g2,g3,g4,g5,g6,g7⟩:=cells8 HG.out;obtain ⟨n0,n1,n2,n3,n4,n5,n6,n7,n8,n9,n10,n11⟩:=cells12 HN.out;clear hr4 hb4 hc4))
 go_loopw [29] (fun i wr=>∃ k:Nat,k≤L.length∧i=.int .i64 k∧Hid (∀ x ∈ L.take k,isOne x nN)∧wr=w4) (fun i _=>L.length-(intOf i).toNat)
 case atStart=>exact ⟨0,Nat.zero_le _,rfl,lh (by simp),rfl⟩
 case round =>
  obtain ⟨k,hkk,rfl,HQ,rfl⟩:=hrel
  by_cases hlt:k<L.length
  ·obtain ⟨bx,ox,x,hA4,hbx,HXL,x1⟩:=HR4.out.int hlt
   subst hA4
   by_cases h0:0≤x
   rotate_left
   ·have g0':decide (x<0)=true:=by simp;omega
    have HD:Hid (decide (nodeHolds (grs rs) ⟨ps,ks,cells,is,res,keep,nodes,entry⟩ bd ⟨1,bop,d,e,a,b,f,cell,imm,args,nx,el⟩)=false):=lh (by rw [dfi,HX.out];rintro ⟨h,_⟩;exact h0 (h x (List.mem_of_getElem? HXL.out)).1)
    clear h0
    go_wp2
    go_ret
    exact ⟨by rw [HD.out];rfl,HB2.out.trans (HBW.out.mono HZ2.out)⟩
   have g0':decide (x<0)=false:=by simp;omega
   by_cases h1:x<nN
   rotate_left
   ·have g1':decide (x≥(nN:Int))=true:=by simp;omega
    have HD:Hid (decide (nodeHolds (grs rs) ⟨ps,ks,cells,is,res,keep,nodes,entry⟩ bd ⟨1,bop,d,e,a,b,f,cell,imm,args,nx,el⟩)=false):=lh (by rw [dfi,HX.out];rintro ⟨h,_⟩;exact h1 (h x (List.mem_of_getElem? HXL.out)).2)
    clear h0 h1
    go_wp2
    go_ret
    exact ⟨by rw [HD.out];rfl,HB2.out.trans (HBW.out.mono HZ2.out)⟩
   have g1':decide (x≥(nN:Int))=false:=by simp;omega
   have HQ2:=lh (all_take (Q:=fun x=>isOne x nN) HXL.out ⟨h0,h1⟩ HQ.out)
   clear h0 h1
   go_wp2
   go_roundw
   case rel=>exact ⟨k+1,by omega,by go_num,HQ2,by first | rfl | trivial⟩
   case measure=>simp [intOf];omega
  ·obtain rfl:k=L.length:=by omega
   have HNX:Hid (∀ x ∈ L,isOne x nN):=lh (by have:=HQ.out;rwa [List.take_of_length_le (by omega)] at this)
   clear hlt hkk
   go_wp2_with (first
    | (go_at_call 34;refine (rwant_1 _).mono ?_;rintro ee w5 ⟨rfl,hb5⟩;have HBW:=lh (HBW.out.trans (hb5.mono HBW.out.size));have HG:=lh (HG.out.below hb5 HG.out.lt);have HN:=lh (HN.out.below hb5 HN.out.lt);obtain ⟨n0,n1,n2,n3,n4,n5,n6,n7,n8,n9,n10,n11⟩:=cells12 HN.out;clear hb5))
   have HBW:=lh (HBW.out.alloc HBW.out.size (.cells #[.int .i64 d,.int .i64 e,.int .i64 a,.int .i64 b] 3))
   have HP:Hid (Blk (w5.alloc (.cells #[.int .i64 d,.int .i64 e,.int .i64 a,.int .i64 b] 3)) w5.heap.size 3 #[.int .i64 d,.int .i64 e,.int .i64 a,.int .i64 b]):=lh (Blk.new w5 _ _)
   have HG:=lh (HG.out.alloc (.cells #[.int .i64 d,.int .i64 e,.int .i64 a,.int .i64 b] 3))
   have HN:=lh (HN.out.alloc (.cells #[.int .i64 d,.int .i64 e,.int .i64 a,.int .i64 b] 3))
   obtain ⟨pl,HPL⟩:∃ x,Hid (x=w5.heap.size):=⟨_,lh rfl⟩
   obtain ⟨v6,hv6⟩:∃ W,W=w5.alloc (.cells #[.int .i64 d,.int .i64 e,.int .i64 a,.int .i64 b] 3):=⟨_,rfl⟩
   rw [← hv6,← HPL.out] at HP
   rw [← hv6] at HBW HG HN
   rw [← hv6,← HPL.out]
   clear hv6
   go_loopw [57] (fun i wr=>∃ k:Nat,k≤4∧i=.int .i64 k∧Hid (∀ i,i<k→asked ks bd ((wantOf 1).getD i 45) ([d,e,a,b].getD i 0))∧Hid (Below W2.heap.size W2 wr)∧Hid (Blk wr w.heap.size 35 #[.slice po nP pc,.slice ko nK kc,.int .i64 cells,.slice io nI ic,.bool res,.int .i64 keep,.slice no nN nc,.int .i64 entry])∧Hid (Blk wr (w.heap.size+1) 47 #[.int .u8 1,.int .u8 bop,.int .i64 d,.int .i64 e,.int .i64 a,.int .i64 b,.int .i64 f,.int .i64 cell,.int .u64 imm,.slice ao nA ac,.int .i64 nx,.int .i64 el])∧Hid (Blk wr pl 3 #[.int .i64 d,.int .i64 e,.int .i64 a,.int .i64 b])) (fun i _=>4-(intOf i).toNat)
   case atStart=>exact ⟨0,by omega,rfl,lh (fun i hi=>by omega),HBW,HG,HN,HP⟩
   case round =>
    clear HBW HG HN HP HQ HR4
    obtain ⟨k,hkk,rfl,HQ,HBW,HG,HN,HP⟩:=hrel
    obtain ⟨g0,g1,g2,g3,g4,g5,g6,g7⟩:=cells8 HG.out
    obtain ⟨n0,n1,n2,n3,n4,n5,n6,n7,n8,n9,n10,n11⟩:=cells12 HN.out
    have p0:wr.cell? ⟨pl,0,none⟩=some (.int .i64 d):=HP.out.cell 0
    have p1:wr.cell? ⟨pl,1,none⟩=some (.int .i64 e):=HP.out.cell 1
    have p2:wr.cell? ⟨pl,2,none⟩=some (.int .i64 a):=HP.out.cell 2
    have p3:wr.cell? ⟨pl,3,none⟩=some (.int .i64 b):=HP.out.cell 3
    rcases (show k=0∨k=1∨k=2∨k=3∨k=4 by omega) with rfl | rfl | rfl | rfl | rfl
    ·by_cases hf:fits ks bd d 0
     ·have H1:Hid (decide (fits ks bd d 0)=true):=lh (decide_eq_true hf)
      have HQ2:=lh (upto_snoc HQ.out (show asked ks bd 110 d from asked_n.2 hf))
      clear hf
      go_wp2_with (first | (go_at_call 32;refine (rfits_any B ks po ko io no nP pc nK kc nI ic nN nc cells keep entry res bd d 0 _ (HK.out.below (HBW.out.mono hB2)) HKL.out hnK (Nat.le_trans hB2 HBW.out.size)).mono ?_;rintro ee wf ⟨rfl,hbf⟩;rw [H1.out];have HBW:=lh (HBW.out.trans (hbf.mono HBW.out.size));have HG:=lh (HG.out.below hbf HG.out.lt);have HN:=lh (HN.out.below hbf HN.out.lt);have HP:=lh (HP.out.below hbf HP.out.lt);clear hbf;obtain ⟨g0,g1,g2,g3,g4,g5,g6,g7⟩:=cells8 HG.out;obtain ⟨n0,n1,n2,n3,n4,n5,n6,n7,n8,n9,n10,n11⟩:=cells12 HN.out))
      go_roundw
      case rel=>exact ⟨1,by omega,by go_num,HQ2,HBW,HG,HN,HP⟩
      case measure=>simp [intOf]
     ·have H1:Hid (decide (fits ks bd d 0)=false):=lh (decide_eq_false hf)
      have HD:Hid (decide (nodeHolds (grs rs) ⟨ps,ks,cells,is,res,keep,nodes,entry⟩ bd ⟨1,bop,d,e,a,b,f,cell,imm,args,nx,el⟩)=false):=lh (by rw [dfi,HX.out];rintro ⟨_,h,_⟩;exact hf (asked_n.1 (h 0 (by omega))))
      clear hf
      go_wp2_with (first | (go_at_call 32;refine (rfits_any B ks po ko io no nP pc nK kc nI ic nN nc cells keep entry res bd d 0 _ (HK.out.below (HBW.out.mono hB2)) HKL.out hnK (Nat.le_trans hB2 HBW.out.size)).mono ?_;rintro ee wf ⟨rfl,hbf⟩;rw [H1.out];have HBW:=lh (HBW.out.trans (hbf.mono HBW.out.size));have HG:=lh (HG.out.below hbf HG.out.lt);have HN:=lh (HN.out.below hbf HN.out.lt);clear hbf;obtain ⟨g0,g1,g2,g3,g4,g5,g6,g7⟩:=cells8 HG.out;obtain ⟨n0,n1,n2,n3,n4,n5,n6,n7,n8,n9,n10,n11⟩:=cells12 HN.out))
      go_ret
      exact ⟨by rw [HD.out];rfl,HB2.out.trans (HBW.out.mono HZ2.out)⟩
    ·have HQ2:=lh (upto_snoc HQ.out (show asked ks bd 45 e from asked_no (by decide) (by decide)))
     go_wp2
     go_roundw
     case rel=>exact ⟨2,by omega,by go_num,HQ2,HBW,HG,HN,HP⟩
     case measure=>simp [intOf]
    ·have HQ2:=lh (upto_snoc HQ.out (show asked ks bd 45 a from asked_no (by decide) (by decide)))
     go_wp2
     go_roundw
     case rel=>exact ⟨3,by omega,by go_num,HQ2,HBW,HG,HN,HP⟩
     case measure=>simp [intOf]
    ·have HQ2:=lh (upto_snoc HQ.out (show asked ks bd 45 b from asked_no (by decide) (by decide)))
     go_wp2
     go_roundw
     case rel=>exact ⟨4,by omega,by go_num,HQ2,HBW,HG,HN,HP⟩
     case measure=>simp [intOf]
    ·have HD:Hid (decide (nodeHolds (grs rs) ⟨ps,ks,cells,is,res,keep,nodes,entry⟩ bd ⟨1,bop,d,e,a,b,f,cell,imm,args,nx,el⟩)=true):=lh (by rw [decide_eq_true_eq,HX.out];exact ⟨HNX.out,HQ.out,by simp [restOf]⟩)
     go_wp2
     go_ret
     exact ⟨by rw [HD.out];rfl,HB2.out.trans (HBW.out.mono HZ2.out)⟩

theorem rnode_7 (B:Nat) (rs:List RG) (ps ks is:List Int) (nodes:List Nd) (fo:Option Addr) (nF cF:Nat) (po ko io no:Option Addr) (nP pc nK kc nI ic nN nc:Nat) (cells keep entry:Int) (res bd:Bool) (bop d e a b f cell imm:Int) (args:List Int) (nx el:Int) (ao:Option Addr) (nA ac:Nat) (w:World)
  (HF0:RdP w B fo nF rs) (hk:Reads w B 1 ko nK (u8c ks)) (hkl:ks.length=nK) (hnK:nK≤140737488351232) (ha:Reads w B 1 ao nA (i64c args)) (hal:args.length=nA) (hnA:nA*8≤140737488351232) (hB:B≤w.heap.size) (hk1:∀ k ∈ ks,k=0∨k=1)
  (hh:∀ g ∈ grs rs,headHolds g bd) (hnl:nodes.length=nN) :
  Calls Tryz.prog 17 #[.slice fo nF cF,.agg #[.slice po nP pc,.slice ko nK kc,.int .i64 cells,.slice io nI ic,.bool res,.int .i64 keep,.slice no nN nc,.int .i64 entry],.bool bd,.agg #[.int .u8 7,.int .u8 bop,.int .i64 d,.int .i64 e,.int .i64 a,.int .i64 b,.int .i64 f,.int .i64 cell,.int .u64 imm,.slice ao nA ac,.int .i64 nx,.int .i64 el]] w fun ee w'=>ee=.returned (.bool (decide (nodeHolds (grs rs) ⟨ps,ks,cells,is,res,keep,nodes,entry⟩ bd ⟨7,bop,d,e,a,b,f,cell,imm,args,nx,el⟩)))∧Below w.heap.size w w':=by
 have HB2:Hid (Below w.heap.size w ((w.alloc (.cells #[.slice po nP pc,.slice ko nK kc,.int .i64 cells,.slice io nI ic,.bool res,.int .i64 keep,.slice no nN nc,.int .i64 entry] 35)).alloc (.cells #[.int .u8 7,.int .u8 bop,.int .i64 d,.int .i64 e,.int .i64 a,.int .i64 b,.int .i64 f,.int .i64 cell,.int .u64 imm,.slice ao nA ac,.int .i64 nx,.int .i64 el] 47))):=((Below.refl _ _).alloc (Nat.le_refl _) _).alloc (by simp) _
 have hB2:B≤((w.alloc (.cells #[.slice po nP pc,.slice ko nK kc,.int .i64 cells,.slice io nI ic,.bool res,.int .i64 keep,.slice no nN nc,.int .i64 entry] 35)).alloc (.cells #[.int .u8 7,.int .u8 bop,.int .i64 d,.int .i64 e,.int .i64 a,.int .i64 b,.int .i64 f,.int .i64 cell,.int .u64 imm,.slice ao nA ac,.int .i64 nx,.int .i64 el] 47)).heap.size:=by simp;omega
 have HG:Hid (Blk ((w.alloc (.cells #[.slice po nP pc,.slice ko nK kc,.int .i64 cells,.slice io nI ic,.bool res,.int .i64 keep,.slice no nN nc,.int .i64 entry] 35)).alloc (.cells #[.int .u8 7,.int .u8 bop,.int .i64 d,.int .i64 e,.int .i64 a,.int .i64 b,.int .i64 f,.int .i64 cell,.int .u64 imm,.slice ao nA ac,.int .i64 nx,.int .i64 el] 47)) w.heap.size 35 #[.slice po nP pc,.slice ko nK kc,.int .i64 cells,.slice io nI ic,.bool res,.int .i64 keep,.slice no nN nc,.int .i64 entry]):=lh ((Blk.new w _ _).alloc _)
 have HN:Hid (Blk ((w.alloc (.cells #[.slice po nP pc,.slice ko nK kc,.int .i64 cells,.slice io nI ic,.bool res,.int .i64 keep,.slice no nN nc,.int .i64 entry] 35)).alloc (.cells #[.int .u8 7,.int .u8 bop,.int .i64 d,.int .i64 e,.int .i64 a,.int .i64 b,.int .i64 f,.int .i64 cell,.int .u64 imm,.slice ao nA ac,.int .i64 nx,.int .i64 el] 47)) (w.heap.size+1) 47 #[.int .u8 7,.int .u8 bop,.int .i64 d,.int .i64 e,.int .i64 a,.int .i64 b,.int .i64 f,.int .i64 cell,.int .u64 imm,.slice ao nA ac,.int .i64 nx,.int .i64 el]):=lh (blk_2nd w _ _ _ _)
 have HK:=lh (hk.below (HB2.out.mono hB))
 have HF:=lh (HF0.below (HB2.out.mono hB))
 have HA:=lh (ha.below (HB2.out.mono hB))
 have HKL:=lh hkl
 have HAL:=lh hal
 have HH:=lh hh
 have HNL:=lh hnl
 have HK1:=lh hk1
 have HGL:Hid ((grs rs).length=nF):=lh (by rw [length_grs,HF0.len])
 have HX:Hid (nodeHolds (grs rs) ⟨ps,ks,cells,is,res,keep,nodes,entry⟩ bd ⟨7,bop,d,e,a,b,f,cell,imm,args,nx,el⟩↔(∀ x ∈ nextsOf ⟨7,bop,d,e,a,b,f,cell,imm,args,nx,el⟩,isOne x nN)∧(∀ i,i<4→asked ks bd ((wantOf 7).getD i 45) ([d,e,a,b].getD i 0))∧restOf (grs rs) ⟨ps,ks,cells,is,res,keep,nodes,entry⟩ bd ⟨7,bop,d,e,a,b,f,cell,imm,args,nx,el⟩):=lh (by
  have h:=holds_split (gs:=grs rs) (g:=⟨ps,ks,cells,is,res,keep,nodes,entry⟩) (bd:=bd) (n:=⟨7,bop,d,e,a,b,f,cell,imm,args,nx,el⟩) hk1 (by show (1:Int)≤7;decide) (by show (7:Int)≤18;decide)
  rw [show (⟨ps,ks,cells,is,res,keep,nodes,entry⟩:Gr).nodes.length=nN from hnl] at h
  exact h)
 have hln:=nexts_lenC ⟨7,bop,d,e,a,b,f,cell,imm,args,nx,el⟩
 obtain ⟨L,hL⟩:∃ L,L=nextsOf ⟨7,bop,d,e,a,b,f,cell,imm,args,nx,el⟩:=⟨_,rfl⟩
 rw [← hL] at HX hln
 have HL:=lh hL
 have HBW:Hid (Below ((w.alloc (.cells #[.slice po nP pc,.slice ko nK kc,.int .i64 cells,.slice io nI ic,.bool res,.int .i64 keep,.slice no nN nc,.int .i64 entry] 35)).alloc (.cells #[.int .u8 7,.int .u8 bop,.int .i64 d,.int .i64 e,.int .i64 a,.int .i64 b,.int .i64 f,.int .i64 cell,.int .u64 imm,.slice ao nA ac,.int .i64 nx,.int .i64 el] 47)).heap.size ((w.alloc (.cells #[.slice po nP pc,.slice ko nK kc,.int .i64 cells,.slice io nI ic,.bool res,.int .i64 keep,.slice no nN nc,.int .i64 entry] 35)).alloc (.cells #[.int .u8 7,.int .u8 bop,.int .i64 d,.int .i64 e,.int .i64 a,.int .i64 b,.int .i64 f,.int .i64 cell,.int .u64 imm,.slice ao nA ac,.int .i64 nx,.int .i64 el] 47)) ((w.alloc (.cells #[.slice po nP pc,.slice ko nK kc,.int .i64 cells,.slice io nI ic,.bool res,.int .i64 keep,.slice no nN nc,.int .i64 entry] 35)).alloc (.cells #[.int .u8 7,.int .u8 bop,.int .i64 d,.int .i64 e,.int .i64 a,.int .i64 b,.int .i64 f,.int .i64 cell,.int .u64 imm,.slice ao nA ac,.int .i64 nx,.int .i64 el] 47))):=lh (Below.refl _ _)
 obtain ⟨W2,hW2⟩:∃ W,W=((w.alloc (.cells #[.slice po nP pc,.slice ko nK kc,.int .i64 cells,.slice io nI ic,.bool res,.int .i64 keep,.slice no nN nc,.int .i64 entry] 35)).alloc (.cells #[.int .u8 7,.int .u8 bop,.int .i64 d,.int .i64 e,.int .i64 a,.int .i64 b,.int .i64 f,.int .i64 cell,.int .u64 imm,.slice ao nA ac,.int .i64 nx,.int .i64 el] 47)):=⟨_,rfl⟩
 have HW2:=lh hW2
 have HZ2:Hid (w.heap.size≤W2.heap.size):=lh (by rw [hW2];exact HB2.out.size)
 rw [← hW2] at HB2 hB2 HG HN HK HF HA HBW
 clear HF0 hk hkl ha hal hh hnl hk1 hL hW2
 go_enter Tryz.func17,Tryz.ntmps17
 go_wp2_with (first
  | (go_at_call 33;rw [← HW2.out];refine (rnext_any 7 bop d e a b f cell imm args nx el ao nA ac _ (by decide) (by decide)).mono ?_;rintro ee w4 ⟨A4,c4,rfl,hr4,hc4,hb4⟩;rw [← HL.out] at hr4 ⊢;have HR4:=lh hr4;have HBW:=lh (HBW.out.trans (hb4.mono HBW.out.size));have HG:=lh (HG.out.below hb4 HG.out.lt);have HN:=lh (HN.out.below hb4 HN.out.lt);obtain ⟨g0,g1,g2,g3,g4,g5,g6,g7⟩:=cells8 HG.out;obtain ⟨n0,n1,n2,n3,n4,n5,n6,n7,n8,n9,n10,n11⟩:=cells12 HN.out;clear hr4 hb4 hc4))
 go_loopw [29] (fun i wr=>∃ k:Nat,k≤L.length∧i=.int .i64 k∧Hid (∀ x ∈ L.take k,isOne x nN)∧wr=w4) (fun i _=>L.length-(intOf i).toNat)
 case atStart=>exact ⟨0,Nat.zero_le _,rfl,lh (by simp),rfl⟩
 case round =>
  obtain ⟨k,hkk,rfl,HQ,rfl⟩:=hrel
  by_cases hlt:k<L.length
  ·obtain ⟨bx,ox,x,hA4,hbx,HXL,x1⟩:=HR4.out.int hlt
   subst hA4
   by_cases h0:0≤x
   rotate_left
   ·have g0':decide (x<0)=true:=by simp;omega
    have HD:Hid (decide (nodeHolds (grs rs) ⟨ps,ks,cells,is,res,keep,nodes,entry⟩ bd ⟨7,bop,d,e,a,b,f,cell,imm,args,nx,el⟩)=false):=lh (by rw [dfi,HX.out];rintro ⟨h,_⟩;exact h0 (h x (List.mem_of_getElem? HXL.out)).1)
    clear h0
    go_wp2
    go_ret
    exact ⟨by rw [HD.out];rfl,HB2.out.trans (HBW.out.mono HZ2.out)⟩
   have g0':decide (x<0)=false:=by simp;omega
   by_cases h1:x<nN
   rotate_left
   ·have g1':decide (x≥(nN:Int))=true:=by simp;omega
    have HD:Hid (decide (nodeHolds (grs rs) ⟨ps,ks,cells,is,res,keep,nodes,entry⟩ bd ⟨7,bop,d,e,a,b,f,cell,imm,args,nx,el⟩)=false):=lh (by rw [dfi,HX.out];rintro ⟨h,_⟩;exact h1 (h x (List.mem_of_getElem? HXL.out)).2)
    clear h0 h1
    go_wp2
    go_ret
    exact ⟨by rw [HD.out];rfl,HB2.out.trans (HBW.out.mono HZ2.out)⟩
   have g1':decide (x≥(nN:Int))=false:=by simp;omega
   have HQ2:=lh (all_take (Q:=fun x=>isOne x nN) HXL.out ⟨h0,h1⟩ HQ.out)
   clear h0 h1
   go_wp2
   go_roundw
   case rel=>exact ⟨k+1,by omega,by go_num,HQ2,by first | rfl | trivial⟩
   case measure=>simp [intOf];omega
  ·obtain rfl:k=L.length:=by omega
   have HNX:Hid (∀ x ∈ L,isOne x nN):=lh (by have:=HQ.out;rwa [List.take_of_length_le (by omega)] at this)
   clear hlt hkk
   go_wp2_with (first
    | (go_at_call 34;refine (rwant_7 _).mono ?_;rintro ee w5 ⟨rfl,hb5⟩;have HBW:=lh (HBW.out.trans (hb5.mono HBW.out.size));have HG:=lh (HG.out.below hb5 HG.out.lt);have HN:=lh (HN.out.below hb5 HN.out.lt);obtain ⟨n0,n1,n2,n3,n4,n5,n6,n7,n8,n9,n10,n11⟩:=cells12 HN.out;clear hb5))
   have HBW:=lh (HBW.out.alloc HBW.out.size (.cells #[.int .i64 d,.int .i64 e,.int .i64 a,.int .i64 b] 3))
   have HP:Hid (Blk (w5.alloc (.cells #[.int .i64 d,.int .i64 e,.int .i64 a,.int .i64 b] 3)) w5.heap.size 3 #[.int .i64 d,.int .i64 e,.int .i64 a,.int .i64 b]):=lh (Blk.new w5 _ _)
   have HG:=lh (HG.out.alloc (.cells #[.int .i64 d,.int .i64 e,.int .i64 a,.int .i64 b] 3))
   have HN:=lh (HN.out.alloc (.cells #[.int .i64 d,.int .i64 e,.int .i64 a,.int .i64 b] 3))
   obtain ⟨pl,HPL⟩:∃ x,Hid (x=w5.heap.size):=⟨_,lh rfl⟩
   obtain ⟨v6,hv6⟩:∃ W,W=w5.alloc (.cells #[.int .i64 d,.int .i64 e,.int .i64 a,.int .i64 b] 3):=⟨_,rfl⟩
   rw [← hv6,← HPL.out] at HP
   rw [← hv6] at HBW HG HN
   rw [← hv6,← HPL.out]
   clear hv6
   go_loopw [57] (fun i wr=>∃ k:Nat,k≤4∧i=.int .i64 k∧Hid (∀ i,i<k→asked ks bd ((wantOf 7).getD i 45) ([d,e,a,b].getD i 0))∧Hid (Below W2.heap.size W2 wr)∧Hid (Blk wr w.heap.size 35 #[.slice po nP pc,.slice ko nK kc,.int .i64 cells,.slice io nI ic,.bool res,.int .i64 keep,.slice no nN nc,.int .i64 entry])∧Hid (Blk wr (w.heap.size+1) 47 #[.int .u8 7,.int .u8 bop,.int .i64 d,.int .i64 e,.int .i64 a,.int .i64 b,.int .i64 f,.int .i64 cell,.int .u64 imm,.slice ao nA ac,.int .i64 nx,.int .i64 el])∧Hid (Blk wr pl 3 #[.int .i64 d,.int .i64 e,.int .i64 a,.int .i64 b])) (fun i _=>4-(intOf i).toNat)
   case atStart=>exact ⟨0,by omega,rfl,lh (fun i hi=>by omega),HBW,HG,HN,HP⟩
   case round =>
    clear HBW HG HN HP HQ HR4
    obtain ⟨k,hkk,rfl,HQ,HBW,HG,HN,HP⟩:=hrel
    obtain ⟨g0,g1,g2,g3,g4,g5,g6,g7⟩:=cells8 HG.out
    obtain ⟨n0,n1,n2,n3,n4,n5,n6,n7,n8,n9,n10,n11⟩:=cells12 HN.out
    have p0:wr.cell? ⟨pl,0,none⟩=some (.int .i64 d):=HP.out.cell 0
    have p1:wr.cell? ⟨pl,1,none⟩=some (.int .i64 e):=HP.out.cell 1
    have p2:wr.cell? ⟨pl,2,none⟩=some (.int .i64 a):=HP.out.cell 2
    have p3:wr.cell? ⟨pl,3,none⟩=some (.int .i64 b):=HP.out.cell 3
    rcases (show k=0∨k=1∨k=2∨k=3∨k=4 by omega) with rfl | rfl | rfl | rfl | rfl
    ·by_cases hf:fits ks bd d 0
     ·have H1:Hid (decide (fits ks bd d 0)=true):=lh (decide_eq_true hf)
      have HQ2:=lh (upto_snoc HQ.out (show asked ks bd 110 d from asked_n.2 hf))
      clear hf
      go_wp2_with (first | (go_at_call 32;refine (rfits_any B ks po ko io no nP pc nK kc nI ic nN nc cells keep entry res bd d 0 _ (HK.out.below (HBW.out.mono hB2)) HKL.out hnK (Nat.le_trans hB2 HBW.out.size)).mono ?_;rintro ee wf ⟨rfl,hbf⟩;rw [H1.out];have HBW:=lh (HBW.out.trans (hbf.mono HBW.out.size));have HG:=lh (HG.out.below hbf HG.out.lt);have HN:=lh (HN.out.below hbf HN.out.lt);have HP:=lh (HP.out.below hbf HP.out.lt);clear hbf;obtain ⟨g0,g1,g2,g3,g4,g5,g6,g7⟩:=cells8 HG.out;obtain ⟨n0,n1,n2,n3,n4,n5,n6,n7,n8,n9,n10,n11⟩:=cells12 HN.out))
      go_roundw
      case rel=>exact ⟨1,by omega,by go_num,HQ2,HBW,HG,HN,HP⟩
      case measure=>simp [intOf]
     ·have H1:Hid (decide (fits ks bd d 0)=false):=lh (decide_eq_false hf)
      have HD:Hid (decide (nodeHolds (grs rs) ⟨ps,ks,cells,is,res,keep,nodes,entry⟩ bd ⟨7,bop,d,e,a,b,f,cell,imm,args,nx,el⟩)=false):=lh (by rw [dfi,HX.out];rintro ⟨_,h,_⟩;exact hf (asked_n.1 (h 0 (by omega))))
      clear hf
      go_wp2_with (first | (go_at_call 32;refine (rfits_any B ks po ko io no nP pc nK kc nI ic nN nc cells keep entry res bd d 0 _ (HK.out.below (HBW.out.mono hB2)) HKL.out hnK (Nat.le_trans hB2 HBW.out.size)).mono ?_;rintro ee wf ⟨rfl,hbf⟩;rw [H1.out];have HBW:=lh (HBW.out.trans (hbf.mono HBW.out.size));have HG:=lh (HG.out.below hbf HG.out.lt);have HN:=lh (HN.out.below hbf HN.out.lt);clear hbf;obtain ⟨g0,g1,g2,g3,g4,g5,g6,g7⟩:=cells8 HG.out;obtain ⟨n0,n1,n2,n3,n4,n5,n6,n7,n8,n9,n10,n11⟩:=cells12 HN.out))
      go_ret
      exact ⟨by rw [HD.out];rfl,HB2.out.trans (HBW.out.mono HZ2.out)⟩
    ·have HQ2:=lh (upto_snoc HQ.out (show asked ks bd 45 e from asked_no (by decide) (by decide)))
     go_wp2
     go_roundw
     case rel=>exact ⟨2,by omega,by go_num,HQ2,HBW,HG,HN,HP⟩
     case measure=>simp [intOf]
    ·by_cases hf:fits ks bd a 1
     ·have H1:Hid (decide (fits ks bd a 1)=true):=lh (decide_eq_true hf)
      have HQ2:=lh (upto_snoc HQ.out (show asked ks bd 112 a from asked_p.2 hf))
      clear hf
      go_wp2_with (first | (go_at_call 32;refine (rfits_any B ks po ko io no nP pc nK kc nI ic nN nc cells keep entry res bd a 1 _ (HK.out.below (HBW.out.mono hB2)) HKL.out hnK (Nat.le_trans hB2 HBW.out.size)).mono ?_;rintro ee wf ⟨rfl,hbf⟩;rw [H1.out];have HBW:=lh (HBW.out.trans (hbf.mono HBW.out.size));have HG:=lh (HG.out.below hbf HG.out.lt);have HN:=lh (HN.out.below hbf HN.out.lt);have HP:=lh (HP.out.below hbf HP.out.lt);clear hbf;obtain ⟨g0,g1,g2,g3,g4,g5,g6,g7⟩:=cells8 HG.out;obtain ⟨n0,n1,n2,n3,n4,n5,n6,n7,n8,n9,n10,n11⟩:=cells12 HN.out))
      go_roundw
      case rel=>exact ⟨3,by omega,by go_num,HQ2,HBW,HG,HN,HP⟩
      case measure=>simp [intOf]
     ·have H1:Hid (decide (fits ks bd a 1)=false):=lh (decide_eq_false hf)
      have HD:Hid (decide (nodeHolds (grs rs) ⟨ps,ks,cells,is,res,keep,nodes,entry⟩ bd ⟨7,bop,d,e,a,b,f,cell,imm,args,nx,el⟩)=false):=lh (by rw [dfi,HX.out];rintro ⟨_,h,_⟩;exact hf (asked_p.1 (h 2 (by omega))))
      clear hf
      go_wp2_with (first | (go_at_call 32;refine (rfits_any B ks po ko io no nP pc nK kc nI ic nN nc cells keep entry res bd a 1 _ (HK.out.below (HBW.out.mono hB2)) HKL.out hnK (Nat.le_trans hB2 HBW.out.size)).mono ?_;rintro ee wf ⟨rfl,hbf⟩;rw [H1.out];have HBW:=lh (HBW.out.trans (hbf.mono HBW.out.size));have HG:=lh (HG.out.below hbf HG.out.lt);have HN:=lh (HN.out.below hbf HN.out.lt);clear hbf;obtain ⟨g0,g1,g2,g3,g4,g5,g6,g7⟩:=cells8 HG.out;obtain ⟨n0,n1,n2,n3,n4,n5,n6,n7,n8,n9,n10,n11⟩:=cells12 HN.out))
      go_ret
      exact ⟨by rw [HD.out];rfl,HB2.out.trans (HBW.out.mono HZ2.out)⟩
    ·have HQ2:=lh (upto_snoc HQ.out (show asked ks bd 45 b from asked_no (by decide) (by decide)))
     go_wp2
     go_roundw
     case rel=>exact ⟨4,by omega,by go_num,HQ2,HBW,HG,HN,HP⟩
     case measure=>simp [intOf]
    ·have HD:Hid (decide (nodeHolds (grs rs) ⟨ps,ks,cells,is,res,keep,nodes,entry⟩ bd ⟨7,bop,d,e,a,b,f,cell,imm,args,nx,el⟩)=true):=lh (by rw [decide_eq_true_eq,HX.out];exact ⟨HNX.out,HQ.out,by simp [restOf]⟩)
     go_wp2
     go_ret
     exact ⟨by rw [HD.out];rfl,HB2.out.trans (HBW.out.mono HZ2.out)⟩

theorem rnode_8 (B:Nat) (rs:List RG) (ps ks is:List Int) (nodes:List Nd) (fo:Option Addr) (nF cF:Nat) (po ko io no:Option Addr) (nP pc nK kc nI ic nN nc:Nat) (cells keep entry:Int) (res bd:Bool) (bop d e a b f cell imm:Int) (args:List Int) (nx el:Int) (ao:Option Addr) (nA ac:Nat) (w:World)
  (HF0:RdP w B fo nF rs) (hk:Reads w B 1 ko nK (u8c ks)) (hkl:ks.length=nK) (hnK:nK≤140737488351232) (ha:Reads w B 1 ao nA (i64c args)) (hal:args.length=nA) (hnA:nA*8≤140737488351232) (hB:B≤w.heap.size) (hk1:∀ k ∈ ks,k=0∨k=1)
  (hh:∀ g ∈ grs rs,headHolds g bd) (hnl:nodes.length=nN) :
  Calls Tryz.prog 17 #[.slice fo nF cF,.agg #[.slice po nP pc,.slice ko nK kc,.int .i64 cells,.slice io nI ic,.bool res,.int .i64 keep,.slice no nN nc,.int .i64 entry],.bool bd,.agg #[.int .u8 8,.int .u8 bop,.int .i64 d,.int .i64 e,.int .i64 a,.int .i64 b,.int .i64 f,.int .i64 cell,.int .u64 imm,.slice ao nA ac,.int .i64 nx,.int .i64 el]] w fun ee w'=>ee=.returned (.bool (decide (nodeHolds (grs rs) ⟨ps,ks,cells,is,res,keep,nodes,entry⟩ bd ⟨8,bop,d,e,a,b,f,cell,imm,args,nx,el⟩)))∧Below w.heap.size w w':=by
 have HB2:Hid (Below w.heap.size w ((w.alloc (.cells #[.slice po nP pc,.slice ko nK kc,.int .i64 cells,.slice io nI ic,.bool res,.int .i64 keep,.slice no nN nc,.int .i64 entry] 35)).alloc (.cells #[.int .u8 8,.int .u8 bop,.int .i64 d,.int .i64 e,.int .i64 a,.int .i64 b,.int .i64 f,.int .i64 cell,.int .u64 imm,.slice ao nA ac,.int .i64 nx,.int .i64 el] 47))):=((Below.refl _ _).alloc (Nat.le_refl _) _).alloc (by simp) _
 have hB2:B≤((w.alloc (.cells #[.slice po nP pc,.slice ko nK kc,.int .i64 cells,.slice io nI ic,.bool res,.int .i64 keep,.slice no nN nc,.int .i64 entry] 35)).alloc (.cells #[.int .u8 8,.int .u8 bop,.int .i64 d,.int .i64 e,.int .i64 a,.int .i64 b,.int .i64 f,.int .i64 cell,.int .u64 imm,.slice ao nA ac,.int .i64 nx,.int .i64 el] 47)).heap.size:=by simp;omega
 have HG:Hid (Blk ((w.alloc (.cells #[.slice po nP pc,.slice ko nK kc,.int .i64 cells,.slice io nI ic,.bool res,.int .i64 keep,.slice no nN nc,.int .i64 entry] 35)).alloc (.cells #[.int .u8 8,.int .u8 bop,.int .i64 d,.int .i64 e,.int .i64 a,.int .i64 b,.int .i64 f,.int .i64 cell,.int .u64 imm,.slice ao nA ac,.int .i64 nx,.int .i64 el] 47)) w.heap.size 35 #[.slice po nP pc,.slice ko nK kc,.int .i64 cells,.slice io nI ic,.bool res,.int .i64 keep,.slice no nN nc,.int .i64 entry]):=lh ((Blk.new w _ _).alloc _)
 have HN:Hid (Blk ((w.alloc (.cells #[.slice po nP pc,.slice ko nK kc,.int .i64 cells,.slice io nI ic,.bool res,.int .i64 keep,.slice no nN nc,.int .i64 entry] 35)).alloc (.cells #[.int .u8 8,.int .u8 bop,.int .i64 d,.int .i64 e,.int .i64 a,.int .i64 b,.int .i64 f,.int .i64 cell,.int .u64 imm,.slice ao nA ac,.int .i64 nx,.int .i64 el] 47)) (w.heap.size+1) 47 #[.int .u8 8,.int .u8 bop,.int .i64 d,.int .i64 e,.int .i64 a,.int .i64 b,.int .i64 f,.int .i64 cell,.int .u64 imm,.slice ao nA ac,.int .i64 nx,.int .i64 el]):=lh (blk_2nd w _ _ _ _)
 have HK:=lh (hk.below (HB2.out.mono hB))
 have HF:=lh (HF0.below (HB2.out.mono hB))
 have HA:=lh (ha.below (HB2.out.mono hB))
 have HKL:=lh hkl
 have HAL:=lh hal
 have HH:=lh hh
 have HNL:=lh hnl
 have HK1:=lh hk1
 have HGL:Hid ((grs rs).length=nF):=lh (by rw [length_grs,HF0.len])
 have HX:Hid (nodeHolds (grs rs) ⟨ps,ks,cells,is,res,keep,nodes,entry⟩ bd ⟨8,bop,d,e,a,b,f,cell,imm,args,nx,el⟩↔(∀ x ∈ nextsOf ⟨8,bop,d,e,a,b,f,cell,imm,args,nx,el⟩,isOne x nN)∧(∀ i,i<4→asked ks bd ((wantOf 8).getD i 45) ([d,e,a,b].getD i 0))∧restOf (grs rs) ⟨ps,ks,cells,is,res,keep,nodes,entry⟩ bd ⟨8,bop,d,e,a,b,f,cell,imm,args,nx,el⟩):=lh (by
  have h:=holds_split (gs:=grs rs) (g:=⟨ps,ks,cells,is,res,keep,nodes,entry⟩) (bd:=bd) (n:=⟨8,bop,d,e,a,b,f,cell,imm,args,nx,el⟩) hk1 (by show (1:Int)≤8;decide) (by show (8:Int)≤18;decide)
  rw [show (⟨ps,ks,cells,is,res,keep,nodes,entry⟩:Gr).nodes.length=nN from hnl] at h
  exact h)
 have hln:=nexts_lenC ⟨8,bop,d,e,a,b,f,cell,imm,args,nx,el⟩
 obtain ⟨L,hL⟩:∃ L,L=nextsOf ⟨8,bop,d,e,a,b,f,cell,imm,args,nx,el⟩:=⟨_,rfl⟩
 rw [← hL] at HX hln
 have HL:=lh hL
 have HBW:Hid (Below ((w.alloc (.cells #[.slice po nP pc,.slice ko nK kc,.int .i64 cells,.slice io nI ic,.bool res,.int .i64 keep,.slice no nN nc,.int .i64 entry] 35)).alloc (.cells #[.int .u8 8,.int .u8 bop,.int .i64 d,.int .i64 e,.int .i64 a,.int .i64 b,.int .i64 f,.int .i64 cell,.int .u64 imm,.slice ao nA ac,.int .i64 nx,.int .i64 el] 47)).heap.size ((w.alloc (.cells #[.slice po nP pc,.slice ko nK kc,.int .i64 cells,.slice io nI ic,.bool res,.int .i64 keep,.slice no nN nc,.int .i64 entry] 35)).alloc (.cells #[.int .u8 8,.int .u8 bop,.int .i64 d,.int .i64 e,.int .i64 a,.int .i64 b,.int .i64 f,.int .i64 cell,.int .u64 imm,.slice ao nA ac,.int .i64 nx,.int .i64 el] 47)) ((w.alloc (.cells #[.slice po nP pc,.slice ko nK kc,.int .i64 cells,.slice io nI ic,.bool res,.int .i64 keep,.slice no nN nc,.int .i64 entry] 35)).alloc (.cells #[.int .u8 8,.int .u8 bop,.int .i64 d,.int .i64 e,.int .i64 a,.int .i64 b,.int .i64 f,.int .i64 cell,.int .u64 imm,.slice ao nA ac,.int .i64 nx,.int .i64 el] 47))):=lh (Below.refl _ _)
 obtain ⟨W2,hW2⟩:∃ W,W=((w.alloc (.cells #[.slice po nP pc,.slice ko nK kc,.int .i64 cells,.slice io nI ic,.bool res,.int .i64 keep,.slice no nN nc,.int .i64 entry] 35)).alloc (.cells #[.int .u8 8,.int .u8 bop,.int .i64 d,.int .i64 e,.int .i64 a,.int .i64 b,.int .i64 f,.int .i64 cell,.int .u64 imm,.slice ao nA ac,.int .i64 nx,.int .i64 el] 47)):=⟨_,rfl⟩
 have HW2:=lh hW2
 have HZ2:Hid (w.heap.size≤W2.heap.size):=lh (by rw [hW2];exact HB2.out.size)
 rw [← hW2] at HB2 hB2 HG HN HK HF HA HBW
 clear HF0 hk hkl ha hal hh hnl hk1 hL hW2
 go_enter Tryz.func17,Tryz.ntmps17
 go_wp2_with (first
  | (go_at_call 33;rw [← HW2.out];refine (rnext_any 8 bop d e a b f cell imm args nx el ao nA ac _ (by decide) (by decide)).mono ?_;rintro ee w4 ⟨A4,c4,rfl,hr4,hc4,hb4⟩;rw [← HL.out] at hr4 ⊢;have HR4:=lh hr4;have HBW:=lh (HBW.out.trans (hb4.mono HBW.out.size));have HG:=lh (HG.out.below hb4 HG.out.lt);have HN:=lh (HN.out.below hb4 HN.out.lt);obtain ⟨g0,g1,g2,g3,g4,g5,g6,g7⟩:=cells8 HG.out;obtain ⟨n0,n1,n2,n3,n4,n5,n6,n7,n8,n9,n10,n11⟩:=cells12 HN.out;clear hr4 hb4 hc4))
 go_loopw [29] (fun i wr=>∃ k:Nat,k≤L.length∧i=.int .i64 k∧Hid (∀ x ∈ L.take k,isOne x nN)∧wr=w4) (fun i _=>L.length-(intOf i).toNat)
 case atStart=>exact ⟨0,Nat.zero_le _,rfl,lh (by simp),rfl⟩
 case round =>
  obtain ⟨k,hkk,rfl,HQ,rfl⟩:=hrel
  by_cases hlt:k<L.length
  ·obtain ⟨bx,ox,x,hA4,hbx,HXL,x1⟩:=HR4.out.int hlt
   subst hA4
   by_cases h0:0≤x
   rotate_left
   ·have g0':decide (x<0)=true:=by simp;omega
    have HD:Hid (decide (nodeHolds (grs rs) ⟨ps,ks,cells,is,res,keep,nodes,entry⟩ bd ⟨8,bop,d,e,a,b,f,cell,imm,args,nx,el⟩)=false):=lh (by rw [dfi,HX.out];rintro ⟨h,_⟩;exact h0 (h x (List.mem_of_getElem? HXL.out)).1)
    clear h0
    go_wp2
    go_ret
    exact ⟨by rw [HD.out];rfl,HB2.out.trans (HBW.out.mono HZ2.out)⟩
   have g0':decide (x<0)=false:=by simp;omega
   by_cases h1:x<nN
   rotate_left
   ·have g1':decide (x≥(nN:Int))=true:=by simp;omega
    have HD:Hid (decide (nodeHolds (grs rs) ⟨ps,ks,cells,is,res,keep,nodes,entry⟩ bd ⟨8,bop,d,e,a,b,f,cell,imm,args,nx,el⟩)=false):=lh (by rw [dfi,HX.out];rintro ⟨h,_⟩;exact h1 (h x (List.mem_of_getElem? HXL.out)).2)
    clear h0 h1
    go_wp2
    go_ret
    exact ⟨by rw [HD.out];rfl,HB2.out.trans (HBW.out.mono HZ2.out)⟩
   have g1':decide (x≥(nN:Int))=false:=by simp;omega
   have HQ2:=lh (all_take (Q:=fun x=>isOne x nN) HXL.out ⟨h0,h1⟩ HQ.out)
   clear h0 h1
   go_wp2
   go_roundw
   case rel=>exact ⟨k+1,by omega,by go_num,HQ2,by first | rfl | trivial⟩
   case measure=>simp [intOf];omega
  ·obtain rfl:k=L.length:=by omega
   have HNX:Hid (∀ x ∈ L,isOne x nN):=lh (by have:=HQ.out;rwa [List.take_of_length_le (by omega)] at this)
   clear hlt hkk
   go_wp2_with (first
    | (go_at_call 34;refine (rwant_8 _).mono ?_;rintro ee w5 ⟨rfl,hb5⟩;have HBW:=lh (HBW.out.trans (hb5.mono HBW.out.size));have HG:=lh (HG.out.below hb5 HG.out.lt);have HN:=lh (HN.out.below hb5 HN.out.lt);obtain ⟨n0,n1,n2,n3,n4,n5,n6,n7,n8,n9,n10,n11⟩:=cells12 HN.out;clear hb5))
   have HBW:=lh (HBW.out.alloc HBW.out.size (.cells #[.int .i64 d,.int .i64 e,.int .i64 a,.int .i64 b] 3))
   have HP:Hid (Blk (w5.alloc (.cells #[.int .i64 d,.int .i64 e,.int .i64 a,.int .i64 b] 3)) w5.heap.size 3 #[.int .i64 d,.int .i64 e,.int .i64 a,.int .i64 b]):=lh (Blk.new w5 _ _)
   have HG:=lh (HG.out.alloc (.cells #[.int .i64 d,.int .i64 e,.int .i64 a,.int .i64 b] 3))
   have HN:=lh (HN.out.alloc (.cells #[.int .i64 d,.int .i64 e,.int .i64 a,.int .i64 b] 3))
   obtain ⟨pl,HPL⟩:∃ x,Hid (x=w5.heap.size):=⟨_,lh rfl⟩
   obtain ⟨v6,hv6⟩:∃ W,W=w5.alloc (.cells #[.int .i64 d,.int .i64 e,.int .i64 a,.int .i64 b] 3):=⟨_,rfl⟩
   rw [← hv6,← HPL.out] at HP
   rw [← hv6] at HBW HG HN
   rw [← hv6,← HPL.out]
   clear hv6
   go_loopw [57] (fun i wr=>∃ k:Nat,k≤4∧i=.int .i64 k∧Hid (∀ i,i<k→asked ks bd ((wantOf 8).getD i 45) ([d,e,a,b].getD i 0))∧Hid (Below W2.heap.size W2 wr)∧Hid (Blk wr w.heap.size 35 #[.slice po nP pc,.slice ko nK kc,.int .i64 cells,.slice io nI ic,.bool res,.int .i64 keep,.slice no nN nc,.int .i64 entry])∧Hid (Blk wr (w.heap.size+1) 47 #[.int .u8 8,.int .u8 bop,.int .i64 d,.int .i64 e,.int .i64 a,.int .i64 b,.int .i64 f,.int .i64 cell,.int .u64 imm,.slice ao nA ac,.int .i64 nx,.int .i64 el])∧Hid (Blk wr pl 3 #[.int .i64 d,.int .i64 e,.int .i64 a,.int .i64 b])) (fun i _=>4-(intOf i).toNat)
   case atStart=>exact ⟨0,by omega,rfl,lh (fun i hi=>by omega),HBW,HG,HN,HP⟩
   case round =>
    clear HBW HG HN HP HQ HR4
    obtain ⟨k,hkk,rfl,HQ,HBW,HG,HN,HP⟩:=hrel
    obtain ⟨g0,g1,g2,g3,g4,g5,g6,g7⟩:=cells8 HG.out
    obtain ⟨n0,n1,n2,n3,n4,n5,n6,n7,n8,n9,n10,n11⟩:=cells12 HN.out
    have p0:wr.cell? ⟨pl,0,none⟩=some (.int .i64 d):=HP.out.cell 0
    have p1:wr.cell? ⟨pl,1,none⟩=some (.int .i64 e):=HP.out.cell 1
    have p2:wr.cell? ⟨pl,2,none⟩=some (.int .i64 a):=HP.out.cell 2
    have p3:wr.cell? ⟨pl,3,none⟩=some (.int .i64 b):=HP.out.cell 3
    rcases (show k=0∨k=1∨k=2∨k=3∨k=4 by omega) with rfl | rfl | rfl | rfl | rfl
    ·have HQ2:=lh (upto_snoc HQ.out (show asked ks bd 45 d from asked_no (by decide) (by decide)))
     go_wp2
     go_roundw
     case rel=>exact ⟨1,by omega,by go_num,HQ2,HBW,HG,HN,HP⟩
     case measure=>simp [intOf]
    ·have HQ2:=lh (upto_snoc HQ.out (show asked ks bd 45 e from asked_no (by decide) (by decide)))
     go_wp2
     go_roundw
     case rel=>exact ⟨2,by omega,by go_num,HQ2,HBW,HG,HN,HP⟩
     case measure=>simp [intOf]
    ·by_cases hf:fits ks bd a 1
     ·have H1:Hid (decide (fits ks bd a 1)=true):=lh (decide_eq_true hf)
      have HQ2:=lh (upto_snoc HQ.out (show asked ks bd 112 a from asked_p.2 hf))
      clear hf
      go_wp2_with (first | (go_at_call 32;refine (rfits_any B ks po ko io no nP pc nK kc nI ic nN nc cells keep entry res bd a 1 _ (HK.out.below (HBW.out.mono hB2)) HKL.out hnK (Nat.le_trans hB2 HBW.out.size)).mono ?_;rintro ee wf ⟨rfl,hbf⟩;rw [H1.out];have HBW:=lh (HBW.out.trans (hbf.mono HBW.out.size));have HG:=lh (HG.out.below hbf HG.out.lt);have HN:=lh (HN.out.below hbf HN.out.lt);have HP:=lh (HP.out.below hbf HP.out.lt);clear hbf;obtain ⟨g0,g1,g2,g3,g4,g5,g6,g7⟩:=cells8 HG.out;obtain ⟨n0,n1,n2,n3,n4,n5,n6,n7,n8,n9,n10,n11⟩:=cells12 HN.out))
      go_roundw
      case rel=>exact ⟨3,by omega,by go_num,HQ2,HBW,HG,HN,HP⟩
      case measure=>simp [intOf]
     ·have H1:Hid (decide (fits ks bd a 1)=false):=lh (decide_eq_false hf)
      have HD:Hid (decide (nodeHolds (grs rs) ⟨ps,ks,cells,is,res,keep,nodes,entry⟩ bd ⟨8,bop,d,e,a,b,f,cell,imm,args,nx,el⟩)=false):=lh (by rw [dfi,HX.out];rintro ⟨_,h,_⟩;exact hf (asked_p.1 (h 2 (by omega))))
      clear hf
      go_wp2_with (first | (go_at_call 32;refine (rfits_any B ks po ko io no nP pc nK kc nI ic nN nc cells keep entry res bd a 1 _ (HK.out.below (HBW.out.mono hB2)) HKL.out hnK (Nat.le_trans hB2 HBW.out.size)).mono ?_;rintro ee wf ⟨rfl,hbf⟩;rw [H1.out];have HBW:=lh (HBW.out.trans (hbf.mono HBW.out.size));have HG:=lh (HG.out.below hbf HG.out.lt);have HN:=lh (HN.out.below hbf HN.out.lt);clear hbf;obtain ⟨g0,g1,g2,g3,g4,g5,g6,g7⟩:=cells8 HG.out;obtain ⟨n0,n1,n2,n3,n4,n5,n6,n7,n8,n9,n10,n11⟩:=cells12 HN.out))
      go_ret
      exact ⟨by rw [HD.out];rfl,HB2.out.trans (HBW.out.mono HZ2.out)⟩
    ·by_cases hf:fits ks bd b 0
     ·have H1:Hid (decide (fits ks bd b 0)=true):=lh (decide_eq_true hf)
      have HQ2:=lh (upto_snoc HQ.out (show asked ks bd 110 b from asked_n.2 hf))
      clear hf
      go_wp2_with (first | (go_at_call 32;refine (rfits_any B ks po ko io no nP pc nK kc nI ic nN nc cells keep entry res bd b 0 _ (HK.out.below (HBW.out.mono hB2)) HKL.out hnK (Nat.le_trans hB2 HBW.out.size)).mono ?_;rintro ee wf ⟨rfl,hbf⟩;rw [H1.out];have HBW:=lh (HBW.out.trans (hbf.mono HBW.out.size));have HG:=lh (HG.out.below hbf HG.out.lt);have HN:=lh (HN.out.below hbf HN.out.lt);have HP:=lh (HP.out.below hbf HP.out.lt);clear hbf;obtain ⟨g0,g1,g2,g3,g4,g5,g6,g7⟩:=cells8 HG.out;obtain ⟨n0,n1,n2,n3,n4,n5,n6,n7,n8,n9,n10,n11⟩:=cells12 HN.out))
      go_roundw
      case rel=>exact ⟨4,by omega,by go_num,HQ2,HBW,HG,HN,HP⟩
      case measure=>simp [intOf]
     ·have H1:Hid (decide (fits ks bd b 0)=false):=lh (decide_eq_false hf)
      have HD:Hid (decide (nodeHolds (grs rs) ⟨ps,ks,cells,is,res,keep,nodes,entry⟩ bd ⟨8,bop,d,e,a,b,f,cell,imm,args,nx,el⟩)=false):=lh (by rw [dfi,HX.out];rintro ⟨_,h,_⟩;exact hf (asked_n.1 (h 3 (by omega))))
      clear hf
      go_wp2_with (first | (go_at_call 32;refine (rfits_any B ks po ko io no nP pc nK kc nI ic nN nc cells keep entry res bd b 0 _ (HK.out.below (HBW.out.mono hB2)) HKL.out hnK (Nat.le_trans hB2 HBW.out.size)).mono ?_;rintro ee wf ⟨rfl,hbf⟩;rw [H1.out];have HBW:=lh (HBW.out.trans (hbf.mono HBW.out.size));have HG:=lh (HG.out.below hbf HG.out.lt);have HN:=lh (HN.out.below hbf HN.out.lt);clear hbf;obtain ⟨g0,g1,g2,g3,g4,g5,g6,g7⟩:=cells8 HG.out;obtain ⟨n0,n1,n2,n3,n4,n5,n6,n7,n8,n9,n10,n11⟩:=cells12 HN.out))
      go_ret
      exact ⟨by rw [HD.out];rfl,HB2.out.trans (HBW.out.mono HZ2.out)⟩
    ·have HD:Hid (decide (nodeHolds (grs rs) ⟨ps,ks,cells,is,res,keep,nodes,entry⟩ bd ⟨8,bop,d,e,a,b,f,cell,imm,args,nx,el⟩)=true):=lh (by rw [decide_eq_true_eq,HX.out];exact ⟨HNX.out,HQ.out,by simp [restOf]⟩)
     go_wp2
     go_ret
     exact ⟨by rw [HD.out];rfl,HB2.out.trans (HBW.out.mono HZ2.out)⟩

theorem rnode_9 (B:Nat) (rs:List RG) (ps ks is:List Int) (nodes:List Nd) (fo:Option Addr) (nF cF:Nat) (po ko io no:Option Addr) (nP pc nK kc nI ic nN nc:Nat) (cells keep entry:Int) (res bd:Bool) (bop d e a b f cell imm:Int) (args:List Int) (nx el:Int) (ao:Option Addr) (nA ac:Nat) (w:World)
  (HF0:RdP w B fo nF rs) (hk:Reads w B 1 ko nK (u8c ks)) (hkl:ks.length=nK) (hnK:nK≤140737488351232) (ha:Reads w B 1 ao nA (i64c args)) (hal:args.length=nA) (hnA:nA*8≤140737488351232) (hB:B≤w.heap.size) (hk1:∀ k ∈ ks,k=0∨k=1)
  (hh:∀ g ∈ grs rs,headHolds g bd) (hnl:nodes.length=nN) :
  Calls Tryz.prog 17 #[.slice fo nF cF,.agg #[.slice po nP pc,.slice ko nK kc,.int .i64 cells,.slice io nI ic,.bool res,.int .i64 keep,.slice no nN nc,.int .i64 entry],.bool bd,.agg #[.int .u8 9,.int .u8 bop,.int .i64 d,.int .i64 e,.int .i64 a,.int .i64 b,.int .i64 f,.int .i64 cell,.int .u64 imm,.slice ao nA ac,.int .i64 nx,.int .i64 el]] w fun ee w'=>ee=.returned (.bool (decide (nodeHolds (grs rs) ⟨ps,ks,cells,is,res,keep,nodes,entry⟩ bd ⟨9,bop,d,e,a,b,f,cell,imm,args,nx,el⟩)))∧Below w.heap.size w w':=by
 have HB2:Hid (Below w.heap.size w ((w.alloc (.cells #[.slice po nP pc,.slice ko nK kc,.int .i64 cells,.slice io nI ic,.bool res,.int .i64 keep,.slice no nN nc,.int .i64 entry] 35)).alloc (.cells #[.int .u8 9,.int .u8 bop,.int .i64 d,.int .i64 e,.int .i64 a,.int .i64 b,.int .i64 f,.int .i64 cell,.int .u64 imm,.slice ao nA ac,.int .i64 nx,.int .i64 el] 47))):=((Below.refl _ _).alloc (Nat.le_refl _) _).alloc (by simp) _
 have hB2:B≤((w.alloc (.cells #[.slice po nP pc,.slice ko nK kc,.int .i64 cells,.slice io nI ic,.bool res,.int .i64 keep,.slice no nN nc,.int .i64 entry] 35)).alloc (.cells #[.int .u8 9,.int .u8 bop,.int .i64 d,.int .i64 e,.int .i64 a,.int .i64 b,.int .i64 f,.int .i64 cell,.int .u64 imm,.slice ao nA ac,.int .i64 nx,.int .i64 el] 47)).heap.size:=by simp;omega
 have HG:Hid (Blk ((w.alloc (.cells #[.slice po nP pc,.slice ko nK kc,.int .i64 cells,.slice io nI ic,.bool res,.int .i64 keep,.slice no nN nc,.int .i64 entry] 35)).alloc (.cells #[.int .u8 9,.int .u8 bop,.int .i64 d,.int .i64 e,.int .i64 a,.int .i64 b,.int .i64 f,.int .i64 cell,.int .u64 imm,.slice ao nA ac,.int .i64 nx,.int .i64 el] 47)) w.heap.size 35 #[.slice po nP pc,.slice ko nK kc,.int .i64 cells,.slice io nI ic,.bool res,.int .i64 keep,.slice no nN nc,.int .i64 entry]):=lh ((Blk.new w _ _).alloc _)
 have HN:Hid (Blk ((w.alloc (.cells #[.slice po nP pc,.slice ko nK kc,.int .i64 cells,.slice io nI ic,.bool res,.int .i64 keep,.slice no nN nc,.int .i64 entry] 35)).alloc (.cells #[.int .u8 9,.int .u8 bop,.int .i64 d,.int .i64 e,.int .i64 a,.int .i64 b,.int .i64 f,.int .i64 cell,.int .u64 imm,.slice ao nA ac,.int .i64 nx,.int .i64 el] 47)) (w.heap.size+1) 47 #[.int .u8 9,.int .u8 bop,.int .i64 d,.int .i64 e,.int .i64 a,.int .i64 b,.int .i64 f,.int .i64 cell,.int .u64 imm,.slice ao nA ac,.int .i64 nx,.int .i64 el]):=lh (blk_2nd w _ _ _ _)
 have HK:=lh (hk.below (HB2.out.mono hB))
 have HF:=lh (HF0.below (HB2.out.mono hB))
 have HA:=lh (ha.below (HB2.out.mono hB))
 have HKL:=lh hkl
 have HAL:=lh hal
 have HH:=lh hh
 have HNL:=lh hnl
 have HK1:=lh hk1
 have HGL:Hid ((grs rs).length=nF):=lh (by rw [length_grs,HF0.len])
 have HX:Hid (nodeHolds (grs rs) ⟨ps,ks,cells,is,res,keep,nodes,entry⟩ bd ⟨9,bop,d,e,a,b,f,cell,imm,args,nx,el⟩↔(∀ x ∈ nextsOf ⟨9,bop,d,e,a,b,f,cell,imm,args,nx,el⟩,isOne x nN)∧(∀ i,i<4→asked ks bd ((wantOf 9).getD i 45) ([d,e,a,b].getD i 0))∧restOf (grs rs) ⟨ps,ks,cells,is,res,keep,nodes,entry⟩ bd ⟨9,bop,d,e,a,b,f,cell,imm,args,nx,el⟩):=lh (by
  have h:=holds_split (gs:=grs rs) (g:=⟨ps,ks,cells,is,res,keep,nodes,entry⟩) (bd:=bd) (n:=⟨9,bop,d,e,a,b,f,cell,imm,args,nx,el⟩) hk1 (by show (1:Int)≤9;decide) (by show (9:Int)≤18;decide)
  rw [show (⟨ps,ks,cells,is,res,keep,nodes,entry⟩:Gr).nodes.length=nN from hnl] at h
  exact h)
 have hln:=nexts_lenC ⟨9,bop,d,e,a,b,f,cell,imm,args,nx,el⟩
 obtain ⟨L,hL⟩:∃ L,L=nextsOf ⟨9,bop,d,e,a,b,f,cell,imm,args,nx,el⟩:=⟨_,rfl⟩
 rw [← hL] at HX hln
 have HL:=lh hL
 have HBW:Hid (Below ((w.alloc (.cells #[.slice po nP pc,.slice ko nK kc,.int .i64 cells,.slice io nI ic,.bool res,.int .i64 keep,.slice no nN nc,.int .i64 entry] 35)).alloc (.cells #[.int .u8 9,.int .u8 bop,.int .i64 d,.int .i64 e,.int .i64 a,.int .i64 b,.int .i64 f,.int .i64 cell,.int .u64 imm,.slice ao nA ac,.int .i64 nx,.int .i64 el] 47)).heap.size ((w.alloc (.cells #[.slice po nP pc,.slice ko nK kc,.int .i64 cells,.slice io nI ic,.bool res,.int .i64 keep,.slice no nN nc,.int .i64 entry] 35)).alloc (.cells #[.int .u8 9,.int .u8 bop,.int .i64 d,.int .i64 e,.int .i64 a,.int .i64 b,.int .i64 f,.int .i64 cell,.int .u64 imm,.slice ao nA ac,.int .i64 nx,.int .i64 el] 47)) ((w.alloc (.cells #[.slice po nP pc,.slice ko nK kc,.int .i64 cells,.slice io nI ic,.bool res,.int .i64 keep,.slice no nN nc,.int .i64 entry] 35)).alloc (.cells #[.int .u8 9,.int .u8 bop,.int .i64 d,.int .i64 e,.int .i64 a,.int .i64 b,.int .i64 f,.int .i64 cell,.int .u64 imm,.slice ao nA ac,.int .i64 nx,.int .i64 el] 47))):=lh (Below.refl _ _)
 obtain ⟨W2,hW2⟩:∃ W,W=((w.alloc (.cells #[.slice po nP pc,.slice ko nK kc,.int .i64 cells,.slice io nI ic,.bool res,.int .i64 keep,.slice no nN nc,.int .i64 entry] 35)).alloc (.cells #[.int .u8 9,.int .u8 bop,.int .i64 d,.int .i64 e,.int .i64 a,.int .i64 b,.int .i64 f,.int .i64 cell,.int .u64 imm,.slice ao nA ac,.int .i64 nx,.int .i64 el] 47)):=⟨_,rfl⟩
 have HW2:=lh hW2
 have HZ2:Hid (w.heap.size≤W2.heap.size):=lh (by rw [hW2];exact HB2.out.size)
 rw [← hW2] at HB2 hB2 HG HN HK HF HA HBW
 clear HF0 hk hkl ha hal hh hnl hk1 hL hW2
 go_enter Tryz.func17,Tryz.ntmps17
 go_wp2_with (first
  | (go_at_call 33;rw [← HW2.out];refine (rnext_any 9 bop d e a b f cell imm args nx el ao nA ac _ (by decide) (by decide)).mono ?_;rintro ee w4 ⟨A4,c4,rfl,hr4,hc4,hb4⟩;rw [← HL.out] at hr4 ⊢;have HR4:=lh hr4;have HBW:=lh (HBW.out.trans (hb4.mono HBW.out.size));have HG:=lh (HG.out.below hb4 HG.out.lt);have HN:=lh (HN.out.below hb4 HN.out.lt);obtain ⟨g0,g1,g2,g3,g4,g5,g6,g7⟩:=cells8 HG.out;obtain ⟨n0,n1,n2,n3,n4,n5,n6,n7,n8,n9,n10,n11⟩:=cells12 HN.out;clear hr4 hb4 hc4))
 go_loopw [29] (fun i wr=>∃ k:Nat,k≤L.length∧i=.int .i64 k∧Hid (∀ x ∈ L.take k,isOne x nN)∧wr=w4) (fun i _=>L.length-(intOf i).toNat)
 case atStart=>exact ⟨0,Nat.zero_le _,rfl,lh (by simp),rfl⟩
 case round =>
  obtain ⟨k,hkk,rfl,HQ,rfl⟩:=hrel
  by_cases hlt:k<L.length
  ·obtain ⟨bx,ox,x,hA4,hbx,HXL,x1⟩:=HR4.out.int hlt
   subst hA4
   by_cases h0:0≤x
   rotate_left
   ·have g0':decide (x<0)=true:=by simp;omega
    have HD:Hid (decide (nodeHolds (grs rs) ⟨ps,ks,cells,is,res,keep,nodes,entry⟩ bd ⟨9,bop,d,e,a,b,f,cell,imm,args,nx,el⟩)=false):=lh (by rw [dfi,HX.out];rintro ⟨h,_⟩;exact h0 (h x (List.mem_of_getElem? HXL.out)).1)
    clear h0
    go_wp2
    go_ret
    exact ⟨by rw [HD.out];rfl,HB2.out.trans (HBW.out.mono HZ2.out)⟩
   have g0':decide (x<0)=false:=by simp;omega
   by_cases h1:x<nN
   rotate_left
   ·have g1':decide (x≥(nN:Int))=true:=by simp;omega
    have HD:Hid (decide (nodeHolds (grs rs) ⟨ps,ks,cells,is,res,keep,nodes,entry⟩ bd ⟨9,bop,d,e,a,b,f,cell,imm,args,nx,el⟩)=false):=lh (by rw [dfi,HX.out];rintro ⟨h,_⟩;exact h1 (h x (List.mem_of_getElem? HXL.out)).2)
    clear h0 h1
    go_wp2
    go_ret
    exact ⟨by rw [HD.out];rfl,HB2.out.trans (HBW.out.mono HZ2.out)⟩
   have g1':decide (x≥(nN:Int))=false:=by simp;omega
   have HQ2:=lh (all_take (Q:=fun x=>isOne x nN) HXL.out ⟨h0,h1⟩ HQ.out)
   clear h0 h1
   go_wp2
   go_roundw
   case rel=>exact ⟨k+1,by omega,by go_num,HQ2,by first | rfl | trivial⟩
   case measure=>simp [intOf];omega
  ·obtain rfl:k=L.length:=by omega
   have HNX:Hid (∀ x ∈ L,isOne x nN):=lh (by have:=HQ.out;rwa [List.take_of_length_le (by omega)] at this)
   clear hlt hkk
   go_wp2_with (first
    | (go_at_call 34;refine (rwant_9 _).mono ?_;rintro ee w5 ⟨rfl,hb5⟩;have HBW:=lh (HBW.out.trans (hb5.mono HBW.out.size));have HG:=lh (HG.out.below hb5 HG.out.lt);have HN:=lh (HN.out.below hb5 HN.out.lt);obtain ⟨n0,n1,n2,n3,n4,n5,n6,n7,n8,n9,n10,n11⟩:=cells12 HN.out;clear hb5))
   have HBW:=lh (HBW.out.alloc HBW.out.size (.cells #[.int .i64 d,.int .i64 e,.int .i64 a,.int .i64 b] 3))
   have HP:Hid (Blk (w5.alloc (.cells #[.int .i64 d,.int .i64 e,.int .i64 a,.int .i64 b] 3)) w5.heap.size 3 #[.int .i64 d,.int .i64 e,.int .i64 a,.int .i64 b]):=lh (Blk.new w5 _ _)
   have HG:=lh (HG.out.alloc (.cells #[.int .i64 d,.int .i64 e,.int .i64 a,.int .i64 b] 3))
   have HN:=lh (HN.out.alloc (.cells #[.int .i64 d,.int .i64 e,.int .i64 a,.int .i64 b] 3))
   obtain ⟨pl,HPL⟩:∃ x,Hid (x=w5.heap.size):=⟨_,lh rfl⟩
   obtain ⟨v6,hv6⟩:∃ W,W=w5.alloc (.cells #[.int .i64 d,.int .i64 e,.int .i64 a,.int .i64 b] 3):=⟨_,rfl⟩
   rw [← hv6,← HPL.out] at HP
   rw [← hv6] at HBW HG HN
   rw [← hv6,← HPL.out]
   clear hv6
   go_loopw [57] (fun i wr=>∃ k:Nat,k≤4∧i=.int .i64 k∧Hid (∀ i,i<k→asked ks bd ((wantOf 9).getD i 45) ([d,e,a,b].getD i 0))∧Hid (Below W2.heap.size W2 wr)∧Hid (Blk wr w.heap.size 35 #[.slice po nP pc,.slice ko nK kc,.int .i64 cells,.slice io nI ic,.bool res,.int .i64 keep,.slice no nN nc,.int .i64 entry])∧Hid (Blk wr (w.heap.size+1) 47 #[.int .u8 9,.int .u8 bop,.int .i64 d,.int .i64 e,.int .i64 a,.int .i64 b,.int .i64 f,.int .i64 cell,.int .u64 imm,.slice ao nA ac,.int .i64 nx,.int .i64 el])∧Hid (Blk wr pl 3 #[.int .i64 d,.int .i64 e,.int .i64 a,.int .i64 b])) (fun i _=>4-(intOf i).toNat)
   case atStart=>exact ⟨0,by omega,rfl,lh (fun i hi=>by omega),HBW,HG,HN,HP⟩
   case round =>
    clear HBW HG HN HP HQ HR4
    obtain ⟨k,hkk,rfl,HQ,HBW,HG,HN,HP⟩:=hrel
    obtain ⟨g0,g1,g2,g3,g4,g5,g6,g7⟩:=cells8 HG.out
    obtain ⟨n0,n1,n2,n3,n4,n5,n6,n7,n8,n9,n10,n11⟩:=cells12 HN.out
    have p0:wr.cell? ⟨pl,0,none⟩=some (.int .i64 d):=HP.out.cell 0
    have p1:wr.cell? ⟨pl,1,none⟩=some (.int .i64 e):=HP.out.cell 1
    have p2:wr.cell? ⟨pl,2,none⟩=some (.int .i64 a):=HP.out.cell 2
    have p3:wr.cell? ⟨pl,3,none⟩=some (.int .i64 b):=HP.out.cell 3
    rcases (show k=0∨k=1∨k=2∨k=3∨k=4 by omega) with rfl | rfl | rfl | rfl | rfl
    ·have HQ2:=lh (upto_snoc HQ.out (show asked ks bd 45 d from asked_no (by decide) (by decide)))
     go_wp2
     go_roundw
     case rel=>exact ⟨1,by omega,by go_num,HQ2,HBW,HG,HN,HP⟩
     case measure=>simp [intOf]
    ·have HQ2:=lh (upto_snoc HQ.out (show asked ks bd 45 e from asked_no (by decide) (by decide)))
     go_wp2
     go_roundw
     case rel=>exact ⟨2,by omega,by go_num,HQ2,HBW,HG,HN,HP⟩
     case measure=>simp [intOf]
    ·by_cases hf:fits ks bd a 0
     ·have H1:Hid (decide (fits ks bd a 0)=true):=lh (decide_eq_true hf)
      have HQ2:=lh (upto_snoc HQ.out (show asked ks bd 110 a from asked_n.2 hf))
      clear hf
      go_wp2_with (first | (go_at_call 32;refine (rfits_any B ks po ko io no nP pc nK kc nI ic nN nc cells keep entry res bd a 0 _ (HK.out.below (HBW.out.mono hB2)) HKL.out hnK (Nat.le_trans hB2 HBW.out.size)).mono ?_;rintro ee wf ⟨rfl,hbf⟩;rw [H1.out];have HBW:=lh (HBW.out.trans (hbf.mono HBW.out.size));have HG:=lh (HG.out.below hbf HG.out.lt);have HN:=lh (HN.out.below hbf HN.out.lt);have HP:=lh (HP.out.below hbf HP.out.lt);clear hbf;obtain ⟨g0,g1,g2,g3,g4,g5,g6,g7⟩:=cells8 HG.out;obtain ⟨n0,n1,n2,n3,n4,n5,n6,n7,n8,n9,n10,n11⟩:=cells12 HN.out))
      go_roundw
      case rel=>exact ⟨3,by omega,by go_num,HQ2,HBW,HG,HN,HP⟩
      case measure=>simp [intOf]
     ·have H1:Hid (decide (fits ks bd a 0)=false):=lh (decide_eq_false hf)
      have HD:Hid (decide (nodeHolds (grs rs) ⟨ps,ks,cells,is,res,keep,nodes,entry⟩ bd ⟨9,bop,d,e,a,b,f,cell,imm,args,nx,el⟩)=false):=lh (by rw [dfi,HX.out];rintro ⟨_,h,_⟩;exact hf (asked_n.1 (h 2 (by omega))))
      clear hf
      go_wp2_with (first | (go_at_call 32;refine (rfits_any B ks po ko io no nP pc nK kc nI ic nN nc cells keep entry res bd a 0 _ (HK.out.below (HBW.out.mono hB2)) HKL.out hnK (Nat.le_trans hB2 HBW.out.size)).mono ?_;rintro ee wf ⟨rfl,hbf⟩;rw [H1.out];have HBW:=lh (HBW.out.trans (hbf.mono HBW.out.size));have HG:=lh (HG.out.below hbf HG.out.lt);have HN:=lh (HN.out.below hbf HN.out.lt);clear hbf;obtain ⟨g0,g1,g2,g3,g4,g5,g6,g7⟩:=cells8 HG.out;obtain ⟨n0,n1,n2,n3,n4,n5,n6,n7,n8,n9,n10,n11⟩:=cells12 HN.out))
      go_ret
      exact ⟨by rw [HD.out];rfl,HB2.out.trans (HBW.out.mono HZ2.out)⟩
    ·have HQ2:=lh (upto_snoc HQ.out (show asked ks bd 45 b from asked_no (by decide) (by decide)))
     go_wp2
     go_roundw
     case rel=>exact ⟨4,by omega,by go_num,HQ2,HBW,HG,HN,HP⟩
     case measure=>simp [intOf]
    ·have HD:Hid (decide (nodeHolds (grs rs) ⟨ps,ks,cells,is,res,keep,nodes,entry⟩ bd ⟨9,bop,d,e,a,b,f,cell,imm,args,nx,el⟩)=true):=lh (by rw [decide_eq_true_eq,HX.out];exact ⟨HNX.out,HQ.out,by simp [restOf]⟩)
     go_wp2
     go_ret
     exact ⟨by rw [HD.out];rfl,HB2.out.trans (HBW.out.mono HZ2.out)⟩
end Go.Proofs.YtedmcfaghfgpoaaGreatDoor
