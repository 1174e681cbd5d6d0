/-
  Texts of one seat, one behind the other: Rcd, Rha.
-/
import Derived.StillTailTactics
import Derived.Deep.RegionHeld3
import Derived.Deep.QuietTactic
import Derived.Test.YtedmcfaghfgpoaaGreatDoorMA24
import Derived.Test.YtedmcfaghfgpoaaGreatDoorMA25

set_option linter.unusedVariables false
set_option linter.unusedSimpArgs false
set_option maxRecDepth 100000
set_option maxHeartbeats 51200000
namespace Go.Proofs.YtedmcfaghfgpoaaGreatDoor
open Go.ChangeShapes Go.WideShapes Go.ChangeAt Go.RowKit
theorem rnode_13 (B:Nat) (rs:List RG) (ps ks is:List Int) (nodes:List Nd) (fo:Option Addr) (nF cF:Nat) (po ko io no:Option Addr) (nP pc nK kc nI ic nN nc:Nat) (cells keep entry:Int) (res bd:Bool) (bop d e a b f cell imm:Int) (args:List Int) (nx el:Int) (ao:Option Addr) (nA ac:Nat) (w:World)
  (HF0:RdP w B fo nF rs) (hk:Reads w B 1 ko nK (u8c ks)) (hkl:ks.length=nK) (hnK:nK≤140737488351232) (ha:Reads w B 1 ao nA (i64c args)) (hal:args.length=nA) (hnA:nA*8≤140737488351232) (hB:B≤w.heap.size) (hk1:∀ k ∈ ks,k=0∨k=1)
  (hh:∀ g ∈ grs rs,headHolds g bd) (hnl:nodes.length=nN) :
  Calls Tryz.prog 17 #[.slice fo nF cF,.agg #[.slice po nP pc,.slice ko nK kc,.int .i64 cells,.slice io nI ic,.bool res,.int .i64 keep,.slice no nN nc,.int .i64 entry],.bool bd,.agg #[.int .u8 13,.int .u8 bop,.int .i64 d,.int .i64 e,.int .i64 a,.int .i64 b,.int .i64 f,.int .i64 cell,.int .u64 imm,.slice ao nA ac,.int .i64 nx,.int .i64 el]] w fun ee w'=>ee=.returned (.bool (decide (nodeHolds (grs rs) ⟨ps,ks,cells,is,res,keep,nodes,entry⟩ bd ⟨13,bop,d,e,a,b,f,cell,imm,args,nx,el⟩)))∧Below w.heap.size w w':=by
 have HB2:Hid (Below w.heap.size w ((w.alloc (.cells #[.slice po nP pc,.slice ko nK kc,.int .i64 cells,.slice io nI ic,.bool res,.int .i64 keep,.slice no nN nc,.int .i64 entry] 35)).alloc (.cells #[.int .u8 13,.int .u8 bop,.int .i64 d,.int .i64 e,.int .i64 a,.int .i64 b,.int .i64 f,.int .i64 cell,.int .u64 imm,.slice ao nA ac,.int .i64 nx,.int .i64 el] 47))):=((Below.refl _ _).alloc (Nat.le_refl _) _).alloc (by simp) _
 have hB2:B≤((w.alloc (.cells #[.slice po nP pc,.slice ko nK kc,.int .i64 cells,.slice io nI ic,.bool res,.int .i64 keep,.slice no nN nc,.int .i64 entry] 35)).alloc (.cells #[.int .u8 13,.int .u8 bop,.int .i64 d,.int .i64 e,.int .i64 a,.int .i64 b,.int .i64 f,.int .i64 cell,.int .u64 imm,.slice ao nA ac,.int .i64 nx,.int .i64 el] 47)).heap.size:=by simp;omega
 have HG:Hid (Blk ((w.alloc (.cells #[.slice po nP pc,.slice ko nK kc,.int .i64 cells,.slice io nI ic,.bool res,.int .i64 keep,.slice no nN nc,.int .i64 entry] 35)).alloc (.cells #[.int .u8 13,.int .u8 bop,.int .i64 d,.int .i64 e,.int .i64 a,.int .i64 b,.int .i64 f,.int .i64 cell,.int .u64 imm,.slice ao nA ac,.int .i64 nx,.int .i64 el] 47)) w.heap.size 35 #[.slice po nP pc,.slice ko nK kc,.int .i64 cells,.slice io nI ic,.bool res,.int .i64 keep,.slice no nN nc,.int .i64 entry]):=lh ((Blk.new w _ _).alloc _)
 have HN:Hid (Blk ((w.alloc (.cells #[.slice po nP pc,.slice ko nK kc,.int .i64 cells,.slice io nI ic,.bool res,.int .i64 keep,.slice no nN nc,.int .i64 entry] 35)).alloc (.cells #[.int .u8 13,.int .u8 bop,.int .i64 d,.int .i64 e,.int .i64 a,.int .i64 b,.int .i64 f,.int .i64 cell,.int .u64 imm,.slice ao nA ac,.int .i64 nx,.int .i64 el] 47)) (w.heap.size+1) 47 #[.int .u8 13,.int .u8 bop,.int .i64 d,.int .i64 e,.int .i64 a,.int .i64 b,.int .i64 f,.int .i64 cell,.int .u64 imm,.slice ao nA ac,.int .i64 nx,.int .i64 el]):=lh (blk_2nd w _ _ _ _)
 have HK:=lh (hk.below (HB2.out.mono hB))
 have HF:=lh (HF0.below (HB2.out.mono hB))
 have HA:=lh (ha.below (HB2.out.mono hB))
 have HKL:=lh hkl
 have HAL:=lh hal
 have HH:=lh hh
 have HNL:=lh hnl
 have HK1:=lh hk1
 have HGL:Hid ((grs rs).length=nF):=lh (by rw [length_grs,HF0.len])
 have HX:Hid (nodeHolds (grs rs) ⟨ps,ks,cells,is,res,keep,nodes,entry⟩ bd ⟨13,bop,d,e,a,b,f,cell,imm,args,nx,el⟩↔(∀ x ∈ nextsOf ⟨13,bop,d,e,a,b,f,cell,imm,args,nx,el⟩,isOne x nN)∧(∀ i,i<4→asked ks bd ((wantOf 13).getD i 45) ([d,e,a,b].getD i 0))∧restOf (grs rs) ⟨ps,ks,cells,is,res,keep,nodes,entry⟩ bd ⟨13,bop,d,e,a,b,f,cell,imm,args,nx,el⟩):=lh (by
  have h:=holds_split (gs:=grs rs) (g:=⟨ps,ks,cells,is,res,keep,nodes,entry⟩) (bd:=bd) (n:=⟨13,bop,d,e,a,b,f,cell,imm,args,nx,el⟩) hk1 (by show (1:Int)≤13;decide) (by show (13:Int)≤18;decide)
  rw [show (⟨ps,ks,cells,is,res,keep,nodes,entry⟩:Gr).nodes.length=nN from hnl] at h
  exact h)
 have hln:=nexts_lenC ⟨13,bop,d,e,a,b,f,cell,imm,args,nx,el⟩
 obtain ⟨L,hL⟩:∃ L,L=nextsOf ⟨13,bop,d,e,a,b,f,cell,imm,args,nx,el⟩:=⟨_,rfl⟩
 rw [← hL] at HX hln
 have HL:=lh hL
 have HBW:Hid (Below ((w.alloc (.cells #[.slice po nP pc,.slice ko nK kc,.int .i64 cells,.slice io nI ic,.bool res,.int .i64 keep,.slice no nN nc,.int .i64 entry] 35)).alloc (.cells #[.int .u8 13,.int .u8 bop,.int .i64 d,.int .i64 e,.int .i64 a,.int .i64 b,.int .i64 f,.int .i64 cell,.int .u64 imm,.slice ao nA ac,.int .i64 nx,.int .i64 el] 47)).heap.size ((w.alloc (.cells #[.slice po nP pc,.slice ko nK kc,.int .i64 cells,.slice io nI ic,.bool res,.int .i64 keep,.slice no nN nc,.int .i64 entry] 35)).alloc (.cells #[.int .u8 13,.int .u8 bop,.int .i64 d,.int .i64 e,.int .i64 a,.int .i64 b,.int .i64 f,.int .i64 cell,.int .u64 imm,.slice ao nA ac,.int .i64 nx,.int .i64 el] 47)) ((w.alloc (.cells #[.slice po nP pc,.slice ko nK kc,.int .i64 cells,.slice io nI ic,.bool res,.int .i64 keep,.slice no nN nc,.int .i64 entry] 35)).alloc (.cells #[.int .u8 13,.int .u8 bop,.int .i64 d,.int .i64 e,.int .i64 a,.int .i64 b,.int .i64 f,.int .i64 cell,.int .u64 imm,.slice ao nA ac,.int .i64 nx,.int .i64 el] 47))):=lh (Below.refl _ _)
 obtain ⟨W2,hW2⟩:∃ W,W=((w.alloc (.cells #[.slice po nP pc,.slice ko nK kc,.int .i64 cells,.slice io nI ic,.bool res,.int .i64 keep,.slice no nN nc,.int .i64 entry] 35)).alloc (.cells #[.int .u8 13,.int .u8 bop,.int .i64 d,.int .i64 e,.int .i64 a,.int .i64 b,.int .i64 f,.int .i64 cell,.int .u64 imm,.slice ao nA ac,.int .i64 nx,.int .i64 el] 47)):=⟨_,rfl⟩
 have HW2:=lh hW2
 have HZ2:Hid (w.heap.size≤W2.heap.size):=lh (by rw [hW2];exact HB2.out.size)
 rw [← hW2] at HB2 hB2 HG HN HK HF HA HBW
 clear HF0 hk hkl ha hal hh hnl hk1 hL hW2
 go_enter Tryz.func17,Tryz.ntmps17
 go_wp2_with (first
  | (go_at_call 33;rw [← HW2.out];refine (rnext_any 13 bop d e a b f cell imm args nx el ao nA ac _ (by decide) (by decide)).mono ?_;rintro ee w4 ⟨A4,c4,rfl,hr4,hc4,hb4⟩;rw [← HL.out] at hr4 ⊢;have HR4:=lh hr4;have HBW:=lh (HBW.out.trans (hb4.mono HBW.out.size));have HG:=lh (HG.out.below hb4 HG.out.lt);have HN:=lh (HN.out.below hb4 HN.out.lt);obtain ⟨g0,g1,g2,g3,g4,g5,g6,g7⟩:=cells8 HG.out;obtain ⟨n0,n1,n2,n3,n4,n5,n6,n7,n8,n9,n10,n11⟩:=cells12 HN.out;clear hr4 hb4 hc4))
 go_loopw [29] (fun i wr=>∃ k:Nat,k≤L.length∧i=.int .i64 k∧Hid (∀ x ∈ L.take k,isOne x nN)∧wr=w4) (fun i _=>L.length-(intOf i).toNat)
 case atStart=>exact ⟨0,Nat.zero_le _,rfl,lh (by simp),rfl⟩
 case round =>
  obtain ⟨k,hkk,rfl,HQ,rfl⟩:=hrel
  by_cases hlt:k<L.length
  ·obtain ⟨bx,ox,x,hA4,hbx,HXL,x1⟩:=HR4.out.int hlt
   subst hA4
   by_cases h0:0≤x
   rotate_left
   ·have g0':decide (x<0)=true:=by simp;omega
    have HD:Hid (decide (nodeHolds (grs rs) ⟨ps,ks,cells,is,res,keep,nodes,entry⟩ bd ⟨13,bop,d,e,a,b,f,cell,imm,args,nx,el⟩)=false):=lh (by rw [dfi,HX.out];rintro ⟨h,_⟩;exact h0 (h x (List.mem_of_getElem? HXL.out)).1)
    clear h0
    go_wp2
    go_ret
    exact ⟨by rw [HD.out];rfl,HB2.out.trans (HBW.out.mono HZ2.out)⟩
   have g0':decide (x<0)=false:=by simp;omega
   by_cases h1:x<nN
   rotate_left
   ·have g1':decide (x≥(nN:Int))=true:=by simp;omega
    have HD:Hid (decide (nodeHolds (grs rs) ⟨ps,ks,cells,is,res,keep,nodes,entry⟩ bd ⟨13,bop,d,e,a,b,f,cell,imm,args,nx,el⟩)=false):=lh (by rw [dfi,HX.out];rintro ⟨h,_⟩;exact h1 (h x (List.mem_of_getElem? HXL.out)).2)
    clear h0 h1
    go_wp2
    go_ret
    exact ⟨by rw [HD.out];rfl,HB2.out.trans (HBW.out.mono HZ2.out)⟩
   have g1':decide (x≥(nN:Int))=false:=by simp;omega
   have HQ2:=lh (all_take (Q:=fun x=>isOne x nN) HXL.out ⟨h0,h1⟩ HQ.out)
   clear h0 h1
   go_wp2
   go_roundw
   case rel=>exact ⟨k+1,by omega,by go_num,HQ2,by first | rfl | trivial⟩
   case measure=>simp [intOf];omega
  ·obtain rfl:k=L.length:=by omega
   have HNX:Hid (∀ x ∈ L,isOne x nN):=lh (by have:=HQ.out;rwa [List.take_of_length_le (by omega)] at this)
   clear hlt hkk
   go_wp2_with (first
    | (go_at_call 34;refine (rwant_13 _).mono ?_;rintro ee w5 ⟨rfl,hb5⟩;have HBW:=lh (HBW.out.trans (hb5.mono HBW.out.size));have HG:=lh (HG.out.below hb5 HG.out.lt);have HN:=lh (HN.out.below hb5 HN.out.lt);obtain ⟨n0,n1,n2,n3,n4,n5,n6,n7,n8,n9,n10,n11⟩:=cells12 HN.out;clear hb5))
   have HBW:=lh (HBW.out.alloc HBW.out.size (.cells #[.int .i64 d,.int .i64 e,.int .i64 a,.int .i64 b] 3))
   have HP:Hid (Blk (w5.alloc (.cells #[.int .i64 d,.int .i64 e,.int .i64 a,.int .i64 b] 3)) w5.heap.size 3 #[.int .i64 d,.int .i64 e,.int .i64 a,.int .i64 b]):=lh (Blk.new w5 _ _)
   have HG:=lh (HG.out.alloc (.cells #[.int .i64 d,.int .i64 e,.int .i64 a,.int .i64 b] 3))
   have HN:=lh (HN.out.alloc (.cells #[.int .i64 d,.int .i64 e,.int .i64 a,.int .i64 b] 3))
   obtain ⟨pl,HPL⟩:∃ x,Hid (x=w5.heap.size):=⟨_,lh rfl⟩
   obtain ⟨v6,hv6⟩:∃ W,W=w5.alloc (.cells #[.int .i64 d,.int .i64 e,.int .i64 a,.int .i64 b] 3):=⟨_,rfl⟩
   rw [← hv6,← HPL.out] at HP
   rw [← hv6] at HBW HG HN
   rw [← hv6,← HPL.out]
   clear hv6
   go_loopw [57] (fun i wr=>∃ k:Nat,k≤4∧i=.int .i64 k∧Hid (∀ i,i<k→asked ks bd ((wantOf 13).getD i 45) ([d,e,a,b].getD i 0))∧Hid (Below W2.heap.size W2 wr)∧Hid (Blk wr w.heap.size 35 #[.slice po nP pc,.slice ko nK kc,.int .i64 cells,.slice io nI ic,.bool res,.int .i64 keep,.slice no nN nc,.int .i64 entry])∧Hid (Blk wr (w.heap.size+1) 47 #[.int .u8 13,.int .u8 bop,.int .i64 d,.int .i64 e,.int .i64 a,.int .i64 b,.int .i64 f,.int .i64 cell,.int .u64 imm,.slice ao nA ac,.int .i64 nx,.int .i64 el])∧Hid (Blk wr pl 3 #[.int .i64 d,.int .i64 e,.int .i64 a,.int .i64 b])) (fun i _=>4-(intOf i).toNat)
   case atStart=>exact ⟨0,by omega,rfl,lh (fun i hi=>by omega),HBW,HG,HN,HP⟩
   case round =>
    clear HBW HG HN HP HQ HR4
    obtain ⟨k,hkk,rfl,HQ,HBW,HG,HN,HP⟩:=hrel
    obtain ⟨g0,g1,g2,g3,g4,g5,g6,g7⟩:=cells8 HG.out
    obtain ⟨n0,n1,n2,n3,n4,n5,n6,n7,n8,n9,n10,n11⟩:=cells12 HN.out
    have p0:wr.cell? ⟨pl,0,none⟩=some (.int .i64 d):=HP.out.cell 0
    have p1:wr.cell? ⟨pl,1,none⟩=some (.int .i64 e):=HP.out.cell 1
    have p2:wr.cell? ⟨pl,2,none⟩=some (.int .i64 a):=HP.out.cell 2
    have p3:wr.cell? ⟨pl,3,none⟩=some (.int .i64 b):=HP.out.cell 3
    rcases (show k=0∨k=1∨k=2∨k=3∨k=4 by omega) with rfl | rfl | rfl | rfl | hk4
    ·have HQ2:=lh (upto_snoc HQ.out (show asked ks bd 45 d from asked_no (by decide) (by decide)))
     go_wp2
     go_roundw
     case rel=>exact ⟨1,by omega,by go_num,HQ2,HBW,HG,HN,HP⟩
     case measure=>simp [intOf]
    ·have HQ2:=lh (upto_snoc HQ.out (show asked ks bd 45 e from asked_no (by decide) (by decide)))
     go_wp2
     go_roundw
     case rel=>exact ⟨2,by omega,by go_num,HQ2,HBW,HG,HN,HP⟩
     case measure=>simp [intOf]
    ·have HQ2:=lh (upto_snoc HQ.out (show asked ks bd 45 a from asked_no (by decide) (by decide)))
     go_wp2
     go_roundw
     case rel=>exact ⟨3,by omega,by go_num,HQ2,HBW,HG,HN,HP⟩
     case measure=>simp [intOf]
    ·have HQ2:=lh (upto_snoc HQ.out (show asked ks bd 45 b from asked_no (by decide) (by decide)))
     go_wp2
     go_roundw
     case rel=>exact ⟨4,by omega,by go_num,HQ2,HBW,HG,HN,HP⟩
     case measure=>simp [intOf]
    ·have hk5:4≤k:=by omega
     have HQ:Hid (∀ i,i<4→asked ks bd ((wantOf 13).getD i 45) ([d,e,a,b].getD i 0)):=lh (fun i hi=>HQ.out i (by omega))
     clear hk4
     cases bd
     ·have HRS:Hid (restOf (grs rs) ⟨ps,ks,cells,is,res,keep,nodes,entry⟩ false ⟨13,bop,d,e,a,b,f,cell,imm,args,nx,el⟩↔hands (grs rs) ⟨ps,ks,cells,is,res,keep,nodes,entry⟩ false f args):=lh (by simp [restOf])
      by_cases hf0:0≤f
      rotate_left
      ·have q1:decide (f<0)=true:=by simp;omega
       have HD:Hid (decide (nodeHolds (grs rs) ⟨ps,ks,cells,is,res,keep,nodes,entry⟩ false ⟨13,bop,d,e,a,b,f,cell,imm,args,nx,el⟩)=false):=lh (by rw [dfi,HX.out];rintro ⟨_,_,h⟩;exact hf0 (HRS.out.1 h).1.1)
       clear hf0
       go_wp2
       go_quiet (fail)
       go_wp2
       go_ret
       exact ⟨by rw [HD.out];rfl,by first | exact HB2.out.trans (HBW.out.mono HZ2.out) | exact below_drewN (HB2.out.trans (HBW.out.mono HZ2.out)) _⟩
      have q1:decide (f<0)=false:=by simp;omega
      by_cases hf1:f<nF
      rotate_left
      ·have q2:decide (f≥(nF:Int))=true:=by simp;omega
       have HD:Hid (decide (nodeHolds (grs rs) ⟨ps,ks,cells,is,res,keep,nodes,entry⟩ false ⟨13,bop,d,e,a,b,f,cell,imm,args,nx,el⟩)=false):=lh (by rw [dfi,HX.out];rintro ⟨_,_,h⟩;have h2:=(HRS.out.1 h).1.2;rw [HGL.out] at h2;exact hf1 h2)
       clear hf0 hf1
       go_wp2
       go_quiet (fail)
       go_wp2
       go_ret
       exact ⟨by rw [HD.out];rfl,by first | exact HB2.out.trans (HBW.out.mono HZ2.out) | exact below_drewN (HB2.out.trans (HBW.out.mono HZ2.out)) _⟩
      obtain ⟨j,rfl⟩:∃ j:Nat,f=(j:Int):=⟨f.toNat,by omega⟩
      have hj:j<nF:=by omega
      have q2:decide ((j:Int)≥(nF:Int))=false:=by simp;omega
      have q2n:decide (j≥nF)=false:=by simp;omega
      have HI0:Hid (isOne (j:Int) nF):=lh ⟨hf0,hf1⟩
      obtain ⟨bf,off,r,hfo,hbf,HXF,HRG,HWG,x0,x1,x2,x3,x4,x5,x6,x7⟩:=(HF.out.below (HBW.out.mono hB2)).gr hj
      subst hfo
      clear hf0 hf1
      have HGR:Hid (grAt (grs rs) (j:Int)=r.gr):=lh (grAt_of HXF.out)
      have HHD:Hid (headHolds r.gr false):=lh (HH.out _ (List.mem_map_of_mem (List.mem_of_getElem? HXF.out)))
      obtain ⟨pn,hpn⟩:∃ x,x=r.gr.params.length:=⟨_,rfl⟩
      rw [← hpn] at x0
      have HPN:=lh hpn
      clear hpn
      by_cases hne:nA=pn
      rotate_left
      ·have q3:((nA:Int) != (pn:Int))=true:=by rw [bne_iff_ne];omega
       have q3n:(nA != pn)=true:=by rw [bne_iff_ne];omega
       have HD:Hid (decide (nodeHolds (grs rs) ⟨ps,ks,cells,is,res,keep,nodes,entry⟩ false ⟨13,bop,d,e,a,b,j,cell,imm,args,nx,el⟩)=false):=lh (by rw [dfi,HX.out];rintro ⟨_,_,h⟩;have h2:=(HRS.out.1 h).2.1;rw [HGR.out,← HPN.out,HAL.out] at h2;exact hne h2)
       go_wp2
       go_quiet (fail)
       go_wp2
       go_ret
       exact ⟨by rw [HD.out];rfl,by first | exact HB2.out.trans (HBW.out.mono HZ2.out) | exact below_drewN (HB2.out.trans (HBW.out.mono HZ2.out)) _⟩
      subst hne
      have q3:((nA:Int) != (nA:Int))=false:=by simp
      have q3n:(nA != nA)=false:=by simp
      go_wp2
      go_quiet (fail)
      obtain ⟨v,hv⟩:∃ v,v=wr.drewN nq:=⟨_,rfl⟩
      rw [← hv]
      have hbv:Below wr.heap.size wr v:=by rw [hv];exact below_drewN (Below.refl _ _) nq
      have hlv:bf<v.heap.size:=Nat.lt_of_lt_of_le (show bf<wr.heap.size from Nat.lt_of_lt_of_le hbf (Nat.le_trans hB2 HBW.out.size)) hbv.size
      have X0:v.cell? ⟨bf,off+j*8,none⟩=some (.slice r.po nA r.pc):=by rw [hv];exact x0
      have X1:v.cell? ⟨bf,off+j*8+1,none⟩=some (.slice r.ko r.gr.kinds.length r.kc):=by rw [hv];exact x1
      have X2:v.cell? ⟨bf,off+j*8+2,none⟩=some (.int .i64 r.gr.cells):=by rw [hv];exact x2
      have X3:v.cell? ⟨bf,off+j*8+3,none⟩=some (.slice r.io r.gr.init.length r.ic):=by rw [hv];exact x3
      have X4:v.cell? ⟨bf,off+j*8+4,none⟩=some (.bool r.gr.result):=by rw [hv];exact x4
      have X5:v.cell? ⟨bf,off+j*8+5,none⟩=some (.int .i64 r.gr.keep):=by rw [hv];exact x5
      have X6:v.cell? ⟨bf,off+j*8+6,none⟩=some (.slice r.no r.gr.nodes.length r.nc):=by rw [hv];exact x6
      have X7:v.cell? ⟨bf,off+j*8+7,none⟩=some (.int .i64 r.gr.entry):=by rw [hv];exact x7
      have HBW:=lh (HBW.out.trans (hbv.mono HBW.out.size))
      have HG:=lh (HG.out.below hbv HG.out.lt)
      have HN:=lh (HN.out.below hbv HN.out.lt)
      have N6:v.cell? ⟨w.heap.size+1,6,none⟩=some (.int .i64 j):=HN.out.cell 6
      have N9:v.cell? ⟨w.heap.size+1,9,none⟩=some (.slice ao nA ac):=HN.out.cell 9
      have hnv:w.heap.size+1<v.heap.size:=HN.out.lt
      clear hv hbv x0 x1 x2 x3 x4 x5 x6 x7 p0 p1 p2 p3 g0 g1 g2 g3 g4 g5 g6 g7 n0 n1 n2 n3 n4 n5 n6 n7 n8 n9 n10 n11
      go_wp2
      have hb7:Below v.heap.size v (v.alloc (.cells #[.slice r.po nA r.pc,.slice r.ko r.gr.kinds.length r.kc,.int .i64 r.gr.cells,.slice r.io r.gr.init.length r.ic,.bool r.gr.result,.int .i64 r.gr.keep,.slice r.no r.gr.nodes.length r.nc,.int .i64 r.gr.entry] 35)):=(Below.refl _ _).alloc (Nat.le_refl _) _
      have hpf:Blk (v.alloc (.cells #[.slice r.po nA r.pc,.slice r.ko r.gr.kinds.length r.kc,.int .i64 r.gr.cells,.slice r.io r.gr.init.length r.ic,.bool r.gr.result,.int .i64 r.gr.keep,.slice r.no r.gr.nodes.length r.nc,.int .i64 r.gr.entry] 35)) v.heap.size 35 #[.slice r.po nA r.pc,.slice r.ko r.gr.kinds.length r.kc,.int .i64 r.gr.cells,.slice r.io r.gr.init.length r.ic,.bool r.gr.result,.int .i64 r.gr.keep,.slice r.no r.gr.nodes.length r.nc,.int .i64 r.gr.entry]:=Blk.new v _ _
      obtain ⟨pf,HPF⟩:∃ x,Hid (x=v.heap.size):=⟨_,lh rfl⟩
      obtain ⟨v7,hv7⟩:∃ W,W=v.alloc (.cells #[.slice r.po nA r.pc,.slice r.ko r.gr.kinds.length r.kc,.int .i64 r.gr.cells,.slice r.io r.gr.init.length r.ic,.bool r.gr.result,.int .i64 r.gr.keep,.slice r.no r.gr.nodes.length r.nc,.int .i64 r.gr.entry] 35):=⟨_,rfl⟩
      rw [← hv7] at hb7 hpf ⊢
      rw [← HPF.out] at hpf ⊢
      have HP7:=lh hpf
      have HBW7:=lh (HBW.out.trans (hb7.mono HBW.out.size))
      have HG7:=lh (HG.out.below hb7 HG.out.lt)
      have HN7:=lh (HN.out.below hb7 HN.out.lt)
      have hz7:W2.heap.size≤v7.heap.size:=HBW7.out.size
      obtain ⟨wo,hwo⟩:∃ wo:World,wo=wr:=⟨_,rfl⟩
      clear hwo hv7 hb7 hpf HBW HG HN HP HPF q1 q2 q2n q3 q3n N6 N9 hnv hlv X0 X1 X2 X3 X4 X5 X6 X7
      go_loopw [192] (fun i wr=>∃ k:Nat,k≤nA∧i=.int .i64 k∧Hid (Below v7.heap.size v7 wr)∧Hid (∀ i:Nat,i<k→fits ks false (args.getD i 0) (kindAt r.gr.kinds (r.gr.params.getD i 0)))) (fun i _=>nA-(intOf i).toNat)
      case atStart=>exact ⟨0,Nat.zero_le _,rfl,lh (Below.refl _ _),lh (by intro i hi;omega)⟩
      case round =>
       obtain ⟨k,hkk,rfl,HBK,HFT⟩:=hrel
       have HG:=lh (HG7.out.below HBK.out HG7.out.lt)
       have HN:=lh (HN7.out.below HBK.out HN7.out.lt)
       have HPF:=lh (HP7.out.below HBK.out HP7.out.lt)
       have HBW:=lh (HBW7.out.trans (HBK.out.mono hz7))
       obtain ⟨g0,g1,g2,g3,g4,g5,g6,g7⟩:=cells8 HG.out
       obtain ⟨n0,n1,n2,n3,n4,n5,n6,n7,n8,n9,n10,n11⟩:=cells12 HN.out
       obtain ⟨f0,f1,f2,f3,f4,f5,f6,f7⟩:=cells8 HPF.out
       by_cases hlt:k<nA
       ·obtain ⟨ba,oa,x,hao,hba,HXA,a1⟩:=(HA.out.below (HBW.out.mono hB2)).int hlt
        subst hao
        have hax:args.getD k 0=x:=by simp [List.getD,HXA.out]
        have HAX:=lh hax
        clear hax
        have hBr:B≤wr.heap.size:=Nat.le_trans hB2 HBW.out.size
        have HRW:=lh ((HF.out.below (HBW.out.mono hB2)).each r (List.mem_of_getElem? HXF.out))
        have hPR:Reads wr B 1 r.po nA (i64c r.gr.params):=by have:=HRW.out.params;rwa [← HPN.out] at this
        obtain ⟨bp,op2,z,hpo,hbp,HXP,p1⟩:=hPR.int hlt
        have hzo:isOne z r.gr.kinds.length:=by
         have h1:=HHD.out.2.2.2.1.2
         rw [if_neg (by simp)] at h1
         have h2:=(h1 k (by rw [← HPN.out];exact hlt)).1
         rwa [show r.gr.params.getD k 0=z by simp [List.getD,HXP.out]] at h2
        obtain ⟨m,rfl⟩:∃ m:Nat,z=(m:Int):=⟨z.toNat,by have:=hzo.1;omega⟩
        have hm:m<r.gr.kinds.length:=by have:=hzo.2;omega
        obtain ⟨bk,ok,y,hko,hbk,HXK,k1⟩:=HRW.out.kinds.byte hm
        rw [hpo] at f0
        rw [hko] at f1
        have hka:kindAt r.gr.kinds (r.gr.params.getD k 0)=y:=by
         rw [show r.gr.params.getD k 0=(m:Int) by simp [List.getD,HXP.out]]
         simp [kindAt,List.getD,HXK.out]
        have HKA:=lh hka
        have hzg:w.heap.size<wr.heap.size:=HG.out.lt
        have hzf:pf<wr.heap.size:=HPF.out.lt
        have l2:bp<wr.heap.size:=by omega
        have l3:bk<wr.heap.size:=by omega
        have hkl2:r.gr.kinds.length≤1024:=HHD.out.1.1
        have HKD:Hid (Reads wr.drew B 1 ko nK (u8c ks)):=lh ((HK.out.below (HBW.out.mono hB2)).drew)
        clear hPR hpo hko hka hzo
        by_cases hft:fits ks false x y
        ·have H1:Hid (decide (fits ks false x y)=true):=lh (decide_eq_true hft)
         have HFT2:=lh (upto_snoc (Q:=fun i:Nat=>fits ks false (args.getD i 0) (kindAt r.gr.kinds (r.gr.params.getD i 0))) HFT.out (show fits ks false (args.getD k 0) (kindAt r.gr.kinds (r.gr.params.getD k 0)) by rw [HAX.out,HKA.out];exact hft))
         clear hft
         go_wp2
         go_still_tail 21,(by kernel_rfl)
         change wpList _ _ _ _ _ wr.drew
         go_wp2_with (first | (go_at_call 32;refine (rfits_any B ks po ko io no nP pc nK kc nI ic nN nc cells keep entry res false x y _ HKD.out HKL.out hnK hBr).mono ?_;rintro ee w9 ⟨rfl,hb9⟩;have HWL:Hid (Below wr.heap.size wr w9):=lh ((Below.refl _ _).drew.trans hb9);clear hb9;rw [H1.out]))
         go_roundw
         case rel=>exact ⟨k+1,by omega,by go_num,lh (HBK.out.trans (HWL.out.mono HBK.out.size)),HFT2⟩
         case measure=>simp [intOf];omega
        ·have H1:Hid (decide (fits ks false x y)=false):=lh (decide_eq_false hft)
         have HD:Hid (decide (nodeHolds (grs rs) ⟨ps,ks,cells,is,res,keep,nodes,entry⟩ false ⟨13,bop,d,e,a,b,j,cell,imm,args,nx,el⟩)=false):=lh (by rw [dfi,HX.out];rintro ⟨_,_,h⟩;have h2:=(HRS.out.1 h).2.2;rw [if_neg (by decide)] at h2;have h3:=h2 k (by rw [HAL.out];exact hlt);rw [HGR.out,HAX.out,HKA.out] at h3;exact hft h3)
         clear hft
         go_wp2
         go_still_tail 21,(by kernel_rfl)
         change wpList _ _ _ _ _ wr.drew
         go_wp2_with (first | (go_at_call 32;refine (rfits_any B ks po ko io no nP pc nK kc nI ic nN nc cells keep entry res false x y _ HKD.out HKL.out hnK hBr).mono ?_;rintro ee w9 ⟨rfl,hb9⟩;have HWL:Hid (Below wr.heap.size wr w9):=lh ((Below.refl _ _).drew.trans hb9);clear hb9;rw [H1.out]))
         go_ret
         exact ⟨by rw [HD.out];rfl,HB2.out.trans ((HBW.out.trans (HWL.out.mono HBW.out.size)).mono HZ2.out)⟩
       ·obtain rfl:nA=k:=by omega
        have HHA:Hid (hands (grs rs) ⟨ps,ks,cells,is,res,keep,nodes,entry⟩ false j args):=lh ⟨by rw [HGL.out];exact HI0.out,by rw [HGR.out,← HPN.out,HAL.out],by
         rw [if_neg (by decide),HGR.out,HAL.out]
         exact HFT.out⟩
        have HD:Hid (decide (nodeHolds (grs rs) ⟨ps,ks,cells,is,res,keep,nodes,entry⟩ false ⟨13,bop,d,e,a,b,j,cell,imm,args,nx,el⟩)=true):=lh (by rw [decide_eq_true_eq,HX.out];exact ⟨HNX.out,HQ.out,HRS.out.2 HHA.out⟩)
        go_wp2
        go_ret
        exact ⟨by rw [HD.out];rfl,by first | exact HB2.out.trans (HBW.out.mono HZ2.out) | exact below_drewN (HB2.out.trans (HBW.out.mono HZ2.out)) _⟩
     ·have HRS:Hid (restOf (grs rs) ⟨ps,ks,cells,is,res,keep,nodes,entry⟩ true ⟨13,bop,d,e,a,b,f,cell,imm,args,nx,el⟩↔hands (grs rs) ⟨ps,ks,cells,is,res,keep,nodes,entry⟩ true f args):=lh (by simp [restOf])
      by_cases hf0:0≤f
      rotate_left
      ·have q1:decide (f<0)=true:=by simp;omega
       have HD:Hid (decide (nodeHolds (grs rs) ⟨ps,ks,cells,is,res,keep,nodes,entry⟩ true ⟨13,bop,d,e,a,b,f,cell,imm,args,nx,el⟩)=false):=lh (by rw [dfi,HX.out];rintro ⟨_,_,h⟩;exact hf0 (HRS.out.1 h).1.1)
       clear hf0
       go_wp2
       go_quiet (fail)
       go_wp2
       go_ret
       exact ⟨by rw [HD.out];rfl,by first | exact HB2.out.trans (HBW.out.mono HZ2.out) | exact below_drewN (HB2.out.trans (HBW.out.mono HZ2.out)) _⟩
      have q1:decide (f<0)=false:=by simp;omega
      by_cases hf1:f<nF
      rotate_left
      ·have q2:decide (f≥(nF:Int))=true:=by simp;omega
       have HD:Hid (decide (nodeHolds (grs rs) ⟨ps,ks,cells,is,res,keep,nodes,entry⟩ true ⟨13,bop,d,e,a,b,f,cell,imm,args,nx,el⟩)=false):=lh (by rw [dfi,HX.out];rintro ⟨_,_,h⟩;have h2:=(HRS.out.1 h).1.2;rw [HGL.out] at h2;exact hf1 h2)
       clear hf0 hf1
       go_wp2
       go_quiet (fail)
       go_wp2
       go_ret
       exact ⟨by rw [HD.out];rfl,by first | exact HB2.out.trans (HBW.out.mono HZ2.out) | exact below_drewN (HB2.out.trans (HBW.out.mono HZ2.out)) _⟩
      obtain ⟨j,rfl⟩:∃ j:Nat,f=(j:Int):=⟨f.toNat,by omega⟩
      have hj:j<nF:=by omega
      have q2:decide ((j:Int)≥(nF:Int))=false:=by simp;omega
      have q2n:decide (j≥nF)=false:=by simp;omega
      have HI0:Hid (isOne (j:Int) nF):=lh ⟨hf0,hf1⟩
      obtain ⟨bf,off,r,hfo,hbf,HXF,HRG,HWG,x0,x1,x2,x3,x4,x5,x6,x7⟩:=(HF.out.below (HBW.out.mono hB2)).gr hj
      subst hfo
      clear hf0 hf1
      have HGR:Hid (grAt (grs rs) (j:Int)=r.gr):=lh (grAt_of HXF.out)
      have HHD:Hid (headHolds r.gr true):=lh (HH.out _ (List.mem_map_of_mem (List.mem_of_getElem? HXF.out)))
      obtain ⟨pn,hpn⟩:∃ x,x=r.gr.params.length:=⟨_,rfl⟩
      rw [← hpn] at x0
      have HPN:=lh hpn
      clear hpn
      by_cases hne:nA=pn
      rotate_left
      ·have q3:((nA:Int) != (pn:Int))=true:=by rw [bne_iff_ne];omega
       have q3n:(nA != pn)=true:=by rw [bne_iff_ne];omega
       have HD:Hid (decide (nodeHolds (grs rs) ⟨ps,ks,cells,is,res,keep,nodes,entry⟩ true ⟨13,bop,d,e,a,b,j,cell,imm,args,nx,el⟩)=false):=lh (by rw [dfi,HX.out];rintro ⟨_,_,h⟩;have h2:=(HRS.out.1 h).2.1;rw [HGR.out,← HPN.out,HAL.out] at h2;exact hne h2)
       go_wp2
       go_quiet (fail)
       go_wp2
       go_ret
       exact ⟨by rw [HD.out];rfl,by first | exact HB2.out.trans (HBW.out.mono HZ2.out) | exact below_drewN (HB2.out.trans (HBW.out.mono HZ2.out)) _⟩
      subst hne
      have q3:((nA:Int) != (nA:Int))=false:=by simp
      have q3n:(nA != nA)=false:=by simp
      go_wp2
      go_quiet (fail)
      obtain ⟨v,hv⟩:∃ v,v=wr.drewN nq:=⟨_,rfl⟩
      rw [← hv]
      have hbv:Below wr.heap.size wr v:=by rw [hv];exact below_drewN (Below.refl _ _) nq
      have hlv:bf<v.heap.size:=Nat.lt_of_lt_of_le (show bf<wr.heap.size from Nat.lt_of_lt_of_le hbf (Nat.le_trans hB2 HBW.out.size)) hbv.size
      have X0:v.cell? ⟨bf,off+j*8,none⟩=some (.slice r.po nA r.pc):=by rw [hv];exact x0
      have X1:v.cell? ⟨bf,off+j*8+1,none⟩=some (.slice r.ko r.gr.kinds.length r.kc):=by rw [hv];exact x1
      have X2:v.cell? ⟨bf,off+j*8+2,none⟩=some (.int .i64 r.gr.cells):=by rw [hv];exact x2
      have X3:v.cell? ⟨bf,off+j*8+3,none⟩=some (.slice r.io r.gr.init.length r.ic):=by rw [hv];exact x3
      have X4:v.cell? ⟨bf,off+j*8+4,none⟩=some (.bool r.gr.result):=by rw [hv];exact x4
      have X5:v.cell? ⟨bf,off+j*8+5,none⟩=some (.int .i64 r.gr.keep):=by rw [hv];exact x5
      have X6:v.cell? ⟨bf,off+j*8+6,none⟩=some (.slice r.no r.gr.nodes.length r.nc):=by rw [hv];exact x6
      have X7:v.cell? ⟨bf,off+j*8+7,none⟩=some (.int .i64 r.gr.entry):=by rw [hv];exact x7
      have HBW:=lh (HBW.out.trans (hbv.mono HBW.out.size))
      have HG:=lh (HG.out.below hbv HG.out.lt)
      have HN:=lh (HN.out.below hbv HN.out.lt)
      have N6:v.cell? ⟨w.heap.size+1,6,none⟩=some (.int .i64 j):=HN.out.cell 6
      have N9:v.cell? ⟨w.heap.size+1,9,none⟩=some (.slice ao nA ac):=HN.out.cell 9
      have hnv:w.heap.size+1<v.heap.size:=HN.out.lt
      clear hv hbv x0 x1 x2 x3 x4 x5 x6 x7 p0 p1 p2 p3 g0 g1 g2 g3 g4 g5 g6 g7 n0 n1 n2 n3 n4 n5 n6 n7 n8 n9 n10 n11
      go_wp2
      have hb7:Below v.heap.size v (v.alloc (.cells #[.slice r.po nA r.pc,.slice r.ko r.gr.kinds.length r.kc,.int .i64 r.gr.cells,.slice r.io r.gr.init.length r.ic,.bool r.gr.result,.int .i64 r.gr.keep,.slice r.no r.gr.nodes.length r.nc,.int .i64 r.gr.entry] 35)):=(Below.refl _ _).alloc (Nat.le_refl _) _
      have hpf:Blk (v.alloc (.cells #[.slice r.po nA r.pc,.slice r.ko r.gr.kinds.length r.kc,.int .i64 r.gr.cells,.slice r.io r.gr.init.length r.ic,.bool r.gr.result,.int .i64 r.gr.keep,.slice r.no r.gr.nodes.length r.nc,.int .i64 r.gr.entry] 35)) v.heap.size 35 #[.slice r.po nA r.pc,.slice r.ko r.gr.kinds.length r.kc,.int .i64 r.gr.cells,.slice r.io r.gr.init.length r.ic,.bool r.gr.result,.int .i64 r.gr.keep,.slice r.no r.gr.nodes.length r.nc,.int .i64 r.gr.entry]:=Blk.new v _ _
      obtain ⟨pf,HPF⟩:∃ x,Hid (x=v.heap.size):=⟨_,lh rfl⟩
      obtain ⟨v7,hv7⟩:∃ W,W=v.alloc (.cells #[.slice r.po nA r.pc,.slice r.ko r.gr.kinds.length r.kc,.int .i64 r.gr.cells,.slice r.io r.gr.init.length r.ic,.bool r.gr.result,.int .i64 r.gr.keep,.slice r.no r.gr.nodes.length r.nc,.int .i64 r.gr.entry] 35):=⟨_,rfl⟩
      rw [← hv7] at hb7 hpf ⊢
      rw [← HPF.out] at hpf ⊢
      have HP7:=lh hpf
      have HBW7:=lh (HBW.out.trans (hb7.mono HBW.out.size))
      have HG7:=lh (HG.out.below hb7 HG.out.lt)
      have HN7:=lh (HN.out.below hb7 HN.out.lt)
      have hz7:W2.heap.size≤v7.heap.size:=HBW7.out.size
      obtain ⟨wo,hwo⟩:∃ wo:World,wo=wr:=⟨_,rfl⟩
      clear hwo hv7 hb7 hpf HBW HG HN HP HPF q1 q2 q2n q3 q3n N6 N9 hnv hlv X0 X1 X2 X3 X4 X5 X6 X7
      go_loopw [192] (fun i wr=>∃ k:Nat,k≤nA∧i=.int .i64 k∧Hid (Below v7.heap.size v7 wr)∧Hid (∀ i:Nat,i<k→args.getD i 0=i)) (fun i _=>nA-(intOf i).toNat)
      case atStart=>exact ⟨0,Nat.zero_le _,rfl,lh (Below.refl _ _),lh (by intro i hi;omega)⟩
      case round =>
       obtain ⟨k,hkk,rfl,HBK,HFT⟩:=hrel
       have HG:=lh (HG7.out.below HBK.out HG7.out.lt)
       have HN:=lh (HN7.out.below HBK.out HN7.out.lt)
       have HPF:=lh (HP7.out.below HBK.out HP7.out.lt)
       have HBW:=lh (HBW7.out.trans (HBK.out.mono hz7))
       obtain ⟨g0,g1,g2,g3,g4,g5,g6,g7⟩:=cells8 HG.out
       obtain ⟨n0,n1,n2,n3,n4,n5,n6,n7,n8,n9,n10,n11⟩:=cells12 HN.out
       obtain ⟨f0,f1,f2,f3,f4,f5,f6,f7⟩:=cells8 HPF.out
       by_cases hlt:k<nA
       ·obtain ⟨ba,oa,x,hao,hba,HXA,a1⟩:=(HA.out.below (HBW.out.mono hB2)).int hlt
        subst hao
        have hax:args.getD k 0=x:=by simp [List.getD,HXA.out]
        have HAX:=lh hax
        clear hax
        by_cases hx:x=(k:Int)
        ·have q:(x != (k:Int))=false:=by simpa using hx
         have HFT2:=lh (upto_snoc (Q:=fun i:Nat=>args.getD i 0=i) HFT.out (show args.getD k 0=(k:Int) by rw [HAX.out];exact hx))
         clear hx
         go_wp2
         go_quiet (fail)
         go_wp2
         go_roundw
         case rel=>exact ⟨k+1,by omega,by go_num,lh (below_drewN HBK.out _),HFT2⟩
         case measure=>simp [intOf];omega
        ·have q:(x != (k:Int))=true:=by simpa using hx
         have HD:Hid (decide (nodeHolds (grs rs) ⟨ps,ks,cells,is,res,keep,nodes,entry⟩ true ⟨13,bop,d,e,a,b,j,cell,imm,args,nx,el⟩)=false):=lh (by rw [dfi,HX.out];rintro ⟨_,_,h⟩;have h2:=(HRS.out.1 h).2.2;rw [if_pos rfl] at h2;have h3:=h2 k (by rw [HAL.out];exact hlt);rw [HAX.out] at h3;exact hx h3)
         clear hx
         go_wp2
         go_quiet (fail)
         go_wp2
         go_ret
         exact ⟨by rw [HD.out];rfl,by first | exact HB2.out.trans (HBW.out.mono HZ2.out) | exact below_drewN (HB2.out.trans (HBW.out.mono HZ2.out)) _⟩
       ·obtain rfl:nA=k:=by omega
        have HHA:Hid (hands (grs rs) ⟨ps,ks,cells,is,res,keep,nodes,entry⟩ true j args):=lh ⟨by rw [HGL.out];exact HI0.out,by rw [HGR.out,← HPN.out,HAL.out],by
         rw [if_pos rfl];intro i hi;exact HFT.out i (by rw [← HAL.out];exact hi)⟩
        have HD:Hid (decide (nodeHolds (grs rs) ⟨ps,ks,cells,is,res,keep,nodes,entry⟩ true ⟨13,bop,d,e,a,b,j,cell,imm,args,nx,el⟩)=true):=lh (by rw [decide_eq_true_eq,HX.out];exact ⟨HNX.out,HQ.out,HRS.out.2 HHA.out⟩)
        go_wp2
        go_ret
        exact ⟨by rw [HD.out];rfl,by first | exact HB2.out.trans (HBW.out.mono HZ2.out) | exact below_drewN (HB2.out.trans (HBW.out.mono HZ2.out)) _⟩
theorem rhead_false (B:Nat) (ps ks is:List Int) (nodes:List Nd) (po ko io no:Option Addr) (nP pc nK kc nI ic nN nc:Nat) (cells keep entry:Int) (res:Bool) (w:World) (hp:Reads w B 1 po nP (i64c ps)) (hpl:ps.length=nP) (hpc:nP≤pc) (hnP:nP≤140737488351232) (hk:Reads w B 1 ko nK (u8c ks)) (hkl:ks.length=nK) (hnK:nK≤140737488351232) (hi:Reads w B 1 io nI (i64c is)) (hil:is.length=nI) (hnI:nI≤140737488351232) (hnl:nodes.length=nN) (hnN:nN≤140737488351232) (hbyt:Byt ks) (hB:B≤w.heap.size) :
  Calls Tryz.prog 16 #[.agg #[.slice po nP pc,.slice ko nK kc,.int .i64 cells,.slice io nI ic,.bool res,.int .i64 keep,.slice no nN nc,.int .i64 entry],.bool false] w fun e w'=>e=.returned (.bool (decide (headHolds ⟨ps,ks,cells,is,res,keep,nodes,entry⟩ false)))∧Below w.heap.size w w':=by
 have HBL:Hid (Below w.heap.size w (w.alloc (.cells #[.slice po nP pc,.slice ko nK kc,.int .i64 cells,.slice io nI ic,.bool res,.int .i64 keep,.slice no nN nc,.int .i64 entry] 35))):=(Below.refl _ _).alloc (Nat.le_refl _) _
 have hB1:B≤(w.alloc (.cells #[.slice po nP pc,.slice ko nK kc,.int .i64 cells,.slice io nI ic,.bool res,.int .i64 keep,.slice no nN nc,.int .i64 entry] 35)).heap.size:=by simp;omega
 have HBX:Hid (Blk (w.alloc (.cells #[.slice po nP pc,.slice ko nK kc,.int .i64 cells,.slice io nI ic,.bool res,.int .i64 keep,.slice no nN nc,.int .i64 entry] 35)) w.heap.size 35 #[.slice po nP pc,.slice ko nK kc,.int .i64 cells,.slice io nI ic,.bool res,.int .i64 keep,.slice no nN nc,.int .i64 entry]):=Blk.new w _ _
 have HP:=lh (hp.below (HBL.out.mono hB))
 have HK:=lh (hk.below (HBL.out.mono hB))
 have HI:=lh (hi.below (HBL.out.mono hB))
 have HPL:=lh hpl
 have HKL:=lh hkl
 have HIL:=lh hil
 have HX:Hid (headHolds ⟨ps,ks,cells,is,res,keep,nodes,entry⟩ false↔nK≤1024∧(false=true→16≤nK)∧nP≤4∧nI=nP∧0≤cells∧cells≤64∧-1≤keep∧keep<cells∧(∀ k ∈ ks,k≤1)∧(∀ i,i<nP→rparam ⟨ps,ks,cells,is,res,keep,nodes,entry⟩ false i)∧1≤nN∧nN≤4096∧isOne entry nN):=lh (by
  rw [← rhead_eq hbyt]
  unfold rhead
  simp only [hkl,hpl,hil,hnl])
 clear hp hk hi hpl hkl hil hnl hbyt
 by_cases c0:nK≤1024
 rotate_left
 ·have g0a:decide ((nK:Int) > 1024)=true:=by simp;omega
  have g0b:decide (nK > 1024)=true:=by simp;omega
  have HD:Hid (decide (headHolds ⟨ps,ks,cells,is,res,keep,nodes,entry⟩ false)=false):=lh (by rw [dfi,HX.out];intro h;exact c0 h.1)
  go_enter Tryz.func16,Tryz.ntmps16
  go_wp2
  go_ret
  exact ⟨by rw [HD.out];rfl,HBL.out⟩
 have g0a:decide ((nK:Int) > 1024)=false:=by simp;omega
 have g0b:decide (nK > 1024)=false:=by simp;omega
 by_cases c2:nP≤4
 rotate_left
 ·have g2a:decide ((nP:Int) > 4)=true:=by simp;omega
  have g2b:decide (nP > 4)=true:=by simp;omega
  have HD:Hid (decide (headHolds ⟨ps,ks,cells,is,res,keep,nodes,entry⟩ false)=false):=lh (by rw [dfi,HX.out];intro h;exact c2 h.2.2.1)
  go_enter Tryz.func16,Tryz.ntmps16
  go_wp2
  go_ret
  exact ⟨by rw [HD.out];rfl,HBL.out⟩
 have g2a:decide ((nP:Int) > 4)=false:=by simp;omega
 have g2b:decide (nP > 4)=false:=by simp;omega
 by_cases c3:nI=nP
 rotate_left
 ·have g3a:((nI:Int) != (nP:Int))=true:=by rw [bne_iff_ne];omega
  have g3b:(nI != nP)=true:=by rw [bne_iff_ne];omega
  have HD:Hid (decide (headHolds ⟨ps,ks,cells,is,res,keep,nodes,entry⟩ false)=false):=lh (by rw [dfi,HX.out];intro h;exact c3 h.2.2.2.1)
  go_enter Tryz.func16,Tryz.ntmps16
  go_wp2
  go_ret
  exact ⟨by rw [HD.out];rfl,HBL.out⟩
 subst c3
 have g3a:((nI:Int) != (nI:Int))=false:=by simp
 have g3b:(nI != nI)=false:=by simp
 by_cases c4:0≤cells
 rotate_left
 ·have g4a:decide (cells<0)=true:=by simp;omega
  have HD:Hid (decide (headHolds ⟨ps,ks,cells,is,res,keep,nodes,entry⟩ false)=false):=lh (by rw [dfi,HX.out];intro h;exact c4 h.2.2.2.2.1)
  go_enter Tryz.func16,Tryz.ntmps16
  go_wp2
  go_ret
  exact ⟨by rw [HD.out];rfl,HBL.out⟩
 have g4a:decide (cells<0)=false:=by simp;omega
 by_cases c5:cells≤64
 rotate_left
 ·have g5a:decide (cells > 64)=true:=by simp;omega
  have HD:Hid (decide (headHolds ⟨ps,ks,cells,is,res,keep,nodes,entry⟩ false)=false):=lh (by rw [dfi,HX.out];intro h;exact c5 h.2.2.2.2.2.1)
  go_enter Tryz.func16,Tryz.ntmps16
  go_wp2
  go_ret
  exact ⟨by rw [HD.out];rfl,HBL.out⟩
 have g5a:decide (cells > 64)=false:=by simp;omega
 by_cases c6:-1≤keep
 rotate_left
 ·have g6a:decide (keep < -1)=true:=by simp;omega
  have HD:Hid (decide (headHolds ⟨ps,ks,cells,is,res,keep,nodes,entry⟩ false)=false):=lh (by rw [dfi,HX.out];intro h;exact c6 h.2.2.2.2.2.2.1)
  go_enter Tryz.func16,Tryz.ntmps16
  go_wp2
  go_ret
  exact ⟨by rw [HD.out];rfl,HBL.out⟩
 have g6a:decide (keep < -1)=false:=by simp;omega
 by_cases c7:keep<cells
 rotate_left
 ·have g7a:decide (keep≥cells)=true:=by simp;omega
  have HD:Hid (decide (headHolds ⟨ps,ks,cells,is,res,keep,nodes,entry⟩ false)=false):=lh (by rw [dfi,HX.out];intro h;exact c7 h.2.2.2.2.2.2.2.1)
  go_enter Tryz.func16,Tryz.ntmps16
  go_wp2
  go_ret
  exact ⟨by rw [HD.out];rfl,HBL.out⟩
 have g7a:decide (keep≥cells)=false:=by simp;omega
 have HC:Hid ((∀ k ∈ ks,k≤1)→(∀ i,i<nI→rparam ⟨ps,ks,cells,is,res,keep,nodes,entry⟩ false i)→1≤nN→nN≤4096→isOne entry nN→headHolds ⟨ps,ks,cells,is,res,keep,nodes,entry⟩ false):=lh fun h1 h2 h3 h4 h5=>HX.out.2 ⟨c0,(fun h=>by cases h),c2,rfl,c4,c5,c6,c7,h1,h2,h3,h4,h5⟩
 clear c2 c4 c5 c6 c7
 obtain ⟨W1,hW1⟩:∃ W,W=(w.alloc (.cells #[.slice po nI pc,.slice ko nK kc,.int .i64 cells,.slice io nI ic,.bool res,.int .i64 keep,.slice no nN nc,.int .i64 entry] 35)):=⟨_,rfl⟩
 have HW1:=lh hW1
 rw [← hW1] at HBL hB1 HBX HP HK HI
 clear hW1
 go_enter Tryz.func16,Tryz.ntmps16
 go_wp2
 rw [← HW1.out]
 go_loopw [62] (fun i wr=>∃ k:Nat,k≤nK∧i=.int .i64 k∧Hid (∀ y ∈ ks.take k,y≤1)∧wr=W1) (fun i _=>nK-(intOf i).toNat)
 case atStart=>exact ⟨0,Nat.zero_le _,rfl,lh (by simp),rfl⟩
 case round =>
  obtain ⟨k,hkk,rfl,HQ,rfl⟩:=hrel
  by_cases hlt:k<nK
  ·obtain ⟨b,off,x,hko,hb,HXK,x1⟩:=HK.out.byte hlt
   subst hko
   by_cases hx:x≤1
   rotate_left
   ·have q:decide (x > 1)=true:=by simp;omega
    have HD:Hid (decide (headHolds ⟨ps,ks,cells,is,res,keep,nodes,entry⟩ false)=false):=lh (by rw [dfi,HX.out];intro h;exact hx (h.2.2.2.2.2.2.2.2.1 x (List.mem_of_getElem? HXK.out)))
    go_wp2
    go_ret
    exact ⟨by rw [HD.out];rfl,HBL.out⟩
   have q:decide (x > 1)=false:=by simp;omega
   have HQ2:=lh (all_take (Q:=fun y:Int=>y≤1) HXK.out hx HQ.out)
   clear hx
   go_wp2
   go_roundw
   case rel=>exact ⟨k+1,by omega,by go_num,HQ2,by first | rfl | trivial⟩
   case measure=>simp [intOf];omega
  ·obtain rfl:k=nK:=by omega
   have HKS:Hid (∀ y ∈ ks,y≤1):=lh (by have:=HQ.out;rwa [List.take_of_length_le (by rw [HKL.out];omega)] at this)
   have d0:wr.cell? ⟨w.heap.size,0,none⟩=some (.slice po nI pc):=HBX.out.cell 0
   clear hlt hkk
   go_wp2
   clear d0
   obtain ⟨wo,rfl⟩:∃ wo:World,wo=wr:=⟨_,rfl⟩
   go_loopw [72] (fun i wx=>∃ k:Nat,k≤nI∧i=.int .i64 k∧Hid (∀ i,i<k→rparam ⟨ps,ks,cells,is,res,keep,nodes,entry⟩ false i)∧Hid (Below wo.heap.size wo wx)) (fun i _=>nI-(intOf i).toNat)
   case atStart=>exact ⟨0,Nat.zero_le _,rfl,lh (by intro i hi;omega),lh (Below.refl _ _)⟩
   case round =>
    obtain ⟨j,hj,rfl,HJ,HW⟩:=hrel
    have HBX2:=lh (HBX.out.below HW.out HBX.out.lt)
    have HBL2:=lh (HBL.out.trans (HW.out.mono HBL.out.size))
    have hBr:B≤wr.heap.size:=Nat.le_trans hB1 HW.out.size
    have d0:wr.cell? ⟨w.heap.size,0,none⟩=some (.slice po nI pc):=HBX2.out.cell 0
    have d1:wr.cell? ⟨w.heap.size,1,none⟩=some (.slice ko k kc):=HBX2.out.cell 1
    have d2:wr.cell? ⟨w.heap.size,2,none⟩=some (.int .i64 cells):=HBX2.out.cell 2
    have d3:wr.cell? ⟨w.heap.size,3,none⟩=some (.slice io nI ic):=HBX2.out.cell 3
    have d4:wr.cell? ⟨w.heap.size,4,none⟩=some (.bool res):=HBX2.out.cell 4
    have d5:wr.cell? ⟨w.heap.size,5,none⟩=some (.int .i64 keep):=HBX2.out.cell 5
    have d6:wr.cell? ⟨w.heap.size,6,none⟩=some (.slice no nN nc):=HBX2.out.cell 6
    have d7:wr.cell? ⟨w.heap.size,7,none⟩=some (.int .i64 entry):=HBX2.out.cell 7
    by_cases hjl:j<nI
    ·obtain ⟨bp,op_,p,hpo,hbp,HXP,p1⟩:=(HP.out.below (HW.out.mono hB1)).int hjl
     obtain ⟨bi,oi,q,hio,hbi,HXI,i1⟩:=(HI.out.below (HW.out.mono hB1)).int hjl
     have HPA:=lh (HP.out.below (HW.out.mono hB1))
     have HKA:=lh (HK.out.below (HW.out.mono hB1))
     subst hpo
     subst hio
     have hpg:ps.getD j 0=p:=by simp [List.getD,HXP.out]
     have hig:is.getD j 0=q:=by simp [List.getD,HXI.out]
     have HRP:Hid (rparam ⟨ps,ks,cells,is,res,keep,nodes,entry⟩ false j↔isOne p k∧p ∉ ps.take j∧(false=true→p=j)∧-1≤q∧q<cells∧(0≤q→fits ks false p 0)):=lh (by
      unfold rparam
      simp only [hpg,hig,HKL.out])
     have HPG:=lh hpg
     clear hpg hig
     have hbpr:bp<wr.heap.size:=by omega
     have hbir:bi<wr.heap.size:=by omega
     have HU:=lh (HPA.out.upto (k:=j) (by omega))
     have HUL:Hid ((ps.take j).length=j):=lh (by rw [List.length_take,HPL.out];omega)
     by_cases e1:0≤p
     rotate_left
     ·have r1:decide (p<0)=true:=by simp;omega
      have HD:Hid (decide (headHolds ⟨ps,ks,cells,is,res,keep,nodes,entry⟩ false)=false):=lh (by rw [dfi,HX.out];intro h;have h2:=HRP.out.1 (h.2.2.2.2.2.2.2.2.2.1 j hjl);exact e1 h2.1.1)
      go_wp2
      go_ret
      exact ⟨by rw [HD.out];rfl,by first | exact HBL2.out | exact below_drewN HBL2.out _⟩
     have r1:decide (p<0)=false:=by simp;omega
     by_cases e2:p<k
     rotate_left
     ·have r2:decide (p≥(k:Int))=true:=by simp;omega
      have HD:Hid (decide (headHolds ⟨ps,ks,cells,is,res,keep,nodes,entry⟩ false)=false):=lh (by rw [dfi,HX.out];intro h;have h2:=HRP.out.1 (h.2.2.2.2.2.2.2.2.2.1 j hjl);exact e2 h2.1.2)
      go_wp2
      go_ret
      exact ⟨by rw [HD.out];rfl,by first | exact HBL2.out | exact below_drewN HBL2.out _⟩
     have r2:decide (p≥(k:Int))=false:=by simp;omega
     by_cases e3:p ∈ ps.take j
     ·have H2:Hid (decide (p ∈ ps.take j)=true):=lh (decide_eq_true e3)
      have HD:Hid (decide (headHolds ⟨ps,ks,cells,is,res,keep,nodes,entry⟩ false)=false):=lh (by rw [dfi,HX.out];intro h;have h2:=HRP.out.1 (h.2.2.2.2.2.2.2.2.2.1 j hjl);exact h2.2.1 e3)
      clear e3
      go_wp2_with (first | (go_at_call 31;refine (in_any B _ _ _ (ps.take j) p _ HU.out HUL.out (by omega)).mono ?_;rintro e w3 ⟨rfl,hw3⟩;rw [hw3];clear hw3;rw [H2.out]))
      go_ret
      exact ⟨by rw [HD.out];rfl,by first | exact HBL2.out | exact below_drewN HBL2.out _⟩
     have H2:Hid (decide (p ∈ ps.take j)=false):=lh (decide_eq_false e3)
     have HE3:=lh e3
     clear e3
     by_cases e5:-1≤q
     rotate_left
     ·have r5:decide (q < -1)=true:=by simp;omega
      have HD:Hid (decide (headHolds ⟨ps,ks,cells,is,res,keep,nodes,entry⟩ false)=false):=lh (by rw [dfi,HX.out];intro h;have h2:=HRP.out.1 (h.2.2.2.2.2.2.2.2.2.1 j hjl);exact e5 h2.2.2.2.1)
      go_wp2_with (first | (go_at_call 31;refine (in_any B _ _ _ (ps.take j) p _ HU.out HUL.out (by omega)).mono ?_;rintro e w3 ⟨rfl,hw3⟩;rw [hw3];clear hw3;rw [H2.out]))
      go_quiet (fail)
      go_wp2
      go_ret
      exact ⟨by rw [HD.out];rfl,by first | exact HBL2.out | exact below_drewN HBL2.out _⟩
     have r5:decide (q < -1)=false:=by simp;omega
     by_cases e6:q<cells
     rotate_left
     ·have r6:decide (q≥cells)=true:=by simp;omega
      have HD:Hid (decide (headHolds ⟨ps,ks,cells,is,res,keep,nodes,entry⟩ false)=false):=lh (by rw [dfi,HX.out];intro h;have h2:=HRP.out.1 (h.2.2.2.2.2.2.2.2.2.1 j hjl);exact e6 h2.2.2.2.2.1)
      go_wp2_with (first | (go_at_call 31;refine (in_any B _ _ _ (ps.take j) p _ HU.out HUL.out (by omega)).mono ?_;rintro e w3 ⟨rfl,hw3⟩;rw [hw3];clear hw3;rw [H2.out]))
      go_quiet (fail)
      go_wp2
      go_ret
      exact ⟨by rw [HD.out];rfl,by first | exact HBL2.out | exact below_drewN HBL2.out _⟩
     have r6:decide (q≥cells)=false:=by simp;omega
     by_cases e7:0≤q
     rotate_left
     ·have r7:decide (q≥0)=false:=by simp;omega
      have HJ2:=lh (upto_snoc HJ.out (HRP.out.2 ⟨⟨e1,e2⟩,HE3.out,(fun h=>by cases h),e5,e6,fun h=>absurd h e7⟩))
      clear e1 e2 e5 e6 e7
      go_wp2_with (first | (go_at_call 31;refine (in_any B _ _ _ (ps.take j) p _ HU.out HUL.out (by omega)).mono ?_;rintro e w3 ⟨rfl,hw3⟩;rw [hw3];clear hw3;rw [H2.out]))
      go_quiet (fail)
      go_wp2
      go_roundw
      case rel=>exact ⟨j+1,by omega,by go_num,HJ2,lh (below_drewN HW.out _)⟩
      case measure=>simp [intOf];omega
     have r7:decide (q≥0)=true:=by simp;omega
     have HKD:Hid (Reads wr.drew B 1 ko k (u8c ks)):=lh (HKA.out.drew)
     by_cases e8:fits ks false p 0
     rotate_left
     ·have H1:Hid (decide (fits ks false p 0)=false):=lh (decide_eq_false e8)
      have HD:Hid (decide (headHolds ⟨ps,ks,cells,is,res,keep,nodes,entry⟩ false)=false):=lh (by rw [dfi,HX.out];intro h;have h2:=HRP.out.1 (h.2.2.2.2.2.2.2.2.2.1 j hjl);exact e8 (h2.2.2.2.2.2 e7))
      clear e8
      go_wp2_with (first | (go_at_call 31;refine (in_any B _ _ _ (ps.take j) p _ HU.out HUL.out (by omega)).mono ?_;rintro e w3 ⟨rfl,hw3⟩;rw [hw3];clear hw3;rw [H2.out]))
      go_still_tail 27,(by kernel_rfl)
      change wpList _ _ _ _ _ wr.drew
      go_wp2_with (first | (go_at_call 32;refine (rfits_any B ks _ _ _ _ _ _ _ _ _ _ _ _ _ _ _ _ false p 0 _ HKD.out HKL.out hnK hBr).mono ?_;rintro ee w9 ⟨rfl,hb9⟩;have HWL:Hid (Below wr.heap.size wr w9):=lh ((Below.refl _ _).drew.trans hb9);clear hb9;rw [H1.out]))
      go_ret
      exact ⟨by rw [HD.out];rfl,HBL2.out.trans (HWL.out.mono HBL2.out.size)⟩
     have H1:Hid (decide (fits ks false p 0)=true):=lh (decide_eq_true e8)
     have HJ2:=lh (upto_snoc HJ.out (HRP.out.2 ⟨⟨e1,e2⟩,HE3.out,(fun h=>by cases h),e5,e6,fun _=>e8⟩))
     clear e8
     go_wp2_with (first | (go_at_call 31;refine (in_any B _ _ _ (ps.take j) p _ HU.out HUL.out (by omega)).mono ?_;rintro e w3 ⟨rfl,hw3⟩;rw [hw3];clear hw3;rw [H2.out]))
     go_still_tail 27,(by kernel_rfl)
     change wpList _ _ _ _ _ wr.drew
     go_wp2_with (first | (go_at_call 32;refine (rfits_any B ks _ _ _ _ _ _ _ _ _ _ _ _ _ _ _ _ false p 0 _ HKD.out HKL.out hnK hBr).mono ?_;rintro ee w9 ⟨rfl,hb9⟩;have HWL:Hid (Below wr.heap.size wr w9):=lh ((Below.refl _ _).drew.trans hb9);clear hb9;rw [H1.out]))
     go_roundw
     case rel=>exact ⟨j+1,by omega,by go_num,HJ2,lh (HW.out.trans (HWL.out.mono HW.out.size))⟩
     case measure=>simp [intOf];omega
    ·obtain rfl:j=nI:=by omega
     clear hjl hj
     by_cases k0:1≤nN
     rotate_left
     ·have s0a:decide ((nN:Int)≥1)=false:=by simp;omega
      have s0b:decide (nN≥1)=false:=by simp;omega
      have HD:Hid (decide (headHolds ⟨ps,ks,cells,is,res,keep,nodes,entry⟩ false)=false):=lh (by rw [dfi,HX.out];intro h;exact k0 h.2.2.2.2.2.2.2.2.2.2.1)
      go_wp2
      go_ret
      exact ⟨by rw [HD.out];rfl,HBL2.out⟩
     have s0a:decide ((nN:Int)≥1)=true:=by simp;omega
     have s0b:decide (nN≥1)=true:=by simp;omega
     by_cases k1:nN≤4096
     rotate_left
     ·have s1a:decide ((nN:Int)≤4096)=false:=by simp;omega
      have s1b:decide (nN≤4096)=false:=by simp;omega
      have HD:Hid (decide (headHolds ⟨ps,ks,cells,is,res,keep,nodes,entry⟩ false)=false):=lh (by rw [dfi,HX.out];intro h;exact k1 h.2.2.2.2.2.2.2.2.2.2.2.1)
      go_wp2
      go_ret
      exact ⟨by rw [HD.out];rfl,HBL2.out⟩
     have s1a:decide ((nN:Int)≤4096)=true:=by simp;omega
     have s1b:decide (nN≤4096)=true:=by simp;omega
     by_cases k2:0≤entry
     rotate_left
     ·have s2a:decide (entry≥0)=false:=by simp;omega
      have HD:Hid (decide (headHolds ⟨ps,ks,cells,is,res,keep,nodes,entry⟩ false)=false):=lh (by rw [dfi,HX.out];intro h;exact k2 h.2.2.2.2.2.2.2.2.2.2.2.2.1)
      go_wp2
      go_ret
      exact ⟨by rw [HD.out];rfl,HBL2.out⟩
     have s2a:decide (entry≥0)=true:=by simp;omega
     by_cases k3:entry<nN
     rotate_left
     ·have s3a:decide (entry<(nN:Int))=false:=by simp;omega
      have HD:Hid (decide (headHolds ⟨ps,ks,cells,is,res,keep,nodes,entry⟩ false)=false):=lh (by rw [dfi,HX.out];intro h;exact k3 h.2.2.2.2.2.2.2.2.2.2.2.2.2)
      go_wp2
      go_ret
      exact ⟨by rw [HD.out];rfl,HBL2.out⟩
     have s3a:decide (entry<(nN:Int))=true:=by simp;omega
     have HD:Hid (decide (headHolds ⟨ps,ks,cells,is,res,keep,nodes,entry⟩ false)=true):=lh (by rw [decide_eq_true_eq];exact HC.out HKS.out HJ.out k0 k1 ⟨k2,k3⟩)
     go_wp2
     go_ret
     exact ⟨by rw [HD.out];rfl,HBL2.out⟩
end Go.Proofs.YtedmcfaghfgpoaaGreatDoor
