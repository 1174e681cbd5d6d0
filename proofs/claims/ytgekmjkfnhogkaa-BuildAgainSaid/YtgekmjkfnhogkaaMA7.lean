/-
  Texts of one seat, one behind the other: BNum, BEa, BEb, BEc.
-/
import Derived.Deep.OwnRows
import Derived.LoopTactic
import Derived.Deep.LoopGhost
import Derived.BigQuiet
import Derived.StillTailTactics
import Derived.Test.YtgekmjkfnhogkaaMA3
import Derived.Test.YtgekmjkfnhogkaaMA6

set_option linter.unusedVariables false
set_option linter.unusedSimpArgs false
set_option maxRecDepth 100000
set_option maxHeartbeats 51200000
namespace Go.Proofs.Ytgekmjkfnhogkaa
open Go.ChangeShapes Go.WideShapes Go.ChangeAt Go.RowKit
theorem binfo_int:(Try.prog.info? 3).map (fun i=>(i.zero,i.size,i.bytes))=some (some (.int .i64 0),1,8):=by kernel_rfl
theorem one_reads2 (w:World) (a:Obj) (t:TypeId) (x:Value):Reads ((w.alloc a).alloc (.cells #[x] t)) (w.heap.size+1+1) 1 (some ⟨w.heap.size+1,0,none⟩) 1 [x]:=by
 have h:=one_reads (w.alloc a) t [x] 1 rfl
 rw [show (w.alloc a).heap.size=w.heap.size+1 by simp] at h
 exact h
theorem made_int (L:Nat):madeCells #[.int .i64 0] L=(i64c (List.replicate L 0)).toArray:=by
 apply Array.ext
 ·simp [madeCells,i64c]
 ·intro i h1 h2
  simp [madeCells,i64c,Nat.mod_one]
theorem NuI.start {W:World} {B bb L:Nat} {v0 v1 v2 v3 v4 v5 v6 v8:Value} (hb:Blk W bb 81 #[v0,v1,v2,v3,v4,v5,v6,.slice none 0 0,v8,.int .i64 0]) (hB:B≤bb) :
  NuI W B bb W.heap.size L v0 v1 v2 v3 v4 v5 v6 (List.replicate L 0) 0 none 0 0 [] ((W.setCell ⟨bb,8,none⟩ (.slice (some ⟨W.heap.size,0,none⟩) L L)).alloc (.cells (madeCells #[.int .i64 0] L) 3)):=by
 have hl:=hb.lt
 rw [made_int]
 have h1:=Blk.new (W.setCell ⟨bb,8,none⟩ (.slice (some ⟨W.heap.size,0,none⟩) L L)) 3 (i64c (List.replicate L 0)).toArray
 rw [show (W.setCell ⟨bb,8,none⟩ (.slice (some ⟨W.heap.size,0,none⟩) L L)).heap.size=W.heap.size by simp] at h1
 have h2:Below B W (W.setCell ⟨bb,8,none⟩ (.slice (some ⟨W.heap.size,0,none⟩) L L)):=(Below.refl B W).setCell (p:=⟨bb,8,none⟩) hB _
 exact ⟨(hb.set_ 8 _).alloc _,h1,by simp,own_none _ _ _ _,h2.alloc (by simp;omega) _,hB,hl⟩
theorem number_any {W:World} {B bb rb L lc Lc cc:Nat} {lo co:Option Addr} {kp:Int} {f:Q.Fn} {v0 v1 v3 v6:Value} {l:List (Option Q.Stk)} (hbx:Blk W bb 81 #[v0,v1,.slice lo L lc,v3,.int .i64 kp,.slice co Lc cc,v6,.slice none 0 0,.slice none 0 0,.int .i64 0]) (hB:B≤bb) (hco:Reads W B 3 co Lc (Q.insc f.code))
  (hrb:rb<B) (hre:Blk W rb 4 (Q.reachC l).toArray) (hl:l.length=Lc) (hm:f.code.length=Lc) (hLe:f.locals.length=L) (hke:f.keep=kp) (hL:L≤1000) (hC:Lc≤1000) (hkp:kp=-1∨∃ k:Nat,kp=k∧k<L) (har:∀ i ∈ f.code,i.op=4→∃ k:Nat,i.arg=k∧k<L) :
  Calls Try.prog 15 #[.pointer (some ⟨bb,0,none⟩),.slice (some ⟨rb,0,none⟩) Lc Lc] W fun e w'=>e=.returned (.tuple #[])∧∃ NA cN,NuI W B bb W.heap.size L v0 v1 (.slice lo L lc) v3 (.int .i64 kp) (.slice co Lc cc) v6 (cellsB f l).1 (cellsB f l).2 NA Lc cN (nodesB 0 l) w':=by
 have hmk:∀ W:World,(Instr.makeSlice 42 (.int .i64 L) (.int .i64 L)).run Try.prog W=.ok (.slice (some ⟨W.heap.size,0,none⟩) L L) (W.alloc (.cells (madeCells #[.int .i64 0] L) 3)):=fun W=>run_make_row' _ _ _ 8 Try.underlying42 binfo_int rfl .i64 .i64 L (by omega) (by omega) W
 have HST:=Lib.hid (NuI.start (L:=L) hbx hB)
 have b2:W.cell? ⟨bb,2,none⟩=some (.slice lo L lc):=hbx.cell 2
 have b2':∀ o,(W.alloc o).cell? ⟨bb,2,none⟩=some (.slice lo L lc):=fun o=>(hbx.alloc o).cell 2
 have b8:∀ o,(W.alloc o).cell? ⟨bb,8,none⟩=some (.slice none 0 0):=fun o=>(hbx.alloc o).cell 8
 have bf:W.frozen? ⟨bb,8,none⟩=false:=hbx.frozen 8
 have bf':∀ o,(W.alloc o).frozen? ⟨bb,8,none⟩=false:=fun o=>(hbx.alloc o).frozen 8
 have b9:∀ v o,((W.setCell ⟨bb,8,none⟩ v).alloc o).cell? ⟨bb,8,none⟩=some v:=fun v o=>((hbx.set_ 8 v).alloc o).cell 8
 have hbz:=hbx.lt
 have HL:=Lib.hid hL
 have HLc:=Lib.hid hC
 obtain ⟨cb,hcb⟩:∃ cb,cb=W.heap.size:=⟨_,rfl⟩
 have HCO:=Lib.hid hco
 have HRE:=Lib.hid hre
 have HAR:=Lib.hid har
 have HHL:=Lib.hid hl
 have HHM:=Lib.hid hm
 have HLE:=Lib.hid hLe
 have HKE:=Lib.hid hke
 clear hbx hco hre har hl hm hLe hke
 go_enter Try.func15,Try.ntmps15
 go_wp2
 rw [← hcb] at HST ⊢
 clear b2 b2' b8 bf bf' b9 hmk
 have HHC:=Lib.hid hcb
 clear hcb
 go_loopw [23] (fun i wr=>∃ j:Nat,j≤L∧i=.int .i64 j∧Hid (NuI W B bb cb L v0 v1 (.slice lo L lc) v3 (.int .i64 kp) (.slice co Lc cc) v6 (List.replicate j (-1) ++ List.replicate (L-j) 0) 0 none 0 0 [] wr)) (fun i _=>L-(intOf i).toNat)
 case atStart=>exact ⟨0,by omega,rfl,by simpa using HST⟩
 case round =>
  obtain ⟨j,hj,rfl,HI⟩:=hrel
  have c8:wr.cell? ⟨bb,8,none⟩=some (.slice (some ⟨cb,0,none⟩) L L):=HI.out.box.cell 8
  have c4:wr.cell? ⟨bb,4,none⟩=some (.int .i64 kp):=HI.out.box.cell 4
  have c5:wr.cell? ⟨bb,5,none⟩=some (.slice co Lc cc):=HI.out.box.cell 5
  by_cases hlt:j<L
  ·obtain ⟨z,hz⟩:∃ z,wr.cell? ⟨cb,j,none⟩=some (.int .i64 z):=by
    have hjl:j<(List.replicate j (-1:Int) ++ List.replicate (L-j) 0).length:=by simp;omega
    exact ⟨_,by rw [HI.out.cblk.cell,List.getElem?_toArray];exact i64c_at (list_at hjl)⟩
   have zf:wr.frozen? ⟨cb,j,none⟩=false:=HI.out.cblk.frozen j
   have gj:IntKind.i64.wrap (j:Int)=(j:Int):=bi64 (by have:=HL.out;omega)
   go_wp2
   go_roundw
   case rel =>
    refine ⟨j+1,by omega,by go_num,?_⟩
    have h1:=HI.out.setc j (-1)
    rw [minus_succ hlt] at h1
    exact Lib.hid h1
   case measure=>simp [intOf];omega
  ·obtain rfl:j=L:=by omega
   have HIL:Hid (NuI W B bb cb j v0 v1 (.slice lo j lc) v3 (.int .i64 kp) (.slice co Lc cc) v6 (List.replicate j (-1)) 0 none 0 0 [] wr):=by simpa using HI
   clear HI
   obtain ⟨wo,rfl⟩:∃ wo,wo=wr:=⟨_,rfl⟩
   by_cases hk1:kp=-1
   ·have g1:(kp != -1)=false:=by simpa using hk1
    have HC0:Hid (NuI W B bb cb j v0 v1 (.slice lo j lc) v3 (.int .i64 kp) (.slice co Lc cc) v6 (cellK f l 0).1 (cellK f l 0).2 none 0 0 ((nodesB 0 l).take 0) wo):=Lib.hid (by
     have e:cellK f l 0=(List.replicate j (-1),0):=by
      unfold cellK cell0
      rw [HKE.out,if_pos hk1,HLE.out]
      rfl
     rw [e]
     exact HIL.out)
    clear hk1
    go_wp2
    go_loopw [5,52] (fun v i wr=>∃ (k:Nat) (NA:Option Addr) (cN:Nat),k≤Lc∧v=.int .i64 (cntB l k)∧i=.int .i64 k∧Hid (NuI W B bb cb j v0 v1 (.slice lo j lc) v3 (.int .i64 kp) (.slice co Lc cc) v6 (cellK f l k).1 (cellK f l k).2 NA k cN ((nodesB 0 l).take k) wr)) (fun _ i _=>Lc-(intOf i).toNat)
    case atStart=>exact ⟨0,none,0,by omega,rfl,rfl,HC0⟩
    case round =>
     obtain ⟨k,NA,cN,hk,rfl,rfl,HI⟩:=hrel
     by_cases hlt:k<Lc
     ·obtain ⟨cob,coo,x,rfl,hcob,HX,x0,x1,x2⟩:=Q.Reads.ins (show Q.Reads wr B 3 co Lc (Q.insc f.code) from HCO.out.below HI.out.below) hlt
      obtain ⟨y,hy⟩:∃ y,l[k]?=some y:=⟨_,List.getElem?_eq_getElem (by rw [HHL.out];exact hlt)⟩
      have HY:=Lib.hid hy
      have hbw:bb<wr.heap.size:=HI.out.box.lt
      have hrw:rb<wr.heap.size:=by have:=HI.out.ltb;omega
      have hBw:B≤bb:=HI.out.ltb
      have r0:wr.cell? ⟨rb,k,none⟩=some (.bool y.isSome):=by
       rw [HI.out.below.cell (p:=⟨rb,k,none⟩) hrb,HRE.out.cell,List.getElem?_toArray]
       simp [Q.reachC,hy]
      have r1:∀ o,(wr.alloc o).cell? ⟨rb,k,none⟩=some (.bool y.isSome):=fun o=>(World.cell?_alloc_lt wr o ⟨rb,k,none⟩ hrw).trans r0
      have n7:∀ o,(wr.alloc o).cell? ⟨bb,7,none⟩=some (.slice NA k cN):=fun o=>(HI.out.box.alloc o).cell 7
      have gk:IntKind.i64.wrap (k:Int)=(k:Int):=bi64 (by have:=HLc.out;omega)
      have gk1:IntKind.i64.wrap ((k:Int)+1)=((k+1:Nat):Int):=by
       have:=HLc.out
       rw [show (k:Int)+1=((k+1:Nat):Int) by omega]
       exact bi64 (by omega)
      have HSC:=Lib.hid (cntB_succ hy)
      have HSN:=Lib.hid (nodesB_take hy)
      have hxi:f.code[k]?=some x:=HX.out
      have HSK:=Lib.hid (cellK_succ hxi hy)
      have HMEM:=Lib.hid (List.mem_of_getElem? hxi)
      have hcn:cntB l k≤k:=by
       unfold cntB
       exact Nat.le_trans List.countP_le_length (by rw [List.length_take];omega)
      have HCN:=Lib.hid hcn
      have HCC:=Lib.hid (cellK_cnt (f:=f) (l:=l) (by rw [HHL.out,HHM.out]) k (by rw [HHM.out];omega))
      clear hy r0 hxi hcn
      cases y with
      | none =>
       simp only [Option.isSome_none] at r1 HSC HSN HSK
       go_wp2_with (at_builtin;refine app_int rfl (.tmp 66) (.tmp 67) rfl (cb+1) (.slice NA k cN) k _ rfl (own_alloc (own_alloc HI.out.own _) _) (wr.heap.size+1+1) (some ⟨wr.heap.size+1,0,none⟩) 1 1 [.int .i64 (-1)] rfl (one_reads2 wr _ _ _) (ints_oneCell .i64 [(-1)]) (by have:=HLc.out;omega) (by have:=HI.out.cblk.lt;simp;omega) ?_;intro v' w' hown hgr hor;obtain ⟨A',c',rfl,f7,y7,HKN⟩:=(HI.out.alloc (show B≤wr.heap.size by omega) (.cells #[.int .u8 x.op,.int .i64 x.arg,.int .u64 x.imm] 52)).push hown hgr;have HIB:Hid (Blk w' wr.heap.size 52 #[.int .u8 x.op,.int .i64 x.arg,.int .u64 x.imm]):=Lib.hid (blk_grown ((Blk.new wr 52 _).alloc _) (own_alloc (own_alloc HI.out.own _) _) hgr (by decide));have q0:∀ v,(w'.setCell ⟨bb,7,none⟩ v).cell? ⟨wr.heap.size,0,none⟩=some (.int .u8 x.op):=fun v=>(HIB.out.far (p:=⟨bb,7,none⟩) (by show wr.heap.size≠bb;omega) v).cell 0;have q1:∀ v,(w'.setCell ⟨bb,7,none⟩ v).cell? ⟨wr.heap.size,1,none⟩=some (.int .i64 x.arg):=fun v=>(HIB.out.far (p:=⟨bb,7,none⟩) (by show wr.heap.size≠bb;omega) v).cell 1;clear hown hgr hor)
       go_roundw
       case rel=>exact ⟨k+1,A',c',by omega,by rw [HSC.out];simp,by go_num,by rw [HSK.out,HSN.out];simpa using HKN⟩
       case measure=>simp [intOf];omega
      | some s =>
       simp only [Option.isSome_some] at r1 HSC HSN HSK
       have gc1:IntKind.i64.wrap (((cntB l k:Nat):Int)+1)=((cntB l k+1:Nat):Int):=by
        have:=HCN.out
        have:=HLc.out
        rw [show ((cntB l k:Nat):Int)+1=((cntB l k+1:Nat):Int) by omega]
        exact bi64 (by omega)
       by_cases h4:x.op=4
       ·have g4:(x.op == 4)=true:=by simpa using h4
        obtain ⟨k2,hk2,hk2l⟩:=HAR.out x HMEM.out h4
        have HK2:=Lib.hid hk2
        have H4:=Lib.hid h4
        clear hk2 h4
        go_wp2_with (first
         | (go_at_call 33;refine HND.out.mono ?_;rintro e w9 ⟨rfl,hnu⟩;have HNU:=Lib.hid hnu;clear hnu)
         | (at_builtin;refine app_int rfl (.tmp 75) (.tmp 77) rfl (cb+1) (.slice NA k cN) k _ rfl (own_alloc (own_alloc HI.out.own _) _) (wr.heap.size+1+1) (some ⟨wr.heap.size+1,0,none⟩) 1 1 [.int .i64 ((cntB l k:Nat):Int)] rfl (one_reads2 wr _ _ _) (ints_oneCell .i64 [((cntB l k:Nat):Int)]) (by have:=HLc.out;omega) (by have:=HI.out.cblk.lt;simp;omega) ?_;intro v' w' hown hgr hor;obtain ⟨A',c',rfl,f7,y7,HKN⟩:=(HI.out.alloc (show B≤wr.heap.size by omega) (.cells #[.int .u8 x.op,.int .i64 x.arg,.int .u64 x.imm] 52)).push hown hgr;have HIB:Hid (Blk w' wr.heap.size 52 #[.int .u8 x.op,.int .i64 x.arg,.int .u64 x.imm]):=Lib.hid (blk_grown ((Blk.new wr 52 _).alloc _) (own_alloc (own_alloc HI.out.own _) _) hgr (by decide));have q0:∀ v,(w'.setCell ⟨bb,7,none⟩ v).cell? ⟨wr.heap.size,0,none⟩=some (.int .u8 x.op):=fun v=>(HIB.out.far (p:=⟨bb,7,none⟩) (by show wr.heap.size≠bb;omega) v).cell 0;have q1:∀ v,(w'.setCell ⟨bb,7,none⟩ v).cell? ⟨wr.heap.size,1,none⟩=some (.int .i64 x.arg):=fun v=>(HIB.out.far (p:=⟨bb,7,none⟩) (by show wr.heap.size≠bb;omega) v).cell 1;clear hown hgr hor;have hnd:=HKN.out.need k2 hk2l (by have:=HL.out;omega) (by have:=HCC.out;have:=HLc.out;omega);rw [← HK2.out] at hnd;have HND:=Lib.hid hnd;clear hnd))
        go_roundw
        case rel=>exact ⟨k+1,A',c',by omega,by rw [HSC.out];rfl,by go_num,by rw [HSK.out,HSN.out,if_pos ⟨by trivial,H4.out⟩];exact HNU⟩
        case measure=>simp [intOf];omega
       ·have g4:(x.op == 4)=false:=by simpa using h4
        have H4:=Lib.hid h4
        clear h4
        go_wp2_with (at_builtin;refine app_int rfl (.tmp 75) (.tmp 77) rfl (cb+1) (.slice NA k cN) k _ rfl (own_alloc (own_alloc HI.out.own _) _) (wr.heap.size+1+1) (some ⟨wr.heap.size+1,0,none⟩) 1 1 [.int .i64 ((cntB l k:Nat):Int)] rfl (one_reads2 wr _ _ _) (ints_oneCell .i64 [((cntB l k:Nat):Int)]) (by have:=HLc.out;omega) (by have:=HI.out.cblk.lt;simp;omega) ?_;intro v' w' hown hgr hor;obtain ⟨A',c',rfl,f7,y7,HKN⟩:=(HI.out.alloc (show B≤wr.heap.size by omega) (.cells #[.int .u8 x.op,.int .i64 x.arg,.int .u64 x.imm] 52)).push hown hgr;have HIB:Hid (Blk w' wr.heap.size 52 #[.int .u8 x.op,.int .i64 x.arg,.int .u64 x.imm]):=Lib.hid (blk_grown ((Blk.new wr 52 _).alloc _) (own_alloc (own_alloc HI.out.own _) _) hgr (by decide));have q0:∀ v,(w'.setCell ⟨bb,7,none⟩ v).cell? ⟨wr.heap.size,0,none⟩=some (.int .u8 x.op):=fun v=>(HIB.out.far (p:=⟨bb,7,none⟩) (by show wr.heap.size≠bb;omega) v).cell 0;have q1:∀ v,(w'.setCell ⟨bb,7,none⟩ v).cell? ⟨wr.heap.size,1,none⟩=some (.int .i64 x.arg):=fun v=>(HIB.out.far (p:=⟨bb,7,none⟩) (by show wr.heap.size≠bb;omega) v).cell 1;clear hown hgr hor)
        go_roundw
        case rel=>exact ⟨k+1,A',c',by omega,by rw [HSC.out];rfl,by go_num,by rw [HSK.out,HSN.out,if_neg (fun h=>H4.out h.2)];exact HKN⟩
        case measure=>simp [intOf];omega
     ·obtain rfl:k=Lc:=by omega
      have HFIN:Hid (NuI W B bb cb j v0 v1 (.slice lo j lc) v3 (.int .i64 kp) (.slice co k cc) v6 (cellsB f l).1 (cellsB f l).2 NA k cN (nodesB 0 l) wr):=Lib.hid (by
       have h:=HI.out
       rw [List.take_of_length_le (by rw [nodesB_len,HHL.out];exact Nat.le_refl _),← HHM.out,cellK_all (by rw [HHL.out,HHM.out]),HHM.out] at h
       exact h)
      go_wp2
      go_end0
      exact ⟨rfl,NA,cN,by rw [← HHC.out];exact HFIN.out⟩
   ·have g1:(kp != -1)=true:=by simpa using hk1
    obtain ⟨k0,hk0,hk0l⟩:∃ k:Nat,kp=k∧k<j:=by
     rcases hkp with h | h
     ·exact absurd h hk1
     ·exact h
    have HND:=Lib.hid (HIL.out.need k0 hk0l (by have:=HL.out;omega) (by omega))
    rw [← hk0] at HND
    have HE:Hid (cellK f l 0=needB (List.replicate j (-1),0) kp):=Lib.hid (by
     unfold cellK cell0
     rw [HKE.out,if_neg hk1,HLE.out]
     rfl)
    clear hk1 hk0 hk0l
    go_wp2_with (go_at_call 33;refine HND.out.mono ?_;rintro e w2 ⟨rfl,hnu⟩;have HC0:Hid (NuI W B bb cb j v0 v1 (.slice lo j lc) v3 (.int .i64 kp) (.slice co Lc cc) v6 (cellK f l 0).1 (cellK f l 0).2 none 0 0 ((nodesB 0 l).take 0) w2):=Lib.hid (by rw [HE.out];exact hnu);clear hnu;have c5':w2.cell? ⟨bb,5,none⟩=some (.slice co Lc cc):=HC0.out.box.cell 5)
    go_loopw [5,52] (fun v i wr=>∃ (k:Nat) (NA:Option Addr) (cN:Nat),k≤Lc∧v=.int .i64 (cntB l k)∧i=.int .i64 k∧Hid (NuI W B bb cb j v0 v1 (.slice lo j lc) v3 (.int .i64 kp) (.slice co Lc cc) v6 (cellK f l k).1 (cellK f l k).2 NA k cN ((nodesB 0 l).take k) wr)) (fun _ i _=>Lc-(intOf i).toNat)
    case atStart=>exact ⟨0,none,0,by omega,rfl,rfl,HC0⟩
    case round =>
     obtain ⟨k,NA,cN,hk,rfl,rfl,HI⟩:=hrel
     by_cases hlt:k<Lc
     ·obtain ⟨cob,coo,x,rfl,hcob,HX,x0,x1,x2⟩:=Q.Reads.ins (show Q.Reads wr B 3 co Lc (Q.insc f.code) from HCO.out.below HI.out.below) hlt
      obtain ⟨y,hy⟩:∃ y,l[k]?=some y:=⟨_,List.getElem?_eq_getElem (by rw [HHL.out];exact hlt)⟩
      have HY:=Lib.hid hy
      have hbw:bb<wr.heap.size:=HI.out.box.lt
      have hrw:rb<wr.heap.size:=by have:=HI.out.ltb;omega
      have hBw:B≤bb:=HI.out.ltb
      have r0:wr.cell? ⟨rb,k,none⟩=some (.bool y.isSome):=by
       rw [HI.out.below.cell (p:=⟨rb,k,none⟩) hrb,HRE.out.cell,List.getElem?_toArray]
       simp [Q.reachC,hy]
      have r1:∀ o,(wr.alloc o).cell? ⟨rb,k,none⟩=some (.bool y.isSome):=fun o=>(World.cell?_alloc_lt wr o ⟨rb,k,none⟩ hrw).trans r0
      have n7:∀ o,(wr.alloc o).cell? ⟨bb,7,none⟩=some (.slice NA k cN):=fun o=>(HI.out.box.alloc o).cell 7
      have gk:IntKind.i64.wrap (k:Int)=(k:Int):=bi64 (by have:=HLc.out;omega)
      have gk1:IntKind.i64.wrap ((k:Int)+1)=((k+1:Nat):Int):=by
       have:=HLc.out
       rw [show (k:Int)+1=((k+1:Nat):Int) by omega]
       exact bi64 (by omega)
      have HSC:=Lib.hid (cntB_succ hy)
      have HSN:=Lib.hid (nodesB_take hy)
      have hxi:f.code[k]?=some x:=HX.out
      have HSK:=Lib.hid (cellK_succ hxi hy)
      have HMEM:=Lib.hid (List.mem_of_getElem? hxi)
      have hcn:cntB l k≤k:=by
       unfold cntB
       exact Nat.le_trans List.countP_le_length (by rw [List.length_take];omega)
      have HCN:=Lib.hid hcn
      have HCC:=Lib.hid (cellK_cnt (f:=f) (l:=l) (by rw [HHL.out,HHM.out]) k (by rw [HHM.out];omega))
      clear hy r0 hxi hcn
      cases y with
      | none =>
       simp only [Option.isSome_none] at r1 HSC HSN HSK
       go_wp2_with (at_builtin;refine app_int rfl (.tmp 66) (.tmp 67) rfl (cb+1) (.slice NA k cN) k _ rfl (own_alloc (own_alloc HI.out.own _) _) (wr.heap.size+1+1) (some ⟨wr.heap.size+1,0,none⟩) 1 1 [.int .i64 (-1)] rfl (one_reads2 wr _ _ _) (ints_oneCell .i64 [(-1)]) (by have:=HLc.out;omega) (by have:=HI.out.cblk.lt;simp;omega) ?_;intro v' w' hown hgr hor;obtain ⟨A',c',rfl,f7,y7,HKN⟩:=(HI.out.alloc (show B≤wr.heap.size by omega) (.cells #[.int .u8 x.op,.int .i64 x.arg,.int .u64 x.imm] 52)).push hown hgr;have HIB:Hid (Blk w' wr.heap.size 52 #[.int .u8 x.op,.int .i64 x.arg,.int .u64 x.imm]):=Lib.hid (blk_grown ((Blk.new wr 52 _).alloc _) (own_alloc (own_alloc HI.out.own _) _) hgr (by decide));have q0:∀ v,(w'.setCell ⟨bb,7,none⟩ v).cell? ⟨wr.heap.size,0,none⟩=some (.int .u8 x.op):=fun v=>(HIB.out.far (p:=⟨bb,7,none⟩) (by show wr.heap.size≠bb;omega) v).cell 0;have q1:∀ v,(w'.setCell ⟨bb,7,none⟩ v).cell? ⟨wr.heap.size,1,none⟩=some (.int .i64 x.arg):=fun v=>(HIB.out.far (p:=⟨bb,7,none⟩) (by show wr.heap.size≠bb;omega) v).cell 1;clear hown hgr hor)
       go_roundw
       case rel=>exact ⟨k+1,A',c',by omega,by rw [HSC.out];simp,by go_num,by rw [HSK.out,HSN.out];simpa using HKN⟩
       case measure=>simp [intOf];omega
      | some s =>
       simp only [Option.isSome_some] at r1 HSC HSN HSK
       have gc1:IntKind.i64.wrap (((cntB l k:Nat):Int)+1)=((cntB l k+1:Nat):Int):=by
        have:=HCN.out
        have:=HLc.out
        rw [show ((cntB l k:Nat):Int)+1=((cntB l k+1:Nat):Int) by omega]
        exact bi64 (by omega)
       by_cases h4:x.op=4
       ·have g4:(x.op == 4)=true:=by simpa using h4
        obtain ⟨k2,hk2,hk2l⟩:=HAR.out x HMEM.out h4
        have HK2:=Lib.hid hk2
        have H4:=Lib.hid h4
        clear hk2 h4
        go_wp2_with (first
         | (go_at_call 33;refine HND.out.mono ?_;rintro e w9 ⟨rfl,hnu⟩;have HNU:=Lib.hid hnu;clear hnu)
         | (at_builtin;refine app_int rfl (.tmp 75) (.tmp 77) rfl (cb+1) (.slice NA k cN) k _ rfl (own_alloc (own_alloc HI.out.own _) _) (wr.heap.size+1+1) (some ⟨wr.heap.size+1,0,none⟩) 1 1 [.int .i64 ((cntB l k:Nat):Int)] rfl (one_reads2 wr _ _ _) (ints_oneCell .i64 [((cntB l k:Nat):Int)]) (by have:=HLc.out;omega) (by have:=HI.out.cblk.lt;simp;omega) ?_;intro v' w' hown hgr hor;obtain ⟨A',c',rfl,f7,y7,HKN⟩:=(HI.out.alloc (show B≤wr.heap.size by omega) (.cells #[.int .u8 x.op,.int .i64 x.arg,.int .u64 x.imm] 52)).push hown hgr;have HIB:Hid (Blk w' wr.heap.size 52 #[.int .u8 x.op,.int .i64 x.arg,.int .u64 x.imm]):=Lib.hid (blk_grown ((Blk.new wr 52 _).alloc _) (own_alloc (own_alloc HI.out.own _) _) hgr (by decide));have q0:∀ v,(w'.setCell ⟨bb,7,none⟩ v).cell? ⟨wr.heap.size,0,none⟩=some (.int .u8 x.op):=fun v=>(HIB.out.far (p:=⟨bb,7,none⟩) (by show wr.heap.size≠bb;omega) v).cell 0;have q1:∀ v,(w'.setCell ⟨bb,7,none⟩ v).cell? ⟨wr.heap.size,1,none⟩=some (.int .i64 x.arg):=fun v=>(HIB.out.far (p:=⟨bb,7,none⟩) (by show wr.heap.size≠bb;omega) v).cell 1;clear hown hgr hor;have hnd:=HKN.out.need k2 hk2l (by have:=HL.out;omega) (by have:=HCC.out;have:=HLc.out;omega);rw [← HK2.out] at hnd;have HND:=Lib.hid hnd;clear hnd))
        go_roundw
        case rel=>exact ⟨k+1,A',c',by omega,by rw [HSC.out];rfl,by go_num,by rw [HSK.out,HSN.out,if_pos ⟨by trivial,H4.out⟩];exact HNU⟩
        case measure=>simp [intOf];omega
       ·have g4:(x.op == 4)=false:=by simpa using h4
        have H4:=Lib.hid h4
        clear h4
        go_wp2_with (at_builtin;refine app_int rfl (.tmp 75) (.tmp 77) rfl (cb+1) (.slice NA k cN) k _ rfl (own_alloc (own_alloc HI.out.own _) _) (wr.heap.size+1+1) (some ⟨wr.heap.size+1,0,none⟩) 1 1 [.int .i64 ((cntB l k:Nat):Int)] rfl (one_reads2 wr _ _ _) (ints_oneCell .i64 [((cntB l k:Nat):Int)]) (by have:=HLc.out;omega) (by have:=HI.out.cblk.lt;simp;omega) ?_;intro v' w' hown hgr hor;obtain ⟨A',c',rfl,f7,y7,HKN⟩:=(HI.out.alloc (show B≤wr.heap.size by omega) (.cells #[.int .u8 x.op,.int .i64 x.arg,.int .u64 x.imm] 52)).push hown hgr;have HIB:Hid (Blk w' wr.heap.size 52 #[.int .u8 x.op,.int .i64 x.arg,.int .u64 x.imm]):=Lib.hid (blk_grown ((Blk.new wr 52 _).alloc _) (own_alloc (own_alloc HI.out.own _) _) hgr (by decide));have q0:∀ v,(w'.setCell ⟨bb,7,none⟩ v).cell? ⟨wr.heap.size,0,none⟩=some (.int .u8 x.op):=fun v=>(HIB.out.far (p:=⟨bb,7,none⟩) (by show wr.heap.size≠bb;omega) v).cell 0;have q1:∀ v,(w'.setCell ⟨bb,7,none⟩ v).cell? ⟨wr.heap.size,1,none⟩=some (.int .i64 x.arg):=fun v=>(HIB.out.far (p:=⟨bb,7,none⟩) (by show wr.heap.size≠bb;omega) v).cell 1;clear hown hgr hor)
        go_roundw
        case rel=>exact ⟨k+1,A',c',by omega,by rw [HSC.out];rfl,by go_num,by rw [HSK.out,HSN.out,if_neg (fun h=>H4.out h.2)];exact HKN⟩
        case measure=>simp [intOf];omega
     ·obtain rfl:k=Lc:=by omega
      have HFIN:Hid (NuI W B bb cb j v0 v1 (.slice lo j lc) v3 (.int .i64 kp) (.slice co k cc) v6 (cellsB f l).1 (cellsB f l).2 NA k cN (nodesB 0 l) wr):=Lib.hid (by
       have h:=HI.out
       rw [List.take_of_length_le (by rw [nodesB_len,HHL.out];exact Nat.le_refl _),← HHM.out,cellK_all (by rw [HHL.out,HHM.out]),HHM.out] at h
       exact h)
      go_wp2
      go_end0
      exact ⟨rfl,NA,cN,by rw [← HHC.out];exact HFIN.out⟩
theorem eff_const {W:World} {B bb n nc cc sc:Nat} {fa ca SA:Option Addr} {rs:List Q.Raw} {r:Q.Raw} {cells:List Int} {s:Q.Stk} (arg imm:Int) (h:BR W B bb fa n nc rs r ca cc cells) (hB:B≤W.heap.size) (hs:Reads W B 1 SA s.length (u8c s)) (hsl:s.length≤100000) (hsb:∀ x ∈ s,0≤x∧x≤255) :
  Calls Try.prog 61 #[.pointer (some ⟨bb,0,none⟩),.agg #[.int .u8 1,.int .i64 arg,.int .u64 imm],.slice SA s.length sc] W (EffPost W (effB (Q.fns rs) r.fn cells ⟨1,arg,imm⟩ s)):=by
 obtain ⟨m,hm⟩:∃ m,m=effB (Q.fns rs) r.fn cells ⟨1,arg,imm⟩ s:=⟨_,rfl⟩
 obtain ⟨q,hq⟩:∃ q,q=s.length-0:=⟨_,rfl⟩
 have hmv:m={ ndB 1 (wordB r.fn q 0) 0 with imm:=imm }:=by
  rw [hm]
  (try rw [hq])
  simp [effB,takesB,topB_len]
 have HV:=Lib.hid hmv
 rw [← hm]
 have HT:Hid (∀ wr,Below W.heap.size W wr→Calls Try.prog 82 #[.pointer (some ⟨bb,0,none⟩),.agg #[.int .u8 1,.int .i64 arg,.int .u64 imm]] wr fun e w'=>e=.returned (.int .i64 0)∧Below wr.heap.size wr w'):=Lib.hid fun wr hb=>takes_plain bb 1 arg imm 0 wr (.inl ⟨rfl,.inl rfl⟩)
 have HTOP:Hid (∀ wr,Below W.heap.size W wr→Calls Try.prog 81 #[.pointer (some ⟨bb,0,none⟩),.slice SA s.length sc,.int .i64 0] wr fun e w'=>∃ A c,e=.returned (.slice A 0 c)∧w'.ownsRow wr.heap.size 3 1 (.slice A 0 c) 0 (i64c (topB r.fn s 0))∧Below wr.heap.size wr w'):=Lib.hid fun wr hb=>by
  have h':=h.below (hb.mono hB)
  have hz:=hb.size
  exact top_any bb B r.fn r.lo r.lc s SA sc 0 wr h'.c2 (by have:=h.lt;omega) (hs.below (hb.mono hB)) (by omega) h.ll hsl (by omega) hsb
 obtain ⟨L,hL⟩:∃ L:Nat,L=r.fn.locals.length:=⟨_,rfl⟩
 have HWD:Hid (∀ wr,Below W.heap.size W wr→∀ (d:Nat) (k:Int),d≤1000000→0≤k∧k≤255→Calls Try.prog 83 #[.pointer (some ⟨bb,0,none⟩),.int .i64 d,.int .u8 k] wr fun e w'=>e=.returned (.int .i64 ((L:Int)+2*d+k))∧w'=wr):=Lib.hid fun wr hb d k hd hk=>by
  have h':=h.below (hb.mono hB)
  rw [hL]
  exact word_any bb r.lo r.fn.locals.length r.lc d k wr h'.c2 (by have:=h.ll;omega) hd hk
 have gq:(s.length:Int)-0=(q:Int):=by omega
 have gqw:IntKind.i64.wrap (q:Int)=(q:Int):=bi64 (by omega)
 have HQ:Hid (q≤100000):=Lib.hid (by omega)
 obtain ⟨left,hleft⟩:∃ left:Int,left=(L:Int)+2*(q:Int):=⟨_,rfl⟩
 have HLF:=Lib.hid hleft
 have HBR:=Lib.hid h
 have HS:=Lib.hid hs
 have HLL:=Lib.hid hL
 have HQQ:=Lib.hid hq
 have hB0:Below W.heap.size W ((W.alloc (.cells #[.int .u8 1,.int .i64 arg,.int .u64 imm] 52)).alloc (.cells zero12 70)):=((Below.refl _ _).alloc (Nat.le_refl _) _).alloc (by simp) _
 have hI0:Blk ((W.alloc (.cells #[.int .u8 1,.int .i64 arg,.int .u64 imm] 52)).alloc (.cells zero12 70)) W.heap.size 52 #[.int .u8 1,.int .i64 arg,.int .u64 imm]:=(Blk.new W _ _).alloc _
 have hZ0:Blk ((W.alloc (.cells #[.int .u8 1,.int .i64 arg,.int .u64 imm] 52)).alloc (.cells zero12 70)) (W.heap.size+1) 70 zero12:=by
  have h1:=Blk.new (W.alloc (.cells #[.int .u8 1,.int .i64 arg,.int .u64 imm] 52)) 70 zero12
  rw [show (W.alloc (.cells #[.int .u8 1,.int .i64 arg,.int .u64 imm] 52)).heap.size=W.heap.size+1 by simp] at h1
  exact h1
 have HB0:=Lib.hid hB0
 have HI0:=Lib.hid hI0
 have HZ0:=Lib.hid hZ0
 simp only [zero12] at HB0 HI0 HZ0
 clear h hB hs hsb hm hmv hL hq hleft hB0 hI0 hZ0
 go_enter Try.func61,Try.ntmps61
 go_wp2_with (first
  | (go_at_call 82;refine (HT.out _ HB0.out).mono ?_;rintro e w1 ⟨rfl,hb1⟩;have HB1:=Lib.hid (HB0.out.trans (hb1.mono HB0.out.size));have HI1:=Lib.hid (HI0.out.below hb1 HI0.out.lt);have HZ1:=Lib.hid (HZ0.out.below hb1 HZ0.out.lt);clear hb1)
  | (go_at_call 81;refine (HTOP.out _ HB1.out).mono ?_;rintro e w2 ⟨A,c,rfl,hown,hb2⟩;have HOW:=Lib.hid (own_more hown HB1.out.size);have HB2:=Lib.hid (HB1.out.trans (hb2.mono HB1.out.size));have HI2:=Lib.hid (HI1.out.below hb2 HI1.out.lt);have HZ2:=Lib.hid (HZ1.out.below hb2 HZ1.out.lt);clear hown hb2)
  | (go_at_call 83;refine (HWD.out _ HB2.out q 0 (by have:=HQ.out;omega) (by omega)).mono ?_;rintro e w3 ⟨rfl,rfl⟩;refine Hid.out ?_))
 have i0:w3.cell? ⟨W.heap.size,0,none⟩=some (.int .u8 1):=HI2.out.cell 0
 have i1:w3.cell? ⟨W.heap.size,1,none⟩=some (.int .i64 arg):=HI2.out.cell 1
 have i2:w3.cell? ⟨W.heap.size,2,none⟩=some (.int .u64 imm):=HI2.out.cell 2
 have z0:w3.cell? ⟨W.heap.size+1,0,none⟩=some (.int .u8 0):=HZ2.out.cell 0
 have z1:w3.cell? ⟨W.heap.size+1,1,none⟩=some (.int .u8 0):=HZ2.out.cell 1
 have z2:w3.cell? ⟨W.heap.size+1,2,none⟩=some (.int .i64 0):=HZ2.out.cell 2
 have z3:w3.cell? ⟨W.heap.size+1,3,none⟩=some (.int .i64 0):=HZ2.out.cell 3
 have z4:w3.cell? ⟨W.heap.size+1,4,none⟩=some (.int .i64 0):=HZ2.out.cell 4
 have z5:w3.cell? ⟨W.heap.size+1,5,none⟩=some (.int .i64 0):=HZ2.out.cell 5
 have z6:w3.cell? ⟨W.heap.size+1,6,none⟩=some (.int .i64 0):=HZ2.out.cell 6
 have z7:w3.cell? ⟨W.heap.size+1,7,none⟩=some (.int .i64 0):=HZ2.out.cell 7
 have z8:w3.cell? ⟨W.heap.size+1,8,none⟩=some (.int .u64 0):=HZ2.out.cell 8
 have z9:w3.cell? ⟨W.heap.size+1,9,none⟩=some (.slice none 0 0):=HZ2.out.cell 9
 have z10:w3.cell? ⟨W.heap.size+1,10,none⟩=some (.int .i64 0):=HZ2.out.cell 10
 have z11:w3.cell? ⟨W.heap.size+1,11,none⟩=some (.int .i64 0):=HZ2.out.cell 11
 have zf:∀ i,w3.frozen? ⟨W.heap.size+1,i,none⟩=false:=fun i=>HZ2.out.frozen i
 have gl:(L:Int)+2*(q:Int)=left:=HLF.out.symm
 refine Lib.hid ?_
 go_wp2
 refine (fun (hg:∀ wf,wf=ndSet w3 (W.heap.size+1) ⟨1,0,left,0,0,0,0,0,imm,[],0,0⟩ none 0 0→bodyPost _ _ _ _ _ wf)=>hg _ rfl) ?_
 intro wf hwf
 have hfb:Blk wf (W.heap.size+1) 70 (ndC ⟨1,0,left,0,0,0,0,0,imm,[],0,0⟩ none 0 0):=by rw [hwf];exact ndSet_blk _ _ _ _ HZ2.out
 have hfw:Below W.heap.size W wf:=by rw [hwf];exact ndSet_below _ _ _ _ HB2.out (by omega)
 have hfo:wf.ownsRow W.heap.size 3 1 (.slice none 0 0) 0 (i64c (⟨1,0,left,0,0,0,0,0,imm,[],0,0⟩:Nd).args):=by rw [hwf];exact own_none _ _ _ _
 have e0:=hfb.cell 0
 have e1:=hfb.cell 1
 have e2:=hfb.cell 2
 have e3:=hfb.cell 3
 have e4:=hfb.cell 4
 have e5:=hfb.cell 5
 have e6:=hfb.cell 6
 have e7:=hfb.cell 7
 have e8:=hfb.cell 8
 have e9:=hfb.cell 9
 have e10:=hfb.cell 10
 have e11:=hfb.cell 11
 simp only [ndC,List.getElem?_toArray,List.getElem?_cons_succ,List.getElem?_cons_zero] at e0 e1 e2 e3 e4 e5 e6 e7 e8 e9 e10 e11
 clear hwf
 have hnode:=HV.out
 refine bodyPost_ret (v:=ndV ⟨1,0,left,0,0,0,0,0,imm,[],0,0⟩ none 0) (by simp [results,Try.results61,go_sem,ndV,topB_len,e0,e1,e2,e3,e4,e5,e6,e7,e8,e9,e10,e11]) rfl ?_
 have hnd:m=⟨1,0,left,0,0,0,0,0,imm,[],0,0⟩:=by
  rw [HV.out]
  simp [ndB,wordB,HLF.out,HLL.out]
 rw [hnd]
 exact ⟨_,_,rfl,hfo,hfw⟩
theorem eff_bin {W:World} {B bb n nc cc sc:Nat} {fa ca SA:Option Addr} {rs:List Q.Raw} {r:Q.Raw} {cells:List Int} {s:Q.Stk} (o:Int) (arg imm:Int) (h:BR W B bb fa n nc rs r ca cc cells) (hB:B≤W.heap.size) (hs:Reads W B 1 SA s.length (u8c s)) (hsl:s.length≤100000) (hsb:∀ x ∈ s,0≤x∧x≤255) (hn:2≤s.length) (ho:7≤o∧o≤20) :
  Calls Try.prog 61 #[.pointer (some ⟨bb,0,none⟩),.agg #[.int .u8 o,.int .i64 arg,.int .u64 imm],.slice SA s.length sc] W (EffPost W (effB (Q.fns rs) r.fn cells ⟨o,arg,imm⟩ s)):=by
 have n1:¬ o=1:=by omega
 have g1:(o == 1)=false:=by simp;omega
 have n2:¬ o=2:=by omega
 have g2:(o == 2)=false:=by simp;omega
 have n3:¬ o=3:=by omega
 have g3:(o == 3)=false:=by simp;omega
 have n4:¬ o=4:=by omega
 have g4:(o == 4)=false:=by simp;omega
 have n5:¬ o=5:=by omega
 have g5:(o == 5)=false:=by simp;omega
 have n6:¬ o=6:=by omega
 have g6:(o == 6)=false:=by simp;omega
 have n21:¬ o=21:=by omega
 have g21:(o == 21)=false:=by simp;omega
 have n22:¬ o=22:=by omega
 have g22:(o == 22)=false:=by simp;omega
 have n23:¬ o=23:=by omega
 have g23:(o == 23)=false:=by simp;omega
 have n24:¬ o=24:=by omega
 have g24:(o == 24)=false:=by simp;omega
 have n25:¬ o=25:=by omega
 have g25:(o == 25)=false:=by simp;omega
 have n26:¬ o=26:=by omega
 have g26:(o == 26)=false:=by simp;omega
 have n27:¬ o=27:=by omega
 have g27:(o == 27)=false:=by simp;omega
 have n28:¬ o=28:=by omega
 have g28:(o == 28)=false:=by simp;omega
 have n29:¬ o=29:=by omega
 have g29:(o == 29)=false:=by simp;omega
 have n30:¬ o=30:=by omega
 have g30:(o == 30)=false:=by simp;omega
 have n31:¬ o=31:=by omega
 have g31:(o == 31)=false:=by simp;omega
 have n32:¬ o=32:=by omega
 have g32:(o == 32)=false:=by simp;omega
 obtain ⟨m,hm⟩:∃ m,m=effB (Q.fns rs) r.fn cells ⟨o,arg,imm⟩ s:=⟨_,rfl⟩
 obtain ⟨q,hq⟩:∃ q,q=s.length-2:=⟨_,rfl⟩
 have hmv:m={ ndB 3 (wordB r.fn q 0) ((topB r.fn s 2).getD 0 0) with bop:=o,b:=(topB r.fn s 2).getD 1 0 }:=by
  rw [hm]
  (try rw [hq])
  simp [effB,takesB,topB_len,n1,n2,n3,n4,n5,n6,n21,n22,n23,n24,n25,n26,n27,n28,n29,n30,n31,n32]
 have HV:=Lib.hid hmv
 rw [← hm]
 have HT:Hid (∀ wr,Below W.heap.size W wr→Calls Try.prog 82 #[.pointer (some ⟨bb,0,none⟩),.agg #[.int .u8 o,.int .i64 arg,.int .u64 imm]] wr fun e w'=>e=.returned (.int .i64 2)∧Below wr.heap.size wr w'):=Lib.hid fun wr hb=>takes_plain bb o arg imm 2 wr (.inr (.inr ⟨rfl,by omega⟩))
 have HTOP:Hid (∀ wr,Below W.heap.size W wr→Calls Try.prog 81 #[.pointer (some ⟨bb,0,none⟩),.slice SA s.length sc,.int .i64 2] wr fun e w'=>∃ A c,e=.returned (.slice A 2 c)∧w'.ownsRow wr.heap.size 3 1 (.slice A 2 c) 2 (i64c (topB r.fn s 2))∧Below wr.heap.size wr w'):=Lib.hid fun wr hb=>by
  have h':=h.below (hb.mono hB)
  have hz:=hb.size
  exact top_any bb B r.fn r.lo r.lc s SA sc 2 wr h'.c2 (by have:=h.lt;omega) (hs.below (hb.mono hB)) (by omega) h.ll hsl (by omega) hsb
 obtain ⟨L,hL⟩:∃ L:Nat,L=r.fn.locals.length:=⟨_,rfl⟩
 have HWD:Hid (∀ wr,Below W.heap.size W wr→∀ (d:Nat) (k:Int),d≤1000000→0≤k∧k≤255→Calls Try.prog 83 #[.pointer (some ⟨bb,0,none⟩),.int .i64 d,.int .u8 k] wr fun e w'=>e=.returned (.int .i64 ((L:Int)+2*d+k))∧w'=wr):=Lib.hid fun wr hb d k hd hk=>by
  have h':=h.below (hb.mono hB)
  rw [hL]
  exact word_any bb r.lo r.fn.locals.length r.lc d k wr h'.c2 (by have:=h.ll;omega) hd hk
 have gq:(s.length:Int)-2=(q:Int):=by omega
 have gqw:IntKind.i64.wrap (q:Int)=(q:Int):=bi64 (by omega)
 have HQ:Hid (q≤100000):=Lib.hid (by omega)
 obtain ⟨left,hleft⟩:∃ left:Int,left=(L:Int)+2*(q:Int):=⟨_,rfl⟩
 have HLF:=Lib.hid hleft
 obtain ⟨x0,hx0⟩:∃ x,x=(topB r.fn s 2).getD 0 0:=⟨_,rfl⟩
 have HX0:=Lib.hid hx0
 have HXC0:Hid ((topB r.fn s 2)[0]?=some x0):=Lib.hid (by rw [hx0];exact list_at (by rw [topB_len];omega))
 clear hx0
 obtain ⟨x1,hx1⟩:∃ x,x=(topB r.fn s 2).getD 1 0:=⟨_,rfl⟩
 have HX1:=Lib.hid hx1
 have HXC1:Hid ((topB r.fn s 2)[1]?=some x1):=Lib.hid (by rw [hx1];exact list_at (by rw [topB_len];omega))
 clear hx1
 clear ho n1 n2 n3 n4 n5 n6 n21 n22 n23 n24 n25 n26 n27 n28 n29 n30 n31 n32
 have HBR:=Lib.hid h
 have HS:=Lib.hid hs
 have HLL:=Lib.hid hL
 have HQQ:=Lib.hid hq
 have hB0:Below W.heap.size W ((W.alloc (.cells #[.int .u8 o,.int .i64 arg,.int .u64 imm] 52)).alloc (.cells zero12 70)):=((Below.refl _ _).alloc (Nat.le_refl _) _).alloc (by simp) _
 have hI0:Blk ((W.alloc (.cells #[.int .u8 o,.int .i64 arg,.int .u64 imm] 52)).alloc (.cells zero12 70)) W.heap.size 52 #[.int .u8 o,.int .i64 arg,.int .u64 imm]:=(Blk.new W _ _).alloc _
 have hZ0:Blk ((W.alloc (.cells #[.int .u8 o,.int .i64 arg,.int .u64 imm] 52)).alloc (.cells zero12 70)) (W.heap.size+1) 70 zero12:=by
  have h1:=Blk.new (W.alloc (.cells #[.int .u8 o,.int .i64 arg,.int .u64 imm] 52)) 70 zero12
  rw [show (W.alloc (.cells #[.int .u8 o,.int .i64 arg,.int .u64 imm] 52)).heap.size=W.heap.size+1 by simp] at h1
  exact h1
 have HB0:=Lib.hid hB0
 have HI0:=Lib.hid hI0
 have HZ0:=Lib.hid hZ0
 simp only [zero12] at HB0 HI0 HZ0
 clear h hB hs hsb hm hmv hL hq hleft hB0 hI0 hZ0
 go_enter Try.func61,Try.ntmps61
 go_wp2_with (first
  | (go_at_call 82;refine (HT.out _ HB0.out).mono ?_;rintro e w1 ⟨rfl,hb1⟩;have HB1:=Lib.hid (HB0.out.trans (hb1.mono HB0.out.size));have HI1:=Lib.hid (HI0.out.below hb1 HI0.out.lt);have HZ1:=Lib.hid (HZ0.out.below hb1 HZ0.out.lt);clear hb1)
  | (go_at_call 81;refine (HTOP.out _ HB1.out).mono ?_;rintro e w2 ⟨A,c,rfl,hown,hb2⟩;have HOW:=Lib.hid (own_more hown HB1.out.size);have HB2:=Lib.hid (HB1.out.trans (hb2.mono HB1.out.size));have HI2:=Lib.hid (HI1.out.below hb2 HI1.out.lt);have HZ2:=Lib.hid (HZ1.out.below hb2 HZ1.out.lt);clear hown hb2)
  | (go_at_call 83;refine (HWD.out _ HB2.out q 0 (by have:=HQ.out;omega) (by omega)).mono ?_;rintro e w3 ⟨rfl,rfl⟩;refine Hid.out ?_))
 obtain ⟨b,off,rfl,hbl,hct⟩:=(Reads.of_own HOW.out).lit (by omega) (by omega)
 have t0:w3.cell? ⟨b,off,none⟩=some (.int .i64 x0):=by
  have:=hct 0 _ (i64c_at HXC0.out)
  simpa using this
 have t1:w3.cell? ⟨b,off+1,none⟩=some (.int .i64 x1):=hct 1 _ (i64c_at HXC1.out)
 have i0:w3.cell? ⟨W.heap.size,0,none⟩=some (.int .u8 o):=HI2.out.cell 0
 have i1:w3.cell? ⟨W.heap.size,1,none⟩=some (.int .i64 arg):=HI2.out.cell 1
 have i2:w3.cell? ⟨W.heap.size,2,none⟩=some (.int .u64 imm):=HI2.out.cell 2
 have z0:w3.cell? ⟨W.heap.size+1,0,none⟩=some (.int .u8 0):=HZ2.out.cell 0
 have z1:w3.cell? ⟨W.heap.size+1,1,none⟩=some (.int .u8 0):=HZ2.out.cell 1
 have z2:w3.cell? ⟨W.heap.size+1,2,none⟩=some (.int .i64 0):=HZ2.out.cell 2
 have z3:w3.cell? ⟨W.heap.size+1,3,none⟩=some (.int .i64 0):=HZ2.out.cell 3
 have z4:w3.cell? ⟨W.heap.size+1,4,none⟩=some (.int .i64 0):=HZ2.out.cell 4
 have z5:w3.cell? ⟨W.heap.size+1,5,none⟩=some (.int .i64 0):=HZ2.out.cell 5
 have z6:w3.cell? ⟨W.heap.size+1,6,none⟩=some (.int .i64 0):=HZ2.out.cell 6
 have z7:w3.cell? ⟨W.heap.size+1,7,none⟩=some (.int .i64 0):=HZ2.out.cell 7
 have z8:w3.cell? ⟨W.heap.size+1,8,none⟩=some (.int .u64 0):=HZ2.out.cell 8
 have z9:w3.cell? ⟨W.heap.size+1,9,none⟩=some (.slice none 0 0):=HZ2.out.cell 9
 have z10:w3.cell? ⟨W.heap.size+1,10,none⟩=some (.int .i64 0):=HZ2.out.cell 10
 have z11:w3.cell? ⟨W.heap.size+1,11,none⟩=some (.int .i64 0):=HZ2.out.cell 11
 have zf:∀ i,w3.frozen? ⟨W.heap.size+1,i,none⟩=false:=fun i=>HZ2.out.frozen i
 have gl:(L:Int)+2*(q:Int)=left:=HLF.out.symm
 refine Lib.hid ?_
 go_wp2
 go_still_tail 10,(by kernel_rfl)
 change wpList _ _ _ _ _ w3.drew
 obtain ⟨w4,hw4⟩:∃ w4,w3.drew=w4:=⟨_,rfl⟩
 have HZ4:Hid (Blk w4 (W.heap.size+1) 70 zero12):=Lib.hid (by rw [← hw4];exact HZ2.out)
 have HB4:Hid (Below W.heap.size W w4):=Lib.hid (by rw [← hw4];exact HB2.out.drew)
 rw [hw4]
 clear hw4 z0 z1 z2 z3 z4 z5 z6 z7 z8 z9 z10 z11 zf
 have z0:w4.cell? ⟨W.heap.size+1,0,none⟩=some (.int .u8 0):=HZ4.out.cell 0
 have z1:w4.cell? ⟨W.heap.size+1,1,none⟩=some (.int .u8 0):=HZ4.out.cell 1
 have z2:w4.cell? ⟨W.heap.size+1,2,none⟩=some (.int .i64 0):=HZ4.out.cell 2
 have z3:w4.cell? ⟨W.heap.size+1,3,none⟩=some (.int .i64 0):=HZ4.out.cell 3
 have z4:w4.cell? ⟨W.heap.size+1,4,none⟩=some (.int .i64 0):=HZ4.out.cell 4
 have z5:w4.cell? ⟨W.heap.size+1,5,none⟩=some (.int .i64 0):=HZ4.out.cell 5
 have z6:w4.cell? ⟨W.heap.size+1,6,none⟩=some (.int .i64 0):=HZ4.out.cell 6
 have z7:w4.cell? ⟨W.heap.size+1,7,none⟩=some (.int .i64 0):=HZ4.out.cell 7
 have z8:w4.cell? ⟨W.heap.size+1,8,none⟩=some (.int .u64 0):=HZ4.out.cell 8
 have z9:w4.cell? ⟨W.heap.size+1,9,none⟩=some (.slice none 0 0):=HZ4.out.cell 9
 have z10:w4.cell? ⟨W.heap.size+1,10,none⟩=some (.int .i64 0):=HZ4.out.cell 10
 have z11:w4.cell? ⟨W.heap.size+1,11,none⟩=some (.int .i64 0):=HZ4.out.cell 11
 have zf:∀ i,w4.frozen? ⟨W.heap.size+1,i,none⟩=false:=fun i=>HZ4.out.frozen i
 go_wp2
 refine (fun (hg:∀ wf,wf=ndSet w4 (W.heap.size+1) ⟨3,o,left,0,x0,x1,0,0,0,[],0,0⟩ none 0 0→bodyPost _ _ _ _ _ wf)=>hg _ rfl) ?_
 intro wf hwf
 have hfb:Blk wf (W.heap.size+1) 70 (ndC ⟨3,o,left,0,x0,x1,0,0,0,[],0,0⟩ none 0 0):=by rw [hwf];exact ndSet_blk _ _ _ _ HZ4.out
 have hfw:Below W.heap.size W wf:=by rw [hwf];exact ndSet_below _ _ _ _ HB4.out (by omega)
 have hfo:wf.ownsRow W.heap.size 3 1 (.slice none 0 0) 0 (i64c (⟨3,o,left,0,x0,x1,0,0,0,[],0,0⟩:Nd).args):=by rw [hwf];exact own_none _ _ _ _
 have e0:=hfb.cell 0
 have e1:=hfb.cell 1
 have e2:=hfb.cell 2
 have e3:=hfb.cell 3
 have e4:=hfb.cell 4
 have e5:=hfb.cell 5
 have e6:=hfb.cell 6
 have e7:=hfb.cell 7
 have e8:=hfb.cell 8
 have e9:=hfb.cell 9
 have e10:=hfb.cell 10
 have e11:=hfb.cell 11
 simp only [ndC,List.getElem?_toArray,List.getElem?_cons_succ,List.getElem?_cons_zero] at e0 e1 e2 e3 e4 e5 e6 e7 e8 e9 e10 e11
 clear hwf
 have hnode:=HV.out
 refine bodyPost_ret (v:=ndV ⟨3,o,left,0,x0,x1,0,0,0,[],0,0⟩ none 0) (by simp [results,Try.results61,go_sem,ndV,topB_len,e0,e1,e2,e3,e4,e5,e6,e7,e8,e9,e10,e11]) rfl ?_
 have hnd:m=⟨3,o,left,0,x0,x1,0,0,0,[],0,0⟩:=by
  rw [HV.out]
  simp [ndB,wordB,HLF.out,HLL.out,HX0.out,HX1.out]
 rw [hnd]
 exact ⟨_,_,rfl,hfo,hfw⟩
theorem eff_call {W:World} {B bb n nc cc sc:Nat} {fa ca SA:Option Addr} {rs:List Q.Raw} {r:Q.Raw} {cells:List Int} {s:Q.Stk} (k p:Nat) (g':Q.Raw) (arg imm:Int) (h:BR W B bb fa n nc rs r ca cc cells) (hB:B≤W.heap.size) (hs:Reads W B 1 SA s.length (u8c s)) (hsl:s.length≤100000) (hsb:∀ x ∈ s,0≤x∧x≤255) (hal:arg=(k:Int)) (hkn:k<n) (hgk:rs[k]?=some g') (hp:g'.fn.params=(p:Int)) (hn:p≤s.length) :
  Calls Try.prog 61 #[.pointer (some ⟨bb,0,none⟩),.agg #[.int .u8 23,.int .i64 arg,.int .u64 imm],.slice SA s.length sc] W (EffPost W (effB (Q.fns rs) r.fn cells ⟨23,arg,imm⟩ s)):=by
 obtain ⟨fb,fo,g0,rfl,hfb,HG0,_,_,p0,_,p2,_,_⟩:=h.fs.fn (k:=k) hkn
 obtain rfl:g'=g0:=by have:=HG0.out;rw [hgk] at this;simpa using this
 have hfk:(Q.fns rs)[k]?=some g'.fn:=by unfold Q.fns;rw [List.getElem?_map,hgk];rfl
 obtain ⟨m,hm⟩:∃ m,m=effB (Q.fns rs) r.fn cells ⟨23,arg,imm⟩ s:=⟨_,rfl⟩
 obtain ⟨q,hq⟩:∃ q,q=s.length-p:=⟨_,rfl⟩
 have hmv:m=callB (Q.fns rs) arg (topB r.fn s p) (wordB r.fn q 0):=by
  rw [hm]
  (try rw [hq])
  simp [effB,takesB,hal,hfk,hp,topB_len]
 have HV:=Lib.hid hmv
 rw [← hm]
 have HT:Hid (∀ wr,Below W.heap.size W wr→Calls Try.prog 82 #[.pointer (some ⟨bb,0,none⟩),.agg #[.int .u8 23,.int .i64 arg,.int .u64 imm]] wr fun e w'=>e=.returned (.int .i64 (p:Int))∧Below wr.heap.size wr w'):=Lib.hid fun wr hb=>by
  have h':=h.below (hb.mono hB)
  have hz:=hb.size
  rw [← hp]
  exact takes_call bb fb fo n nc k 23 arg imm g'.fn.params wr (.inl rfl) h'.c0 (by have:=h.lt;omega) hkn hal ((hb.cell (p:=⟨fb,fo+k*5,none⟩) (by show fb<_;omega)).trans p0) (by omega) h.nl
 have HTOP:Hid (∀ wr,Below W.heap.size W wr→Calls Try.prog 81 #[.pointer (some ⟨bb,0,none⟩),.slice SA s.length sc,.int .i64 (p:Int)] wr fun e w'=>∃ A c,e=.returned (.slice A p c)∧w'.ownsRow wr.heap.size 3 1 (.slice A p c) p (i64c (topB r.fn s p))∧Below wr.heap.size wr w'):=Lib.hid fun wr hb=>by
  have h':=h.below (hb.mono hB)
  have hz:=hb.size
  exact top_any bb B r.fn r.lo r.lc s SA sc p wr h'.c2 (by have:=h.lt;omega) (hs.below (hb.mono hB)) (by omega) h.ll hsl (by omega) hsb
 obtain ⟨L,hL⟩:∃ L:Nat,L=r.fn.locals.length:=⟨_,rfl⟩
 have HWD:Hid (∀ wr,Below W.heap.size W wr→∀ (d:Nat) (k:Int),d≤1000000→0≤k∧k≤255→Calls Try.prog 83 #[.pointer (some ⟨bb,0,none⟩),.int .i64 d,.int .u8 k] wr fun e w'=>e=.returned (.int .i64 ((L:Int)+2*d+k))∧w'=wr):=Lib.hid fun wr hb d k hd hk=>by
  have h':=h.below (hb.mono hB)
  rw [hL]
  exact word_any bb r.lo r.fn.locals.length r.lc d k wr h'.c2 (by have:=h.ll;omega) hd hk
 have gq:(s.length:Int)-(p:Int)=(q:Int):=by omega
 have gqw:IntKind.i64.wrap (q:Int)=(q:Int):=bi64 (by omega)
 have HQ:Hid (q≤100000):=Lib.hid (by omega)
 obtain ⟨left,hleft⟩:∃ left:Int,left=(L:Int)+2*(q:Int):=⟨_,rfl⟩
 have HLF:=Lib.hid hleft
 obtain ⟨g,hg⟩:∃ g:Nd,g={ ndB 11 (if g'.fn.result=true then left else -1) 0 with f:=(k:Int),args:=topB r.fn s p }:=⟨_,rfl⟩
 have HGV:Hid (g=callB (Q.fns rs) arg (topB r.fn s p) (wordB r.fn q 0)):=Lib.hid (by rw [hg,hal];unfold callB;rw [Int.toNat_natCast,hfk,hleft,hL];simp [wordB])
 have HGA:Hid (g.args.length=p):=Lib.hid (by rw [hg];exact topB_len _ _ _)
 have HGX:Hid (g.args=topB r.fn s p):=Lib.hid (by rw [hg])
 have HCL:Hid (∀ wr (A:Option Addr) (c:Nat),Below W.heap.size W wr→Calls Try.prog 86 #[.pointer (some ⟨bb,0,none⟩),.int .i64 arg,.slice A p c,.int .i64 left] wr fun e w'=>e=.returned (ndV g A c)∧Below wr.heap.size wr w'):=Lib.hid fun wr A c hb=>by
  have h':=h.below (hb.mono hB)
  have hz:=hb.size
  rw [hg,hal]
  exact call_any bb fb fo n nc k left g'.fn.result A p c (topB r.fn s p) wr h'.c0 (by have:=h.lt;omega) hkn ((hb.cell (p:=⟨fb,fo+k*5+2,none⟩) (by show fb<_;omega)).trans p2) (by omega) h.nl (topB_len _ _ _)
 have HAL:=Lib.hid hal
 clear hal hfk p0 p2 hp hgk hg
 have HBR:=Lib.hid h
 have HS:=Lib.hid hs
 have HLL:=Lib.hid hL
 have HQQ:=Lib.hid hq
 have hB0:Below W.heap.size W ((W.alloc (.cells #[.int .u8 23,.int .i64 arg,.int .u64 imm] 52)).alloc (.cells zero12 70)):=((Below.refl _ _).alloc (Nat.le_refl _) _).alloc (by simp) _
 have hI0:Blk ((W.alloc (.cells #[.int .u8 23,.int .i64 arg,.int .u64 imm] 52)).alloc (.cells zero12 70)) W.heap.size 52 #[.int .u8 23,.int .i64 arg,.int .u64 imm]:=(Blk.new W _ _).alloc _
 have hZ0:Blk ((W.alloc (.cells #[.int .u8 23,.int .i64 arg,.int .u64 imm] 52)).alloc (.cells zero12 70)) (W.heap.size+1) 70 zero12:=by
  have h1:=Blk.new (W.alloc (.cells #[.int .u8 23,.int .i64 arg,.int .u64 imm] 52)) 70 zero12
  rw [show (W.alloc (.cells #[.int .u8 23,.int .i64 arg,.int .u64 imm] 52)).heap.size=W.heap.size+1 by simp] at h1
  exact h1
 have HB0:=Lib.hid hB0
 have HI0:=Lib.hid hI0
 have HZ0:=Lib.hid hZ0
 simp only [zero12] at HB0 HI0 HZ0
 clear h hB hs hsb hm hmv hL hq hleft hB0 hI0 hZ0
 go_enter Try.func61,Try.ntmps61
 go_wp2_with (first
  | (go_at_call 82;refine (HT.out _ HB0.out).mono ?_;rintro e w1 ⟨rfl,hb1⟩;have HB1:=Lib.hid (HB0.out.trans (hb1.mono HB0.out.size));have HI1:=Lib.hid (HI0.out.below hb1 HI0.out.lt);have HZ1:=Lib.hid (HZ0.out.below hb1 HZ0.out.lt);clear hb1)
  | (go_at_call 81;refine (HTOP.out _ HB1.out).mono ?_;rintro e w2 ⟨A,c,rfl,hown,hb2⟩;have HOW:=Lib.hid (own_more hown HB1.out.size);have HB2:=Lib.hid (HB1.out.trans (hb2.mono HB1.out.size));have HI2:=Lib.hid (HI1.out.below hb2 HI1.out.lt);have HZ2:=Lib.hid (HZ1.out.below hb2 HZ1.out.lt);clear hown hb2)
  | (go_at_call 83;refine (HWD.out _ HB2.out q 0 (by have:=HQ.out;omega) (by omega)).mono ?_;rintro e w3 ⟨rfl,rfl⟩;refine Hid.out ?_))
 have i0:w3.cell? ⟨W.heap.size,0,none⟩=some (.int .u8 23):=HI2.out.cell 0
 have i1:w3.cell? ⟨W.heap.size,1,none⟩=some (.int .i64 arg):=HI2.out.cell 1
 have i2:w3.cell? ⟨W.heap.size,2,none⟩=some (.int .u64 imm):=HI2.out.cell 2
 have z0:w3.cell? ⟨W.heap.size+1,0,none⟩=some (.int .u8 0):=HZ2.out.cell 0
 have z1:w3.cell? ⟨W.heap.size+1,1,none⟩=some (.int .u8 0):=HZ2.out.cell 1
 have z2:w3.cell? ⟨W.heap.size+1,2,none⟩=some (.int .i64 0):=HZ2.out.cell 2
 have z3:w3.cell? ⟨W.heap.size+1,3,none⟩=some (.int .i64 0):=HZ2.out.cell 3
 have z4:w3.cell? ⟨W.heap.size+1,4,none⟩=some (.int .i64 0):=HZ2.out.cell 4
 have z5:w3.cell? ⟨W.heap.size+1,5,none⟩=some (.int .i64 0):=HZ2.out.cell 5
 have z6:w3.cell? ⟨W.heap.size+1,6,none⟩=some (.int .i64 0):=HZ2.out.cell 6
 have z7:w3.cell? ⟨W.heap.size+1,7,none⟩=some (.int .i64 0):=HZ2.out.cell 7
 have z8:w3.cell? ⟨W.heap.size+1,8,none⟩=some (.int .u64 0):=HZ2.out.cell 8
 have z9:w3.cell? ⟨W.heap.size+1,9,none⟩=some (.slice none 0 0):=HZ2.out.cell 9
 have z10:w3.cell? ⟨W.heap.size+1,10,none⟩=some (.int .i64 0):=HZ2.out.cell 10
 have z11:w3.cell? ⟨W.heap.size+1,11,none⟩=some (.int .i64 0):=HZ2.out.cell 11
 have zf:∀ i,w3.frozen? ⟨W.heap.size+1,i,none⟩=false:=fun i=>HZ2.out.frozen i
 have gl:(L:Int)+2*(q:Int)=left:=HLF.out.symm
 refine Lib.hid ?_
 have HRT:=Lib.hid (HCL.out w3 A c HB2.out)
 rw [ndV_args HGA.out] at HRT
 simp only [ndC] at HRT
 clear z0 z1 z2 z3 z4 z5 z6 z7 z8 z9 z10 z11 zf
 go_wp2_with (go_at_call 86;refine HRT.out.mono ?_;rintro e w4 ⟨rfl,hb4⟩;have HO4:=Lib.hid (own_below (own_more2 HOW.out) hb4);have HZ4:=Lib.hid (HZ2.out.below hb4 HZ2.out.lt);have HB4:=Lib.hid (HB2.out.trans (hb4.mono HB2.out.size));clear hb4;have z0:w4.cell? ⟨W.heap.size+1,0,none⟩=some (.int .u8 0):=HZ4.out.cell 0;have z1:w4.cell? ⟨W.heap.size+1,1,none⟩=some (.int .u8 0):=HZ4.out.cell 1;have z2:w4.cell? ⟨W.heap.size+1,2,none⟩=some (.int .i64 0):=HZ4.out.cell 2;have z3:w4.cell? ⟨W.heap.size+1,3,none⟩=some (.int .i64 0):=HZ4.out.cell 3;have z4:w4.cell? ⟨W.heap.size+1,4,none⟩=some (.int .i64 0):=HZ4.out.cell 4;have z5:w4.cell? ⟨W.heap.size+1,5,none⟩=some (.int .i64 0):=HZ4.out.cell 5;have z6:w4.cell? ⟨W.heap.size+1,6,none⟩=some (.int .i64 0):=HZ4.out.cell 6;have z7:w4.cell? ⟨W.heap.size+1,7,none⟩=some (.int .i64 0):=HZ4.out.cell 7;have z8:w4.cell? ⟨W.heap.size+1,8,none⟩=some (.int .u64 0):=HZ4.out.cell 8;have z9:w4.cell? ⟨W.heap.size+1,9,none⟩=some (.slice none 0 0):=HZ4.out.cell 9;have z10:w4.cell? ⟨W.heap.size+1,10,none⟩=some (.int .i64 0):=HZ4.out.cell 10;have z11:w4.cell? ⟨W.heap.size+1,11,none⟩=some (.int .i64 0):=HZ4.out.cell 11;have zf:∀ i,w4.frozen? ⟨W.heap.size+1,i,none⟩=false:=fun i=>HZ4.out.frozen i)
 refine (fun (hg:∀ wf,wf=ndSet w4 (W.heap.size+1) g A p c→bodyPost _ _ _ _ _ wf)=>hg _ rfl) ?_
 intro wf hwf
 have hfb:Blk wf (W.heap.size+1) 70 (ndC g A p c):=by rw [hwf];exact ndSet_blk _ _ _ _ HZ4.out
 have hfw:Below W.heap.size W wf:=by rw [hwf];exact ndSet_below _ _ _ _ HB4.out (by omega)
 have hfo:wf.ownsRow W.heap.size 3 1 (.slice A p c) p (i64c (topB r.fn s p)):=by rw [hwf];exact ndSet_own _ _ _ _ HO4.out HZ4.out (by decide)
 have e0:=hfb.cell 0
 have e1:=hfb.cell 1
 have e2:=hfb.cell 2
 have e3:=hfb.cell 3
 have e4:=hfb.cell 4
 have e5:=hfb.cell 5
 have e6:=hfb.cell 6
 have e7:=hfb.cell 7
 have e8:=hfb.cell 8
 have e9:=hfb.cell 9
 have e10:=hfb.cell 10
 have e11:=hfb.cell 11
 simp only [ndC,List.getElem?_toArray,List.getElem?_cons_succ,List.getElem?_cons_zero] at e0 e1 e2 e3 e4 e5 e6 e7 e8 e9 e10 e11
 clear hwf
 refine bodyPost_ret (v:=ndV g A c) (by rw [ndV_args HGA.out];simp [ndC,results,Try.results61,go_sem,e0,e1,e2,e3,e4,e5,e6,e7,e8,e9,e10,e11]) rfl ?_
 have hmg:m=g:=HV.out.trans HGV.out.symm
 rw [hmg]
 exact ⟨A,c,rfl,by rw [HGA.out,HGX.out];exact hfo,hfw⟩
end Go.Proofs.Ytgekmjkfnhogkaa
