/-
  Texts of one seat, one behind the other: BNj.
-/
import Derived.BigQuiet
import Derived.StillTailTactics
import Derived.Deep.RegionLaw
import Derived.Deep.Cut
import Derived.Deep.DeepCutAuto
import Derived.Test.YtgekmjkfnhogkaaMA10

set_option linter.unusedVariables false
set_option linter.unusedSimpArgs false
set_option maxRecDepth 100000
set_option maxHeartbeats 51200000
namespace Go.Proofs.Ytgekmjkfnhogkaa
open Go.ChangeShapes Go.WideShapes Go.ChangeAt Go.RowKit
theorem node_jump {nb no a:Nat} {t':Int} {W:World} {bb cb co m mc sb so sm sc k1:Nat} {SA na:Option Addr} {ssl ssc nn nc:Nat} {g:Nd} {k:Nat} (op arg imm:Int) (hbb:bb<W.heap.size) (h5:W.cell? ⟨bb,5,none⟩=some (.slice (some ⟨cb,co,none⟩) m mc)) (hcb:cb<W.heap.size) (hk:k<m) (hm:m≤100000)
  (x0:W.cell? ⟨cb,co+k*3,none⟩=some (.int .u8 op)) (x1:W.cell? ⟨cb,co+k*3+1,none⟩=some (.int .i64 arg)) (x2:W.cell? ⟨cb,co+k*3+2,none⟩=some (.int .u64 imm))
  (h6:W.cell? ⟨bb,6,none⟩=some (.slice (some ⟨sb,so,none⟩) sm sc)) (hsb:sb<W.heap.size) (hks:k<sm) (x6:W.cell? ⟨sb,so+k,none⟩=some (.slice SA ssl ssc))
  (heff:∀ wr,Below W.heap.size W wr→Calls Try.prog 61 #[.pointer (some ⟨bb,0,none⟩),.agg #[.int .u8 op,.int .i64 arg,.int .u64 imm],.slice SA ssl ssc] wr (EffPost wr g)) (h7:W.cell? ⟨bb,7,none⟩=some (.slice (some ⟨nb,no,none⟩) nn nc)) (hnb:nb<W.heap.size) (ha:arg=(a:Int)) (han:a<nn) (hnn:nn≤100000) (x8:W.cell? ⟨nb,no+a,none⟩=some (.int .i64 t')) (ho:op=21) :
  Calls Try.prog 35 #[.pointer (some ⟨bb,0,none⟩),.int .i64 k] W (EffPost W { g with next:=t' }):=by
 obtain ⟨p,hp⟩:∃ p,p=g.args.length:=⟨_,rfl⟩
 have HGA:Hid (g.args.length=p):=Lib.hid hp.symm
 have gk:IntKind.i64.wrap (k:Int)=(k:Int):=bi64 (by omega)
 have HE:=Lib.hid heff
 have HX6:=Lib.hid x6
 have HH6:=Lib.hid h6
 have y5:∀ o,(W.alloc o).cell? ⟨bb,5,none⟩=some (.slice (some ⟨cb,co,none⟩) m mc):=fun o=>(World.cell?_alloc_lt W o ⟨bb,5,none⟩ hbb).trans h5
 have y0:∀ o,(W.alloc o).cell? ⟨cb,co+k*3,none⟩=some (.int .u8 op):=fun o=>(World.cell?_alloc_lt W o ⟨cb,co+k*3,none⟩ hcb).trans x0
 have y1:∀ o,(W.alloc o).cell? ⟨cb,co+k*3+1,none⟩=some (.int .i64 arg):=fun o=>(World.cell?_alloc_lt W o ⟨cb,co+k*3+1,none⟩ hcb).trans x1
 have y2:∀ o,(W.alloc o).cell? ⟨cb,co+k*3+2,none⟩=some (.int .u64 imm):=fun o=>(World.cell?_alloc_lt W o ⟨cb,co+k*3+2,none⟩ hcb).trans x2
 have y6:∀ o o2,((W.alloc o).alloc o2).cell? ⟨bb,6,none⟩=some (.slice (some ⟨sb,so,none⟩) sm sc):=fun o o2=>(World.cell?_alloc_lt _ o2 ⟨bb,6,none⟩ (by simp;omega)).trans ((World.cell?_alloc_lt W o ⟨bb,6,none⟩ hbb).trans h6)
 have y7:∀ o o2,((W.alloc o).alloc o2).cell? ⟨sb,so+k,none⟩=some (.slice SA ssl ssc):=fun o o2=>(World.cell?_alloc_lt _ o2 ⟨sb,so+k,none⟩ (by simp;omega)).trans ((World.cell?_alloc_lt W o ⟨sb,so+k,none⟩ hsb).trans x6)
 have y8:∀ o o2 o3,(((W.alloc o).alloc o2).alloc o3).cell? ⟨bb,6,none⟩=some (.slice (some ⟨sb,so,none⟩) sm sc):=fun o o2 o3=>(World.cell?_alloc_lt _ o3 ⟨bb,6,none⟩ (by simp;omega)).trans (y6 o o2)
 have y9:∀ o o2 o3,(((W.alloc o).alloc o2).alloc o3).cell? ⟨sb,so+k,none⟩=some (.slice SA ssl ssc):=fun o o2 o3=>(World.cell?_alloc_lt _ o3 ⟨sb,so+k,none⟩ (by simp;omega)).trans (y7 o o2)
 have HB0:Hid (Below W.heap.size W ((W.alloc (.cells #[.int .u8 0,.int .u8 0,.int .i64 0,.int .i64 0,.int .i64 0,.int .i64 0,.int .i64 0,.int .i64 0,.int .u64 0,.slice none 0 0,.int .i64 0,.int .i64 0] 70)).alloc (.cells #[.int .u8 op,.int .i64 arg,.int .u64 imm] 52))):=Lib.hid (((Below.refl _ _).alloc (Nat.le_refl _) _).alloc (by simp) _)
 have HZ0:Hid (Blk ((W.alloc (.cells #[.int .u8 0,.int .u8 0,.int .i64 0,.int .i64 0,.int .i64 0,.int .i64 0,.int .i64 0,.int .i64 0,.int .u64 0,.slice none 0 0,.int .i64 0,.int .i64 0] 70)).alloc (.cells #[.int .u8 op,.int .i64 arg,.int .u64 imm] 52)) W.heap.size 70 zero12):=Lib.hid ((Blk.new W _ _).alloc _)
 have HI0:Hid (Blk ((W.alloc (.cells #[.int .u8 0,.int .u8 0,.int .i64 0,.int .i64 0,.int .i64 0,.int .i64 0,.int .i64 0,.int .i64 0,.int .u64 0,.slice none 0 0,.int .i64 0,.int .i64 0] 70)).alloc (.cells #[.int .u8 op,.int .i64 arg,.int .u64 imm] 52)) (W.heap.size+1) 52 #[.int .u8 op,.int .i64 arg,.int .u64 imm]):=Lib.hid (by
  have h1:=Blk.new (W.alloc (.cells #[.int .u8 0,.int .u8 0,.int .i64 0,.int .i64 0,.int .i64 0,.int .i64 0,.int .i64 0,.int .i64 0,.int .u64 0,.slice none 0 0,.int .i64 0,.int .i64 0] 70)) 52 #[.int .u8 op,.int .i64 arg,.int .u64 imm]
  rw [show (W.alloc (.cells #[.int .u8 0,.int .u8 0,.int .i64 0,.int .i64 0,.int .i64 0,.int .i64 0,.int .i64 0,.int .i64 0,.int .u64 0,.slice none 0 0,.int .i64 0,.int .i64 0] 70)).heap.size=W.heap.size+1 by simp] at h1
  exact h1)
 have HH7:=Lib.hid h7
 have HNB:=Lib.hid hnb
 have HBB:=Lib.hid hbb
 clear h7 hnb
 have HX8:=Lib.hid x8
 have HAR:=Lib.hid ha
 have gar:IntKind.i64.wrap (a:Int)=(a:Int):=bi64 (by omega)
 clear x8 ha
 have HOP:=Lib.hid ho
 clear ho
 clear heff hp x6 h6
 go_enter Try.func35,Try.ntmps35
 go_wp2
 go_cut [6] (fun s6 wx=>∃ (pn:Nat) (A:Option Addr) (c:Nat),s6=.pointer (some ⟨pn,0,none⟩)∧Hid (NodeAt W g p pn A c op arg imm wx))
 case first =>
  go_region_law (go_simp;go_at_call 61;refine (HE.out _ (by first | exact HB0.out | exact HB0.out.drew | exact HB0.out.alloc HB0.out.size _ | exact (HB0.out.alloc HB0.out.size _).drew | exact HB0.out.drew.alloc HB0.out.drew.size _)).mono ?_;rintro e w4 ⟨A,c,rfl,hown,hb4⟩;rw [ndV_args HGA.out];simp only [ndC];have HB4:=Lib.hid hb4;have HOW:=Lib.hid hown;(first | (have hnb:=nbFirst (pn:=W.heap.size+1+1) hb4 (by first | simp | (show ((W.alloc _).alloc _).heap.size=_;simp));have HNB:=Lib.hid hnb;have n0:w4.cell? ⟨W.heap.size+1+1,0,none⟩=some (.int .u8 0):=hnb.cell 0;have n1:w4.cell? ⟨W.heap.size+1+1,1,none⟩=some (.int .u8 0):=hnb.cell 1;have n2:w4.cell? ⟨W.heap.size+1+1,2,none⟩=some (.int .i64 0):=hnb.cell 2;have n3:w4.cell? ⟨W.heap.size+1+1,3,none⟩=some (.int .i64 0):=hnb.cell 3;have n4:w4.cell? ⟨W.heap.size+1+1,4,none⟩=some (.int .i64 0):=hnb.cell 4;have n5:w4.cell? ⟨W.heap.size+1+1,5,none⟩=some (.int .i64 0):=hnb.cell 5;have n6:w4.cell? ⟨W.heap.size+1+1,6,none⟩=some (.int .i64 0):=hnb.cell 6;have n7:w4.cell? ⟨W.heap.size+1+1,7,none⟩=some (.int .i64 0):=hnb.cell 7;have n8:w4.cell? ⟨W.heap.size+1+1,8,none⟩=some (.int .u64 0):=hnb.cell 8;have n9:w4.cell? ⟨W.heap.size+1+1,9,none⟩=some (.slice none 0 0):=hnb.cell 9;have n10:w4.cell? ⟨W.heap.size+1+1,10,none⟩=some (.int .i64 0):=hnb.cell 10;have n11:w4.cell? ⟨W.heap.size+1+1,11,none⟩=some (.int .i64 0):=hnb.cell 11;have nf:∀ i,w4.frozen? ⟨W.heap.size+1+1,i,none⟩=false:=fun i=>hnb.frozen i;clear hnb) | skip);clear hb4 hown)
  all_goals go_wp2
  all_goals go_meet
  all_goals first
   | exact ⟨_,A,c,rfl,Lib.hid (NodeAt.last HZ0.out HI0.out HB0.out HB4.out HGA.out HOW.out)⟩
   | exact ⟨_,A,c,rfl,Lib.hid (NodeAt.last HZ0.out.drew HI0.out.drew HB0.out.drew HB4.out HGA.out HOW.out)⟩
   | exact ⟨_,A,c,rfl,Lib.hid (NodeAt.first HZ0.out HI0.out HB0.out HB4.out HGA.out HOW.out HNB.out)⟩
   | exact ⟨_,A,c,rfl,Lib.hid (NodeAt.first HZ0.out.drew HI0.out.drew HB0.out.drew HB4.out HGA.out HOW.out HNB.out)⟩
 case rest =>
  obtain ⟨pn,A,c,rfl,HN⟩:=hcut
  clear y0 y1 y2 y5 y6 y7 y8 y9 x0 x1 x2
  have i0:wc.cell? ⟨W.heap.size+1,0,none⟩=some (.int .u8 op):=HN.out.ib.cell 0
  have i1:wc.cell? ⟨W.heap.size+1,1,none⟩=some (.int .i64 arg):=HN.out.ib.cell 1
  have g0:wc.cell? ⟨pn,0,none⟩=some (.int .u8 g.op):=HN.out.nb.cell 0
  have g1:wc.cell? ⟨pn,1,none⟩=some (.int .u8 g.bop):=HN.out.nb.cell 1
  have g2:wc.cell? ⟨pn,2,none⟩=some (.int .i64 g.d):=HN.out.nb.cell 2
  have g3:wc.cell? ⟨pn,3,none⟩=some (.int .i64 g.e):=HN.out.nb.cell 3
  have g4:wc.cell? ⟨pn,4,none⟩=some (.int .i64 g.a):=HN.out.nb.cell 4
  have g5:wc.cell? ⟨pn,5,none⟩=some (.int .i64 g.b):=HN.out.nb.cell 5
  have g6:wc.cell? ⟨pn,6,none⟩=some (.int .i64 g.f):=HN.out.nb.cell 6
  have g7:wc.cell? ⟨pn,7,none⟩=some (.int .i64 g.cell):=HN.out.nb.cell 7
  have g8:wc.cell? ⟨pn,8,none⟩=some (.int .u64 g.imm):=HN.out.nb.cell 8
  have g9:wc.cell? ⟨pn,9,none⟩=some (.slice A p c):=HN.out.nb.cell 9
  have g10:wc.cell? ⟨pn,10,none⟩=some (.int .i64 g.next):=HN.out.nb.cell 10
  have g11:wc.cell? ⟨pn,11,none⟩=some (.int .i64 g.els):=HN.out.nb.cell 11
  have pf:∀ i,wc.frozen? ⟨pn,i,none⟩=false:=fun i=>HN.out.nb.frozen i
  have z0:wc.cell? ⟨W.heap.size,0,none⟩=some (.int .u8 0):=HN.out.zb.cell 0
  have z1:wc.cell? ⟨W.heap.size,1,none⟩=some (.int .u8 0):=HN.out.zb.cell 1
  have z2:wc.cell? ⟨W.heap.size,2,none⟩=some (.int .i64 0):=HN.out.zb.cell 2
  have z3:wc.cell? ⟨W.heap.size,3,none⟩=some (.int .i64 0):=HN.out.zb.cell 3
  have z4:wc.cell? ⟨W.heap.size,4,none⟩=some (.int .i64 0):=HN.out.zb.cell 4
  have z5:wc.cell? ⟨W.heap.size,5,none⟩=some (.int .i64 0):=HN.out.zb.cell 5
  have z6:wc.cell? ⟨W.heap.size,6,none⟩=some (.int .i64 0):=HN.out.zb.cell 6
  have z7:wc.cell? ⟨W.heap.size,7,none⟩=some (.int .i64 0):=HN.out.zb.cell 7
  have z8:wc.cell? ⟨W.heap.size,8,none⟩=some (.int .u64 0):=HN.out.zb.cell 8
  have z9:wc.cell? ⟨W.heap.size,9,none⟩=some (.slice none 0 0):=HN.out.zb.cell 9
  have z10:wc.cell? ⟨W.heap.size,10,none⟩=some (.int .i64 0):=HN.out.zb.cell 10
  have z11:wc.cell? ⟨W.heap.size,11,none⟩=some (.int .i64 0):=HN.out.zb.cell 11
  have zf:∀ i,wc.frozen? ⟨W.heap.size,i,none⟩=false:=fun i=>HN.out.zb.frozen i
  have hpn:¬ pn=W.heap.size:=by have:=HN.out.lt;omega
  have hpn':¬ W.heap.size=pn:=by have:=HN.out.lt;omega
  have j7:wc.cell? ⟨bb,7,none⟩=some (.slice (some ⟨nb,no,none⟩) nn nc):=(HN.out.below.cell (p:=⟨bb,7,none⟩) HBB.out).trans HH7.out
  have ha:=HAR.out
  subst ha
  have j9:wc.cell? ⟨nb,no+a,none⟩=some (.int .i64 t'):=(HN.out.below.cell (p:=⟨nb,no+a,none⟩) HNB.out).trans HX8.out
  have ho:=HOP.out
  subst ho
  go_wp2
  go_still_tail 9,(by kernel_rfl)
  change wpList _ _ _ _ _ wc.drew
  obtain ⟨w5,hw5⟩:∃ w5,wc.drew=w5:=⟨_,rfl⟩
  have HN5:Hid (NodeAt W g p pn A c 21 (a:Int) imm w5):=Lib.hid (by rw [← hw5];exact ⟨HN.out.nb.drew,HN.out.ib.drew,HN.out.zb.drew,HN.out.own,HN.out.below.drew,HN.out.lt⟩)
  rw [hw5]
  clear hw5 g0 g1 g2 g3 g4 g5 g6 g7 g8 g9 g10 g11 pf z0 z1 z2 z3 z4 z5 z6 z7 z8 z9 z10 z11 zf i0 i1
  have g0:w5.cell? ⟨pn,0,none⟩=some (.int .u8 g.op):=HN5.out.nb.cell 0
  have g1:w5.cell? ⟨pn,1,none⟩=some (.int .u8 g.bop):=HN5.out.nb.cell 1
  have g2:w5.cell? ⟨pn,2,none⟩=some (.int .i64 g.d):=HN5.out.nb.cell 2
  have g3:w5.cell? ⟨pn,3,none⟩=some (.int .i64 g.e):=HN5.out.nb.cell 3
  have g4:w5.cell? ⟨pn,4,none⟩=some (.int .i64 g.a):=HN5.out.nb.cell 4
  have g5:w5.cell? ⟨pn,5,none⟩=some (.int .i64 g.b):=HN5.out.nb.cell 5
  have g6:w5.cell? ⟨pn,6,none⟩=some (.int .i64 g.f):=HN5.out.nb.cell 6
  have g7:w5.cell? ⟨pn,7,none⟩=some (.int .i64 g.cell):=HN5.out.nb.cell 7
  have g8:w5.cell? ⟨pn,8,none⟩=some (.int .u64 g.imm):=HN5.out.nb.cell 8
  have g9:w5.cell? ⟨pn,9,none⟩=some (.slice A p c):=HN5.out.nb.cell 9
  have g10:w5.cell? ⟨pn,10,none⟩=some (.int .i64 g.next):=HN5.out.nb.cell 10
  have g11:w5.cell? ⟨pn,11,none⟩=some (.int .i64 g.els):=HN5.out.nb.cell 11
  have pf:∀ i,w5.frozen? ⟨pn,i,none⟩=false:=fun i=>HN5.out.nb.frozen i
  have z0:w5.cell? ⟨W.heap.size,0,none⟩=some (.int .u8 0):=HN5.out.zb.cell 0
  have z1:w5.cell? ⟨W.heap.size,1,none⟩=some (.int .u8 0):=HN5.out.zb.cell 1
  have z2:w5.cell? ⟨W.heap.size,2,none⟩=some (.int .i64 0):=HN5.out.zb.cell 2
  have z3:w5.cell? ⟨W.heap.size,3,none⟩=some (.int .i64 0):=HN5.out.zb.cell 3
  have z4:w5.cell? ⟨W.heap.size,4,none⟩=some (.int .i64 0):=HN5.out.zb.cell 4
  have z5:w5.cell? ⟨W.heap.size,5,none⟩=some (.int .i64 0):=HN5.out.zb.cell 5
  have z6:w5.cell? ⟨W.heap.size,6,none⟩=some (.int .i64 0):=HN5.out.zb.cell 6
  have z7:w5.cell? ⟨W.heap.size,7,none⟩=some (.int .i64 0):=HN5.out.zb.cell 7
  have z8:w5.cell? ⟨W.heap.size,8,none⟩=some (.int .u64 0):=HN5.out.zb.cell 8
  have z9:w5.cell? ⟨W.heap.size,9,none⟩=some (.slice none 0 0):=HN5.out.zb.cell 9
  have z10:w5.cell? ⟨W.heap.size,10,none⟩=some (.int .i64 0):=HN5.out.zb.cell 10
  have z11:w5.cell? ⟨W.heap.size,11,none⟩=some (.int .i64 0):=HN5.out.zb.cell 11
  have zf:∀ i,w5.frozen? ⟨W.heap.size,i,none⟩=false:=fun i=>HN5.out.zb.frozen i
  go_wp2
  obtain ⟨hz5,hb5,ho5⟩:Blk ((w5.setCell ⟨pn,10,none⟩ (.int .i64 t'))) W.heap.size 70 zero12∧Below W.heap.size W ((w5.setCell ⟨pn,10,none⟩ (.int .i64 t')))∧((w5.setCell ⟨pn,10,none⟩ (.int .i64 t'))).ownsRow W.heap.size 3 1 (.slice A p c) p (i64c g.args):=by
   have:=HN.out.lt
   exact ⟨(HN5.out.zb.far (p:=⟨pn,10,none⟩) (fun e=>hpn' e) (.int .i64 t')),(HN5.out.below.setCell (p:=⟨pn,10,none⟩) (by show W.heap.size≤pn;omega) (.int .i64 t')),(own_far HN5.out.own HN5.out.nb (by decide) 10 (.int .i64 t'))⟩
  refine (fun (hg:∀ wf,wf=ndSet (w5.setCell ⟨pn,10,none⟩ (.int .i64 t')) W.heap.size { g with next:=t' } A p c→bodyPost _ _ _ _ _ wf)=>hg _ rfl) ?_
  intro wf hwf
  have hfb:Blk wf W.heap.size 70 (ndC { g with next:=t' } A p c):=by rw [hwf];exact ndSet_blk _ _ _ _ hz5
  have hfw:Below W.heap.size W wf:=by rw [hwf];exact ndSet_below _ _ _ _ hb5 (Nat.le_refl _)
  have hfo:wf.ownsRow W.heap.size 3 1 (.slice A p c) p (i64c g.args):=by rw [hwf];exact ndSet_own _ _ _ _ ho5 hz5 (by decide)
  have e0:=hfb.cell 0
  have e1:=hfb.cell 1
  have e2:=hfb.cell 2
  have e3:=hfb.cell 3
  have e4:=hfb.cell 4
  have e5:=hfb.cell 5
  have e6:=hfb.cell 6
  have e7:=hfb.cell 7
  have e8:=hfb.cell 8
  have e9:=hfb.cell 9
  have e10:=hfb.cell 10
  have e11:=hfb.cell 11
  simp only [ndC,List.getElem?_toArray,List.getElem?_cons_succ,List.getElem?_cons_zero] at e0 e1 e2 e3 e4 e5 e6 e7 e8 e9 e10 e11
  clear hwf
  refine bodyPost_ret (v:=ndV { g with next:=t' } A c) (by rw [ndV_args (show ({ g with next:=t' }:Nd).args.length=p from HGA.out)];simp [ndC,results,Try.results35,go_sem,e0,e1,e2,e3,e4,e5,e6,e7,e8,e9,e10,e11]) rfl ?_
  refine ⟨A,c,rfl,?_,hfw⟩
  rw [show ({ g with next:=t' }:Nd).args.length=p from HGA.out]
  exact hfo
end Go.Proofs.Ytgekmjkfnhogkaa
