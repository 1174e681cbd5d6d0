/-
  Texts of one seat, one behind the other: BEd, BEe, BEf, BEg, BEi, BEo.
-/
import Derived.BigQuiet
import Derived.StillTailTactics
import Derived.Test.YtgekmjkfnhogkaaMA3

set_option linter.unusedVariables false
set_option linter.unusedSimpArgs false
set_option maxRecDepth 100000
set_option maxHeartbeats 51200000
namespace Go.Proofs.Ytgekmjkfnhogkaa
open Go.ChangeShapes Go.WideShapes Go.ChangeAt Go.RowKit
theorem eff_addr {W:World} {B bb n nc cc sc:Nat} {fa ca SA:Option Addr} {rs:List Q.Raw} {r:Q.Raw} {cells:List Int} {s:Q.Stk} (l:Nat) (x:Int) (arg imm:Int) (h:BR W B bb fa n nc rs r ca cc cells) (hB:B≤W.heap.size) (hs:Reads W B 1 SA s.length (u8c s)) (hsl:s.length≤100000) (hsb:∀ x ∈ s,0≤x∧x≤255) (hal:arg=(l:Int)) (hll:l<cells.length) (hx:cells[l]?=some x) :
  Calls Try.prog 61 #[.pointer (some ⟨bb,0,none⟩),.agg #[.int .u8 4,.int .i64 arg,.int .u64 imm],.slice SA s.length sc] W (EffPost W (effB (Q.fns rs) r.fn cells ⟨4,arg,imm⟩ s)):=by
 obtain ⟨m,hm⟩:∃ m,m=effB (Q.fns rs) r.fn cells ⟨4,arg,imm⟩ s:=⟨_,rfl⟩
 obtain ⟨q,hq⟩:∃ q,q=s.length-0:=⟨_,rfl⟩
 have hmv:m={ ndB 6 (wordB r.fn q 1) 0 with cell:=x }:=by
  rw [hm]
  (try rw [hq])
  simp [effB,takesB,topB_len,hal,List.getD_eq_getElem?_getD,hx]
 have HV:=Lib.hid hmv
 rw [← hm]
 have HT:Hid (∀ wr,Below W.heap.size W wr→Calls Try.prog 82 #[.pointer (some ⟨bb,0,none⟩),.agg #[.int .u8 4,.int .i64 arg,.int .u64 imm]] wr fun e w'=>e=.returned (.int .i64 0)∧Below wr.heap.size wr w'):=Lib.hid fun wr hb=>takes_plain bb 4 arg imm 0 wr (.inl ⟨rfl,.inr (.inr (.inl rfl))⟩)
 have HTOP:Hid (∀ wr,Below W.heap.size W wr→Calls Try.prog 81 #[.pointer (some ⟨bb,0,none⟩),.slice SA s.length sc,.int .i64 0] wr fun e w'=>∃ A c,e=.returned (.slice A 0 c)∧w'.ownsRow wr.heap.size 3 1 (.slice A 0 c) 0 (i64c (topB r.fn s 0))∧Below wr.heap.size wr w'):=Lib.hid fun wr hb=>by
  have h':=h.below (hb.mono hB)
  have hz:=hb.size
  exact top_any bb B r.fn r.lo r.lc s SA sc 0 wr h'.c2 (by have:=h.lt;omega) (hs.below (hb.mono hB)) (by omega) h.ll hsl (by omega) hsb
 obtain ⟨L,hL⟩:∃ L:Nat,L=r.fn.locals.length:=⟨_,rfl⟩
 have HWD:Hid (∀ wr,Below W.heap.size W wr→∀ (d:Nat) (k:Int),d≤1000000→0≤k∧k≤255→Calls Try.prog 83 #[.pointer (some ⟨bb,0,none⟩),.int .i64 d,.int .u8 k] wr fun e w'=>e=.returned (.int .i64 ((L:Int)+2*d+k))∧w'=wr):=Lib.hid fun wr hb d k hd hk=>by
  have h':=h.below (hb.mono hB)
  rw [hL]
  exact word_any bb r.lo r.fn.locals.length r.lc d k wr h'.c2 (by have:=h.ll;omega) hd hk
 have gq:(s.length:Int)-0=(q:Int):=by omega
 have gqw:IntKind.i64.wrap (q:Int)=(q:Int):=bi64 (by omega)
 have HQ:Hid (q≤100000):=Lib.hid (by omega)
 obtain ⟨left,hleft⟩:∃ left:Int,left=(L:Int)+2*(q:Int):=⟨_,rfl⟩
 have HLF:=Lib.hid hleft
 obtain ⟨lf1,hl1⟩:∃ y:Int,y=(L:Int)+2*(q:Int)+1:=⟨_,rfl⟩
 have HL1:=Lib.hid hl1
 have gal:IntKind.i64.wrap (l:Int)=(l:Int):=bi64 (by have:=h.cl;have:=h.ll;omega)
 obtain ⟨cb,co,x',rfl,hcb,HX,x1⟩:=h.ce.int hll
 obtain rfl:x=x':=by have:=HX.out;rw [hx] at this;simpa using this
 have HXX:=Lib.hid hx
 have HC8:=Lib.hid h.c8
 have HX1:=Lib.hid x1
 have HCB:=Lib.hid (show cb<W.heap.size by omega)
 have HBB:=Lib.hid (show bb<W.heap.size by have:=h.lt;omega)
 have HAL:=Lib.hid hal
 clear hl1 hx x1 HX hal
 have HBR:=Lib.hid h
 have HS:=Lib.hid hs
 have HLL:=Lib.hid hL
 have HQQ:=Lib.hid hq
 have hB0:Below W.heap.size W ((W.alloc (.cells #[.int .u8 4,.int .i64 arg,.int .u64 imm] 52)).alloc (.cells zero12 70)):=((Below.refl _ _).alloc (Nat.le_refl _) _).alloc (by simp) _
 have hI0:Blk ((W.alloc (.cells #[.int .u8 4,.int .i64 arg,.int .u64 imm] 52)).alloc (.cells zero12 70)) W.heap.size 52 #[.int .u8 4,.int .i64 arg,.int .u64 imm]:=(Blk.new W _ _).alloc _
 have hZ0:Blk ((W.alloc (.cells #[.int .u8 4,.int .i64 arg,.int .u64 imm] 52)).alloc (.cells zero12 70)) (W.heap.size+1) 70 zero12:=by
  have h1:=Blk.new (W.alloc (.cells #[.int .u8 4,.int .i64 arg,.int .u64 imm] 52)) 70 zero12
  rw [show (W.alloc (.cells #[.int .u8 4,.int .i64 arg,.int .u64 imm] 52)).heap.size=W.heap.size+1 by simp] at h1
  exact h1
 have HB0:=Lib.hid hB0
 have HI0:=Lib.hid hI0
 have HZ0:=Lib.hid hZ0
 simp only [zero12] at HB0 HI0 HZ0
 clear h hB hs hsb hm hmv hL hq hleft hB0 hI0 hZ0
 go_enter Try.func61,Try.ntmps61
 go_wp2_with (first
  | (go_at_call 82;refine (HT.out _ HB0.out).mono ?_;rintro e w1 ⟨rfl,hb1⟩;have HB1:=Lib.hid (HB0.out.trans (hb1.mono HB0.out.size));have HI1:=Lib.hid (HI0.out.below hb1 HI0.out.lt);have HZ1:=Lib.hid (HZ0.out.below hb1 HZ0.out.lt);clear hb1)
  | (go_at_call 81;refine (HTOP.out _ HB1.out).mono ?_;rintro e w2 ⟨A,c,rfl,hown,hb2⟩;have HOW:=Lib.hid (own_more hown HB1.out.size);have HB2:=Lib.hid (HB1.out.trans (hb2.mono HB1.out.size));have HI2:=Lib.hid (HI1.out.below hb2 HI1.out.lt);have HZ2:=Lib.hid (HZ1.out.below hb2 HZ1.out.lt);clear hown hb2)
  | (go_at_call 83;refine (HWD.out _ HB2.out q 0 (by have:=HQ.out;omega) (by omega)).mono ?_;rintro e w3 ⟨rfl,rfl⟩;refine Hid.out ?_))
 have i0:w3.cell? ⟨W.heap.size,0,none⟩=some (.int .u8 4):=HI2.out.cell 0
 have i1:w3.cell? ⟨W.heap.size,1,none⟩=some (.int .i64 arg):=HI2.out.cell 1
 have i2:w3.cell? ⟨W.heap.size,2,none⟩=some (.int .u64 imm):=HI2.out.cell 2
 have z0:w3.cell? ⟨W.heap.size+1,0,none⟩=some (.int .u8 0):=HZ2.out.cell 0
 have z1:w3.cell? ⟨W.heap.size+1,1,none⟩=some (.int .u8 0):=HZ2.out.cell 1
 have z2:w3.cell? ⟨W.heap.size+1,2,none⟩=some (.int .i64 0):=HZ2.out.cell 2
 have z3:w3.cell? ⟨W.heap.size+1,3,none⟩=some (.int .i64 0):=HZ2.out.cell 3
 have z4:w3.cell? ⟨W.heap.size+1,4,none⟩=some (.int .i64 0):=HZ2.out.cell 4
 have z5:w3.cell? ⟨W.heap.size+1,5,none⟩=some (.int .i64 0):=HZ2.out.cell 5
 have z6:w3.cell? ⟨W.heap.size+1,6,none⟩=some (.int .i64 0):=HZ2.out.cell 6
 have z7:w3.cell? ⟨W.heap.size+1,7,none⟩=some (.int .i64 0):=HZ2.out.cell 7
 have z8:w3.cell? ⟨W.heap.size+1,8,none⟩=some (.int .u64 0):=HZ2.out.cell 8
 have z9:w3.cell? ⟨W.heap.size+1,9,none⟩=some (.slice none 0 0):=HZ2.out.cell 9
 have z10:w3.cell? ⟨W.heap.size+1,10,none⟩=some (.int .i64 0):=HZ2.out.cell 10
 have z11:w3.cell? ⟨W.heap.size+1,11,none⟩=some (.int .i64 0):=HZ2.out.cell 11
 have zf:∀ i,w3.frozen? ⟨W.heap.size+1,i,none⟩=false:=fun i=>HZ2.out.frozen i
 have gl:(L:Int)+2*(q:Int)=left:=HLF.out.symm
 refine Lib.hid ?_
 have hal:=HAL.out
 subst hal
 have k8:w3.cell? ⟨bb,8,none⟩=some (.slice (some ⟨cb,co,none⟩) cells.length cc):=(HB2.out.cell (p:=⟨bb,8,none⟩) HBB.out).trans HC8.out
 have k9:w3.cell? ⟨cb,co+l,none⟩=some (.int .i64 x):=(HB2.out.cell (p:=⟨cb,co+l,none⟩) HCB.out).trans HX1.out
 have HW2:=Lib.hid (HWD.out w3.drew HB2.out.drew q 1 (by have:=HQ.out;omega) (by omega))
 rw [← HL1.out] at HW2
 go_wp2
 refine wp_region_still_tail 12 (by kernel_rfl) (by kernel_rfl) ?_
 simp only [List.take_succ_cons,List.take_zero,List.drop_succ_cons,List.drop_zero]
 still_step
 still_step
 still_call (HW2.out)
 repeat still_step
 refine wpStill_nil ?_
 change wpList _ _ _ _ _ w3.drew
 obtain ⟨w4,hw4⟩:∃ w4,w3.drew=w4:=⟨_,rfl⟩
 have HZ4:Hid (Blk w4 (W.heap.size+1) 70 zero12):=Lib.hid (by rw [← hw4];exact HZ2.out)
 have HB4:Hid (Below W.heap.size W w4):=Lib.hid (by rw [← hw4];exact HB2.out.drew)
 rw [hw4]
 clear hw4 z0 z1 z2 z3 z4 z5 z6 z7 z8 z9 z10 z11 zf
 have z0:w4.cell? ⟨W.heap.size+1,0,none⟩=some (.int .u8 0):=HZ4.out.cell 0
 have z1:w4.cell? ⟨W.heap.size+1,1,none⟩=some (.int .u8 0):=HZ4.out.cell 1
 have z2:w4.cell? ⟨W.heap.size+1,2,none⟩=some (.int .i64 0):=HZ4.out.cell 2
 have z3:w4.cell? ⟨W.heap.size+1,3,none⟩=some (.int .i64 0):=HZ4.out.cell 3
 have z4:w4.cell? ⟨W.heap.size+1,4,none⟩=some (.int .i64 0):=HZ4.out.cell 4
 have z5:w4.cell? ⟨W.heap.size+1,5,none⟩=some (.int .i64 0):=HZ4.out.cell 5
 have z6:w4.cell? ⟨W.heap.size+1,6,none⟩=some (.int .i64 0):=HZ4.out.cell 6
 have z7:w4.cell? ⟨W.heap.size+1,7,none⟩=some (.int .i64 0):=HZ4.out.cell 7
 have z8:w4.cell? ⟨W.heap.size+1,8,none⟩=some (.int .u64 0):=HZ4.out.cell 8
 have z9:w4.cell? ⟨W.heap.size+1,9,none⟩=some (.slice none 0 0):=HZ4.out.cell 9
 have z10:w4.cell? ⟨W.heap.size+1,10,none⟩=some (.int .i64 0):=HZ4.out.cell 10
 have z11:w4.cell? ⟨W.heap.size+1,11,none⟩=some (.int .i64 0):=HZ4.out.cell 11
 have zf:∀ i,w4.frozen? ⟨W.heap.size+1,i,none⟩=false:=fun i=>HZ4.out.frozen i
 go_wp2
 refine (fun (hg:∀ wf,wf=ndSet w4 (W.heap.size+1) ⟨6,0,lf1,0,0,0,0,x,0,[],0,0⟩ none 0 0→bodyPost _ _ _ _ _ wf)=>hg _ rfl) ?_
 intro wf hwf
 have hfb:Blk wf (W.heap.size+1) 70 (ndC ⟨6,0,lf1,0,0,0,0,x,0,[],0,0⟩ none 0 0):=by rw [hwf];exact ndSet_blk _ _ _ _ HZ4.out
 have hfw:Below W.heap.size W wf:=by rw [hwf];exact ndSet_below _ _ _ _ HB4.out (by omega)
 have hfo:wf.ownsRow W.heap.size 3 1 (.slice none 0 0) 0 (i64c (⟨6,0,lf1,0,0,0,0,x,0,[],0,0⟩:Nd).args):=by rw [hwf];exact own_none _ _ _ _
 have e0:=hfb.cell 0
 have e1:=hfb.cell 1
 have e2:=hfb.cell 2
 have e3:=hfb.cell 3
 have e4:=hfb.cell 4
 have e5:=hfb.cell 5
 have e6:=hfb.cell 6
 have e7:=hfb.cell 7
 have e8:=hfb.cell 8
 have e9:=hfb.cell 9
 have e10:=hfb.cell 10
 have e11:=hfb.cell 11
 simp only [ndC,List.getElem?_toArray,List.getElem?_cons_succ,List.getElem?_cons_zero] at e0 e1 e2 e3 e4 e5 e6 e7 e8 e9 e10 e11
 clear hwf
 have hnode:=HV.out
 refine bodyPost_ret (v:=ndV ⟨6,0,lf1,0,0,0,0,x,0,[],0,0⟩ none 0) (by simp [results,Try.results61,go_sem,ndV,topB_len,e0,e1,e2,e3,e4,e5,e6,e7,e8,e9,e10,e11]) rfl ?_
 have hnd:m=⟨6,0,lf1,0,0,0,0,x,0,[],0,0⟩:=by
  rw [HV.out]
  simp [ndB,wordB,HL1.out,HLL.out]
 rw [hnd]
 exact ⟨_,_,rfl,hfo,hfw⟩
theorem eff_load {W:World} {B bb n nc cc sc:Nat} {fa ca SA:Option Addr} {rs:List Q.Raw} {r:Q.Raw} {cells:List Int} {s:Q.Stk} (arg imm:Int) (h:BR W B bb fa n nc rs r ca cc cells) (hB:B≤W.heap.size) (hs:Reads W B 1 SA s.length (u8c s)) (hsl:s.length≤100000) (hsb:∀ x ∈ s,0≤x∧x≤255) (hn:1≤s.length) :
  Calls Try.prog 61 #[.pointer (some ⟨bb,0,none⟩),.agg #[.int .u8 5,.int .i64 arg,.int .u64 imm],.slice SA s.length sc] W (EffPost W (effB (Q.fns rs) r.fn cells ⟨5,arg,imm⟩ s)):=by
 obtain ⟨m,hm⟩:∃ m,m=effB (Q.fns rs) r.fn cells ⟨5,arg,imm⟩ s:=⟨_,rfl⟩
 obtain ⟨q,hq⟩:∃ q,q=s.length-1:=⟨_,rfl⟩
 have hmv:m=ndB 7 (wordB r.fn q 0) ((topB r.fn s 1).getD 0 0):=by
  rw [hm]
  (try rw [hq])
  simp [effB,takesB,topB_len]
 have HV:=Lib.hid hmv
 rw [← hm]
 have HT:Hid (∀ wr,Below W.heap.size W wr→Calls Try.prog 82 #[.pointer (some ⟨bb,0,none⟩),.agg #[.int .u8 5,.int .i64 arg,.int .u64 imm]] wr fun e w'=>e=.returned (.int .i64 1)∧Below wr.heap.size wr w'):=Lib.hid fun wr hb=>takes_plain bb 5 arg imm 1 wr (.inr (.inl ⟨rfl,.inr (.inl rfl)⟩))
 have HTOP:Hid (∀ wr,Below W.heap.size W wr→Calls Try.prog 81 #[.pointer (some ⟨bb,0,none⟩),.slice SA s.length sc,.int .i64 1] wr fun e w'=>∃ A c,e=.returned (.slice A 1 c)∧w'.ownsRow wr.heap.size 3 1 (.slice A 1 c) 1 (i64c (topB r.fn s 1))∧Below wr.heap.size wr w'):=Lib.hid fun wr hb=>by
  have h':=h.below (hb.mono hB)
  have hz:=hb.size
  exact top_any bb B r.fn r.lo r.lc s SA sc 1 wr h'.c2 (by have:=h.lt;omega) (hs.below (hb.mono hB)) (by omega) h.ll hsl (by omega) hsb
 obtain ⟨L,hL⟩:∃ L:Nat,L=r.fn.locals.length:=⟨_,rfl⟩
 have HWD:Hid (∀ wr,Below W.heap.size W wr→∀ (d:Nat) (k:Int),d≤1000000→0≤k∧k≤255→Calls Try.prog 83 #[.pointer (some ⟨bb,0,none⟩),.int .i64 d,.int .u8 k] wr fun e w'=>e=.returned (.int .i64 ((L:Int)+2*d+k))∧w'=wr):=Lib.hid fun wr hb d k hd hk=>by
  have h':=h.below (hb.mono hB)
  rw [hL]
  exact word_any bb r.lo r.fn.locals.length r.lc d k wr h'.c2 (by have:=h.ll;omega) hd hk
 have gq:(s.length:Int)-1=(q:Int):=by omega
 have gqw:IntKind.i64.wrap (q:Int)=(q:Int):=bi64 (by omega)
 have HQ:Hid (q≤100000):=Lib.hid (by omega)
 obtain ⟨left,hleft⟩:∃ left:Int,left=(L:Int)+2*(q:Int):=⟨_,rfl⟩
 have HLF:=Lib.hid hleft
 obtain ⟨x0,hx0⟩:∃ x,x=(topB r.fn s 1).getD 0 0:=⟨_,rfl⟩
 have HX0:=Lib.hid hx0
 have HXC0:Hid ((topB r.fn s 1)[0]?=some x0):=Lib.hid (by rw [hx0];exact list_at (by rw [topB_len];omega))
 clear hx0
 have HBR:=Lib.hid h
 have HS:=Lib.hid hs
 have HLL:=Lib.hid hL
 have HQQ:=Lib.hid hq
 have hB0:Below W.heap.size W ((W.alloc (.cells #[.int .u8 5,.int .i64 arg,.int .u64 imm] 52)).alloc (.cells zero12 70)):=((Below.refl _ _).alloc (Nat.le_refl _) _).alloc (by simp) _
 have hI0:Blk ((W.alloc (.cells #[.int .u8 5,.int .i64 arg,.int .u64 imm] 52)).alloc (.cells zero12 70)) W.heap.size 52 #[.int .u8 5,.int .i64 arg,.int .u64 imm]:=(Blk.new W _ _).alloc _
 have hZ0:Blk ((W.alloc (.cells #[.int .u8 5,.int .i64 arg,.int .u64 imm] 52)).alloc (.cells zero12 70)) (W.heap.size+1) 70 zero12:=by
  have h1:=Blk.new (W.alloc (.cells #[.int .u8 5,.int .i64 arg,.int .u64 imm] 52)) 70 zero12
  rw [show (W.alloc (.cells #[.int .u8 5,.int .i64 arg,.int .u64 imm] 52)).heap.size=W.heap.size+1 by simp] at h1
  exact h1
 have HB0:=Lib.hid hB0
 have HI0:=Lib.hid hI0
 have HZ0:=Lib.hid hZ0
 simp only [zero12] at HB0 HI0 HZ0
 clear h hB hs hsb hm hmv hL hq hleft hB0 hI0 hZ0
 go_enter Try.func61,Try.ntmps61
 go_wp2_with (first
  | (go_at_call 82;refine (HT.out _ HB0.out).mono ?_;rintro e w1 ⟨rfl,hb1⟩;have HB1:=Lib.hid (HB0.out.trans (hb1.mono HB0.out.size));have HI1:=Lib.hid (HI0.out.below hb1 HI0.out.lt);have HZ1:=Lib.hid (HZ0.out.below hb1 HZ0.out.lt);clear hb1)
  | (go_at_call 81;refine (HTOP.out _ HB1.out).mono ?_;rintro e w2 ⟨A,c,rfl,hown,hb2⟩;have HOW:=Lib.hid (own_more hown HB1.out.size);have HB2:=Lib.hid (HB1.out.trans (hb2.mono HB1.out.size));have HI2:=Lib.hid (HI1.out.below hb2 HI1.out.lt);have HZ2:=Lib.hid (HZ1.out.below hb2 HZ1.out.lt);clear hown hb2)
  | (go_at_call 83;refine (HWD.out _ HB2.out q 0 (by have:=HQ.out;omega) (by omega)).mono ?_;rintro e w3 ⟨rfl,rfl⟩;refine Hid.out ?_))
 obtain ⟨b,off,rfl,hbl,hct⟩:=(Reads.of_own HOW.out).lit (by omega) (by omega)
 have t0:w3.cell? ⟨b,off,none⟩=some (.int .i64 x0):=by
  have:=hct 0 _ (i64c_at HXC0.out)
  simpa using this
 have i0:w3.cell? ⟨W.heap.size,0,none⟩=some (.int .u8 5):=HI2.out.cell 0
 have i1:w3.cell? ⟨W.heap.size,1,none⟩=some (.int .i64 arg):=HI2.out.cell 1
 have i2:w3.cell? ⟨W.heap.size,2,none⟩=some (.int .u64 imm):=HI2.out.cell 2
 have z0:w3.cell? ⟨W.heap.size+1,0,none⟩=some (.int .u8 0):=HZ2.out.cell 0
 have z1:w3.cell? ⟨W.heap.size+1,1,none⟩=some (.int .u8 0):=HZ2.out.cell 1
 have z2:w3.cell? ⟨W.heap.size+1,2,none⟩=some (.int .i64 0):=HZ2.out.cell 2
 have z3:w3.cell? ⟨W.heap.size+1,3,none⟩=some (.int .i64 0):=HZ2.out.cell 3
 have z4:w3.cell? ⟨W.heap.size+1,4,none⟩=some (.int .i64 0):=HZ2.out.cell 4
 have z5:w3.cell? ⟨W.heap.size+1,5,none⟩=some (.int .i64 0):=HZ2.out.cell 5
 have z6:w3.cell? ⟨W.heap.size+1,6,none⟩=some (.int .i64 0):=HZ2.out.cell 6
 have z7:w3.cell? ⟨W.heap.size+1,7,none⟩=some (.int .i64 0):=HZ2.out.cell 7
 have z8:w3.cell? ⟨W.heap.size+1,8,none⟩=some (.int .u64 0):=HZ2.out.cell 8
 have z9:w3.cell? ⟨W.heap.size+1,9,none⟩=some (.slice none 0 0):=HZ2.out.cell 9
 have z10:w3.cell? ⟨W.heap.size+1,10,none⟩=some (.int .i64 0):=HZ2.out.cell 10
 have z11:w3.cell? ⟨W.heap.size+1,11,none⟩=some (.int .i64 0):=HZ2.out.cell 11
 have zf:∀ i,w3.frozen? ⟨W.heap.size+1,i,none⟩=false:=fun i=>HZ2.out.frozen i
 have gl:(L:Int)+2*(q:Int)=left:=HLF.out.symm
 refine Lib.hid ?_
 go_wp2
 refine (fun (hg:∀ wf,wf=ndSet w3 (W.heap.size+1) ⟨7,0,left,0,x0,0,0,0,0,[],0,0⟩ none 0 0→bodyPost _ _ _ _ _ wf)=>hg _ rfl) ?_
 intro wf hwf
 have hfb:Blk wf (W.heap.size+1) 70 (ndC ⟨7,0,left,0,x0,0,0,0,0,[],0,0⟩ none 0 0):=by rw [hwf];exact ndSet_blk _ _ _ _ HZ2.out
 have hfw:Below W.heap.size W wf:=by rw [hwf];exact ndSet_below _ _ _ _ HB2.out (by omega)
 have hfo:wf.ownsRow W.heap.size 3 1 (.slice none 0 0) 0 (i64c (⟨7,0,left,0,x0,0,0,0,0,[],0,0⟩:Nd).args):=by rw [hwf];exact own_none _ _ _ _
 have e0:=hfb.cell 0
 have e1:=hfb.cell 1
 have e2:=hfb.cell 2
 have e3:=hfb.cell 3
 have e4:=hfb.cell 4
 have e5:=hfb.cell 5
 have e6:=hfb.cell 6
 have e7:=hfb.cell 7
 have e8:=hfb.cell 8
 have e9:=hfb.cell 9
 have e10:=hfb.cell 10
 have e11:=hfb.cell 11
 simp only [ndC,List.getElem?_toArray,List.getElem?_cons_succ,List.getElem?_cons_zero] at e0 e1 e2 e3 e4 e5 e6 e7 e8 e9 e10 e11
 clear hwf
 have hnode:=HV.out
 refine bodyPost_ret (v:=ndV ⟨7,0,left,0,x0,0,0,0,0,[],0,0⟩ none 0) (by simp [results,Try.results61,go_sem,ndV,topB_len,e0,e1,e2,e3,e4,e5,e6,e7,e8,e9,e10,e11]) rfl ?_
 have hnd:m=⟨7,0,left,0,x0,0,0,0,0,[],0,0⟩:=by
  rw [HV.out]
  simp [ndB,wordB,HLF.out,HLL.out,HX0.out]
 rw [hnd]
 exact ⟨_,_,rfl,hfo,hfw⟩
theorem eff_store {W:World} {B bb n nc cc sc:Nat} {fa ca SA:Option Addr} {rs:List Q.Raw} {r:Q.Raw} {cells:List Int} {s:Q.Stk} (arg imm:Int) (h:BR W B bb fa n nc rs r ca cc cells) (hB:B≤W.heap.size) (hs:Reads W B 1 SA s.length (u8c s)) (hsl:s.length≤100000) (hsb:∀ x ∈ s,0≤x∧x≤255) (hn:2≤s.length) :
  Calls Try.prog 61 #[.pointer (some ⟨bb,0,none⟩),.agg #[.int .u8 6,.int .i64 arg,.int .u64 imm],.slice SA s.length sc] W (EffPost W (effB (Q.fns rs) r.fn cells ⟨6,arg,imm⟩ s)):=by
 obtain ⟨m,hm⟩:∃ m,m=effB (Q.fns rs) r.fn cells ⟨6,arg,imm⟩ s:=⟨_,rfl⟩
 obtain ⟨q,hq⟩:∃ q,q=s.length-2:=⟨_,rfl⟩
 have hmv:m={ ndB 8 0 ((topB r.fn s 2).getD 0 0) with b:=(topB r.fn s 2).getD 1 0 }:=by
  rw [hm]
  (try rw [hq])
  simp [effB,takesB,topB_len]
 have HV:=Lib.hid hmv
 rw [← hm]
 have HT:Hid (∀ wr,Below W.heap.size W wr→Calls Try.prog 82 #[.pointer (some ⟨bb,0,none⟩),.agg #[.int .u8 6,.int .i64 arg,.int .u64 imm]] wr fun e w'=>e=.returned (.int .i64 2)∧Below wr.heap.size wr w'):=Lib.hid fun wr hb=>takes_plain bb 6 arg imm 2 wr (.inr (.inr ⟨rfl,.inl rfl⟩))
 have HTOP:Hid (∀ wr,Below W.heap.size W wr→Calls Try.prog 81 #[.pointer (some ⟨bb,0,none⟩),.slice SA s.length sc,.int .i64 2] wr fun e w'=>∃ A c,e=.returned (.slice A 2 c)∧w'.ownsRow wr.heap.size 3 1 (.slice A 2 c) 2 (i64c (topB r.fn s 2))∧Below wr.heap.size wr w'):=Lib.hid fun wr hb=>by
  have h':=h.below (hb.mono hB)
  have hz:=hb.size
  exact top_any bb B r.fn r.lo r.lc s SA sc 2 wr h'.c2 (by have:=h.lt;omega) (hs.below (hb.mono hB)) (by omega) h.ll hsl (by omega) hsb
 obtain ⟨L,hL⟩:∃ L:Nat,L=r.fn.locals.length:=⟨_,rfl⟩
 have HWD:Hid (∀ wr,Below W.heap.size W wr→∀ (d:Nat) (k:Int),d≤1000000→0≤k∧k≤255→Calls Try.prog 83 #[.pointer (some ⟨bb,0,none⟩),.int .i64 d,.int .u8 k] wr fun e w'=>e=.returned (.int .i64 ((L:Int)+2*d+k))∧w'=wr):=Lib.hid fun wr hb d k hd hk=>by
  have h':=h.below (hb.mono hB)
  rw [hL]
  exact word_any bb r.lo r.fn.locals.length r.lc d k wr h'.c2 (by have:=h.ll;omega) hd hk
 have gq:(s.length:Int)-2=(q:Int):=by omega
 have gqw:IntKind.i64.wrap (q:Int)=(q:Int):=bi64 (by omega)
 have HQ:Hid (q≤100000):=Lib.hid (by omega)
 obtain ⟨left,hleft⟩:∃ left:Int,left=(L:Int)+2*(q:Int):=⟨_,rfl⟩
 have HLF:=Lib.hid hleft
 obtain ⟨x0,hx0⟩:∃ x,x=(topB r.fn s 2).getD 0 0:=⟨_,rfl⟩
 have HX0:=Lib.hid hx0
 have HXC0:Hid ((topB r.fn s 2)[0]?=some x0):=Lib.hid (by rw [hx0];exact list_at (by rw [topB_len];omega))
 clear hx0
 obtain ⟨x1,hx1⟩:∃ x,x=(topB r.fn s 2).getD 1 0:=⟨_,rfl⟩
 have HX1:=Lib.hid hx1
 have HXC1:Hid ((topB r.fn s 2)[1]?=some x1):=Lib.hid (by rw [hx1];exact list_at (by rw [topB_len];omega))
 clear hx1
 have HBR:=Lib.hid h
 have HS:=Lib.hid hs
 have HLL:=Lib.hid hL
 have HQQ:=Lib.hid hq
 have hB0:Below W.heap.size W ((W.alloc (.cells #[.int .u8 6,.int .i64 arg,.int .u64 imm] 52)).alloc (.cells zero12 70)):=((Below.refl _ _).alloc (Nat.le_refl _) _).alloc (by simp) _
 have hI0:Blk ((W.alloc (.cells #[.int .u8 6,.int .i64 arg,.int .u64 imm] 52)).alloc (.cells zero12 70)) W.heap.size 52 #[.int .u8 6,.int .i64 arg,.int .u64 imm]:=(Blk.new W _ _).alloc _
 have hZ0:Blk ((W.alloc (.cells #[.int .u8 6,.int .i64 arg,.int .u64 imm] 52)).alloc (.cells zero12 70)) (W.heap.size+1) 70 zero12:=by
  have h1:=Blk.new (W.alloc (.cells #[.int .u8 6,.int .i64 arg,.int .u64 imm] 52)) 70 zero12
  rw [show (W.alloc (.cells #[.int .u8 6,.int .i64 arg,.int .u64 imm] 52)).heap.size=W.heap.size+1 by simp] at h1
  exact h1
 have HB0:=Lib.hid hB0
 have HI0:=Lib.hid hI0
 have HZ0:=Lib.hid hZ0
 simp only [zero12] at HB0 HI0 HZ0
 clear h hB hs hsb hm hmv hL hq hleft hB0 hI0 hZ0
 go_enter Try.func61,Try.ntmps61
 go_wp2_with (first
  | (go_at_call 82;refine (HT.out _ HB0.out).mono ?_;rintro e w1 ⟨rfl,hb1⟩;have HB1:=Lib.hid (HB0.out.trans (hb1.mono HB0.out.size));have HI1:=Lib.hid (HI0.out.below hb1 HI0.out.lt);have HZ1:=Lib.hid (HZ0.out.below hb1 HZ0.out.lt);clear hb1)
  | (go_at_call 81;refine (HTOP.out _ HB1.out).mono ?_;rintro e w2 ⟨A,c,rfl,hown,hb2⟩;have HOW:=Lib.hid (own_more hown HB1.out.size);have HB2:=Lib.hid (HB1.out.trans (hb2.mono HB1.out.size));have HI2:=Lib.hid (HI1.out.below hb2 HI1.out.lt);have HZ2:=Lib.hid (HZ1.out.below hb2 HZ1.out.lt);clear hown hb2)
  | (go_at_call 83;refine (HWD.out _ HB2.out q 0 (by have:=HQ.out;omega) (by omega)).mono ?_;rintro e w3 ⟨rfl,rfl⟩;refine Hid.out ?_))
 obtain ⟨b,off,rfl,hbl,hct⟩:=(Reads.of_own HOW.out).lit (by omega) (by omega)
 have t0:w3.cell? ⟨b,off,none⟩=some (.int .i64 x0):=by
  have:=hct 0 _ (i64c_at HXC0.out)
  simpa using this
 have t1:w3.cell? ⟨b,off+1,none⟩=some (.int .i64 x1):=hct 1 _ (i64c_at HXC1.out)
 have i0:w3.cell? ⟨W.heap.size,0,none⟩=some (.int .u8 6):=HI2.out.cell 0
 have i1:w3.cell? ⟨W.heap.size,1,none⟩=some (.int .i64 arg):=HI2.out.cell 1
 have i2:w3.cell? ⟨W.heap.size,2,none⟩=some (.int .u64 imm):=HI2.out.cell 2
 have z0:w3.cell? ⟨W.heap.size+1,0,none⟩=some (.int .u8 0):=HZ2.out.cell 0
 have z1:w3.cell? ⟨W.heap.size+1,1,none⟩=some (.int .u8 0):=HZ2.out.cell 1
 have z2:w3.cell? ⟨W.heap.size+1,2,none⟩=some (.int .i64 0):=HZ2.out.cell 2
 have z3:w3.cell? ⟨W.heap.size+1,3,none⟩=some (.int .i64 0):=HZ2.out.cell 3
 have z4:w3.cell? ⟨W.heap.size+1,4,none⟩=some (.int .i64 0):=HZ2.out.cell 4
 have z5:w3.cell? ⟨W.heap.size+1,5,none⟩=some (.int .i64 0):=HZ2.out.cell 5
 have z6:w3.cell? ⟨W.heap.size+1,6,none⟩=some (.int .i64 0):=HZ2.out.cell 6
 have z7:w3.cell? ⟨W.heap.size+1,7,none⟩=some (.int .i64 0):=HZ2.out.cell 7
 have z8:w3.cell? ⟨W.heap.size+1,8,none⟩=some (.int .u64 0):=HZ2.out.cell 8
 have z9:w3.cell? ⟨W.heap.size+1,9,none⟩=some (.slice none 0 0):=HZ2.out.cell 9
 have z10:w3.cell? ⟨W.heap.size+1,10,none⟩=some (.int .i64 0):=HZ2.out.cell 10
 have z11:w3.cell? ⟨W.heap.size+1,11,none⟩=some (.int .i64 0):=HZ2.out.cell 11
 have zf:∀ i,w3.frozen? ⟨W.heap.size+1,i,none⟩=false:=fun i=>HZ2.out.frozen i
 have gl:(L:Int)+2*(q:Int)=left:=HLF.out.symm
 refine Lib.hid ?_
 go_wp2
 go_still_tail 7,(by kernel_rfl)
 change wpList _ _ _ _ _ w3.drew
 obtain ⟨w4,hw4⟩:∃ w4,w3.drew=w4:=⟨_,rfl⟩
 have HZ4:Hid (Blk w4 (W.heap.size+1) 70 zero12):=Lib.hid (by rw [← hw4];exact HZ2.out)
 have HB4:Hid (Below W.heap.size W w4):=Lib.hid (by rw [← hw4];exact HB2.out.drew)
 rw [hw4]
 clear hw4 z0 z1 z2 z3 z4 z5 z6 z7 z8 z9 z10 z11 zf
 have z0:w4.cell? ⟨W.heap.size+1,0,none⟩=some (.int .u8 0):=HZ4.out.cell 0
 have z1:w4.cell? ⟨W.heap.size+1,1,none⟩=some (.int .u8 0):=HZ4.out.cell 1
 have z2:w4.cell? ⟨W.heap.size+1,2,none⟩=some (.int .i64 0):=HZ4.out.cell 2
 have z3:w4.cell? ⟨W.heap.size+1,3,none⟩=some (.int .i64 0):=HZ4.out.cell 3
 have z4:w4.cell? ⟨W.heap.size+1,4,none⟩=some (.int .i64 0):=HZ4.out.cell 4
 have z5:w4.cell? ⟨W.heap.size+1,5,none⟩=some (.int .i64 0):=HZ4.out.cell 5
 have z6:w4.cell? ⟨W.heap.size+1,6,none⟩=some (.int .i64 0):=HZ4.out.cell 6
 have z7:w4.cell? ⟨W.heap.size+1,7,none⟩=some (.int .i64 0):=HZ4.out.cell 7
 have z8:w4.cell? ⟨W.heap.size+1,8,none⟩=some (.int .u64 0):=HZ4.out.cell 8
 have z9:w4.cell? ⟨W.heap.size+1,9,none⟩=some (.slice none 0 0):=HZ4.out.cell 9
 have z10:w4.cell? ⟨W.heap.size+1,10,none⟩=some (.int .i64 0):=HZ4.out.cell 10
 have z11:w4.cell? ⟨W.heap.size+1,11,none⟩=some (.int .i64 0):=HZ4.out.cell 11
 have zf:∀ i,w4.frozen? ⟨W.heap.size+1,i,none⟩=false:=fun i=>HZ4.out.frozen i
 go_wp2
 refine (fun (hg:∀ wf,wf=ndSet w4 (W.heap.size+1) ⟨8,0,0,0,x0,x1,0,0,0,[],0,0⟩ none 0 0→bodyPost _ _ _ _ _ wf)=>hg _ rfl) ?_
 intro wf hwf
 have hfb:Blk wf (W.heap.size+1) 70 (ndC ⟨8,0,0,0,x0,x1,0,0,0,[],0,0⟩ none 0 0):=by rw [hwf];exact ndSet_blk _ _ _ _ HZ4.out
 have hfw:Below W.heap.size W wf:=by rw [hwf];exact ndSet_below _ _ _ _ HB4.out (by omega)
 have hfo:wf.ownsRow W.heap.size 3 1 (.slice none 0 0) 0 (i64c (⟨8,0,0,0,x0,x1,0,0,0,[],0,0⟩:Nd).args):=by rw [hwf];exact own_none _ _ _ _
 have e0:=hfb.cell 0
 have e1:=hfb.cell 1
 have e2:=hfb.cell 2
 have e3:=hfb.cell 3
 have e4:=hfb.cell 4
 have e5:=hfb.cell 5
 have e6:=hfb.cell 6
 have e7:=hfb.cell 7
 have e8:=hfb.cell 8
 have e9:=hfb.cell 9
 have e10:=hfb.cell 10
 have e11:=hfb.cell 11
 simp only [ndC,List.getElem?_toArray,List.getElem?_cons_succ,List.getElem?_cons_zero] at e0 e1 e2 e3 e4 e5 e6 e7 e8 e9 e10 e11
 clear hwf
 have hnode:=HV.out
 refine bodyPost_ret (v:=ndV ⟨8,0,0,0,x0,x1,0,0,0,[],0,0⟩ none 0) (by simp [results,Try.results61,go_sem,ndV,topB_len,e0,e1,e2,e3,e4,e5,e6,e7,e8,e9,e10,e11]) rfl ?_
 have hnd:m=⟨8,0,0,0,x0,x1,0,0,0,[],0,0⟩:=by
  rw [HV.out]
  simp [ndB,HX0.out,HX1.out]
 rw [hnd]
 exact ⟨_,_,rfl,hfo,hfw⟩
theorem eff_get {W:World} {B bb n nc cc sc:Nat} {fa ca SA:Option Addr} {rs:List Q.Raw} {r:Q.Raw} {cells:List Int} {s:Q.Stk} (l:Nat) (kx:Int) (arg imm:Int) (h:BR W B bb fa n nc rs r ca cc cells) (hB:B≤W.heap.size) (hs:Reads W B 1 SA s.length (u8c s)) (hsl:s.length≤100000) (hsb:∀ x ∈ s,0≤x∧x≤255) (hal:arg=(l:Int)) (hll:l<cells.length) (hkx:r.fn.locals[l]?=some kx) (hkb:0≤kx∧kx≤255) :
  Calls Try.prog 61 #[.pointer (some ⟨bb,0,none⟩),.agg #[.int .u8 2,.int .i64 arg,.int .u64 imm],.slice SA s.length sc] W (EffPost W (effB (Q.fns rs) r.fn cells ⟨2,arg,imm⟩ s)):=by
 obtain ⟨m,hm⟩:∃ m,m=effB (Q.fns rs) r.fn cells ⟨2,arg,imm⟩ s:=⟨_,rfl⟩
 obtain ⟨q,hq⟩:∃ q,q=s.length-0:=⟨_,rfl⟩
 have hmv:m=getB cells arg (wordB r.fn q (r.fn.locals.getD arg.toNat 0)):=by
  rw [hm]
  (try rw [hq])
  simp [effB,takesB,topB_len]
 have HV:=Lib.hid hmv
 rw [← hm]
 have HT:Hid (∀ wr,Below W.heap.size W wr→Calls Try.prog 82 #[.pointer (some ⟨bb,0,none⟩),.agg #[.int .u8 2,.int .i64 arg,.int .u64 imm]] wr fun e w'=>e=.returned (.int .i64 0)∧Below wr.heap.size wr w'):=Lib.hid fun wr hb=>takes_plain bb 2 arg imm 0 wr (.inl ⟨rfl,.inr (.inl rfl)⟩)
 have HTOP:Hid (∀ wr,Below W.heap.size W wr→Calls Try.prog 81 #[.pointer (some ⟨bb,0,none⟩),.slice SA s.length sc,.int .i64 0] wr fun e w'=>∃ A c,e=.returned (.slice A 0 c)∧w'.ownsRow wr.heap.size 3 1 (.slice A 0 c) 0 (i64c (topB r.fn s 0))∧Below wr.heap.size wr w'):=Lib.hid fun wr hb=>by
  have h':=h.below (hb.mono hB)
  have hz:=hb.size
  exact top_any bb B r.fn r.lo r.lc s SA sc 0 wr h'.c2 (by have:=h.lt;omega) (hs.below (hb.mono hB)) (by omega) h.ll hsl (by omega) hsb
 obtain ⟨L,hL⟩:∃ L:Nat,L=r.fn.locals.length:=⟨_,rfl⟩
 have HWD:Hid (∀ wr,Below W.heap.size W wr→∀ (d:Nat) (k:Int),d≤1000000→0≤k∧k≤255→Calls Try.prog 83 #[.pointer (some ⟨bb,0,none⟩),.int .i64 d,.int .u8 k] wr fun e w'=>e=.returned (.int .i64 ((L:Int)+2*d+k))∧w'=wr):=Lib.hid fun wr hb d k hd hk=>by
  have h':=h.below (hb.mono hB)
  rw [hL]
  exact word_any bb r.lo r.fn.locals.length r.lc d k wr h'.c2 (by have:=h.ll;omega) hd hk
 have gq:(s.length:Int)-0=(q:Int):=by omega
 have gqw:IntKind.i64.wrap (q:Int)=(q:Int):=bi64 (by omega)
 have HQ:Hid (q≤100000):=Lib.hid (by omega)
 obtain ⟨left,hleft⟩:∃ left:Int,left=(L:Int)+2*(q:Int):=⟨_,rfl⟩
 have HLF:=Lib.hid hleft
 obtain ⟨to,hto⟩:∃ y:Int,y=(L:Int)+2*(q:Int)+kx:=⟨_,rfl⟩
 have HTO:=Lib.hid hto
 have HKB:=Lib.hid hkb
 have gal:IntKind.i64.wrap (l:Int)=(l:Int):=bi64 (by have:=h.cl;have:=h.ll;omega)
 obtain ⟨g,hg⟩:∃ g,g=getB cells arg to:=⟨_,rfl⟩
 have HGV:Hid (g=getB cells arg (wordB r.fn q (r.fn.locals.getD arg.toNat 0))):=Lib.hid (by rw [hg,hto,hal,getD_cast hkx,hL];rfl)
 have HGA:Hid (g.args.length=0):=Lib.hid (by rw [hg];exact getB_args _ _ _)
 have HST:Hid (∀ wr,Below W.heap.size W wr→Calls Try.prog 84 #[.pointer (some ⟨bb,0,none⟩),.int .i64 arg,.int .i64 to] wr fun e w'=>e=.returned (ndV g none 0)∧Below wr.heap.size wr w'):=Lib.hid fun wr hb=>by
  rw [hg,hal]
  exact get_BR (h.below (hb.mono hB)) (Nat.le_trans hB hb.size) hll to
 rw [ndV_args HGA.out] at HST
 simp only [ndC] at HST
 have hlL:l<L:=by have:=h.cl;omega
 obtain ⟨lb,lo,kx',hlo,hlb,HKX,kx1⟩:=h.lo.byte (k:=l) (by omega)
 obtain rfl:kx=kx':=by have:=HKX.out;rw [hkx] at this;simpa using this
 have hc2:=h.c2
 rw [hlo,← hL] at hc2
 have HC2:=Lib.hid hc2
 have HKX1:=Lib.hid kx1
 have HCB:=Lib.hid (show lb<W.heap.size by omega)
 have HBB:=Lib.hid (show bb<W.heap.size by have:=h.lt;omega)
 have HAL:=Lib.hid hal
 clear hto hkx hkb hg hal hc2 kx1 HKX hlo
 have HBR:=Lib.hid h
 have HS:=Lib.hid hs
 have HLL:=Lib.hid hL
 have HQQ:=Lib.hid hq
 have hB0:Below W.heap.size W ((W.alloc (.cells #[.int .u8 2,.int .i64 arg,.int .u64 imm] 52)).alloc (.cells zero12 70)):=((Below.refl _ _).alloc (Nat.le_refl _) _).alloc (by simp) _
 have hI0:Blk ((W.alloc (.cells #[.int .u8 2,.int .i64 arg,.int .u64 imm] 52)).alloc (.cells zero12 70)) W.heap.size 52 #[.int .u8 2,.int .i64 arg,.int .u64 imm]:=(Blk.new W _ _).alloc _
 have hZ0:Blk ((W.alloc (.cells #[.int .u8 2,.int .i64 arg,.int .u64 imm] 52)).alloc (.cells zero12 70)) (W.heap.size+1) 70 zero12:=by
  have h1:=Blk.new (W.alloc (.cells #[.int .u8 2,.int .i64 arg,.int .u64 imm] 52)) 70 zero12
  rw [show (W.alloc (.cells #[.int .u8 2,.int .i64 arg,.int .u64 imm] 52)).heap.size=W.heap.size+1 by simp] at h1
  exact h1
 have HB0:=Lib.hid hB0
 have HI0:=Lib.hid hI0
 have HZ0:=Lib.hid hZ0
 simp only [zero12] at HB0 HI0 HZ0
 clear h hB hs hsb hm hmv hL hq hleft hB0 hI0 hZ0
 go_enter Try.func61,Try.ntmps61
 go_wp2_with (first
  | (go_at_call 82;refine (HT.out _ HB0.out).mono ?_;rintro e w1 ⟨rfl,hb1⟩;have HB1:=Lib.hid (HB0.out.trans (hb1.mono HB0.out.size));have HI1:=Lib.hid (HI0.out.below hb1 HI0.out.lt);have HZ1:=Lib.hid (HZ0.out.below hb1 HZ0.out.lt);clear hb1)
  | (go_at_call 81;refine (HTOP.out _ HB1.out).mono ?_;rintro e w2 ⟨A,c,rfl,hown,hb2⟩;have HOW:=Lib.hid (own_more hown HB1.out.size);have HB2:=Lib.hid (HB1.out.trans (hb2.mono HB1.out.size));have HI2:=Lib.hid (HI1.out.below hb2 HI1.out.lt);have HZ2:=Lib.hid (HZ1.out.below hb2 HZ1.out.lt);clear hown hb2)
  | (go_at_call 83;refine (HWD.out _ HB2.out q 0 (by have:=HQ.out;omega) (by omega)).mono ?_;rintro e w3 ⟨rfl,rfl⟩;refine Hid.out ?_))
 have i0:w3.cell? ⟨W.heap.size,0,none⟩=some (.int .u8 2):=HI2.out.cell 0
 have i1:w3.cell? ⟨W.heap.size,1,none⟩=some (.int .i64 arg):=HI2.out.cell 1
 have i2:w3.cell? ⟨W.heap.size,2,none⟩=some (.int .u64 imm):=HI2.out.cell 2
 have z0:w3.cell? ⟨W.heap.size+1,0,none⟩=some (.int .u8 0):=HZ2.out.cell 0
 have z1:w3.cell? ⟨W.heap.size+1,1,none⟩=some (.int .u8 0):=HZ2.out.cell 1
 have z2:w3.cell? ⟨W.heap.size+1,2,none⟩=some (.int .i64 0):=HZ2.out.cell 2
 have z3:w3.cell? ⟨W.heap.size+1,3,none⟩=some (.int .i64 0):=HZ2.out.cell 3
 have z4:w3.cell? ⟨W.heap.size+1,4,none⟩=some (.int .i64 0):=HZ2.out.cell 4
 have z5:w3.cell? ⟨W.heap.size+1,5,none⟩=some (.int .i64 0):=HZ2.out.cell 5
 have z6:w3.cell? ⟨W.heap.size+1,6,none⟩=some (.int .i64 0):=HZ2.out.cell 6
 have z7:w3.cell? ⟨W.heap.size+1,7,none⟩=some (.int .i64 0):=HZ2.out.cell 7
 have z8:w3.cell? ⟨W.heap.size+1,8,none⟩=some (.int .u64 0):=HZ2.out.cell 8
 have z9:w3.cell? ⟨W.heap.size+1,9,none⟩=some (.slice none 0 0):=HZ2.out.cell 9
 have z10:w3.cell? ⟨W.heap.size+1,10,none⟩=some (.int .i64 0):=HZ2.out.cell 10
 have z11:w3.cell? ⟨W.heap.size+1,11,none⟩=some (.int .i64 0):=HZ2.out.cell 11
 have zf:∀ i,w3.frozen? ⟨W.heap.size+1,i,none⟩=false:=fun i=>HZ2.out.frozen i
 have gl:(L:Int)+2*(q:Int)=left:=HLF.out.symm
 refine Lib.hid ?_
 have hal:=HAL.out
 subst hal
 have k2:w3.cell? ⟨bb,2,none⟩=some (.slice (some ⟨lb,lo,none⟩) L r.lc):=(HB2.out.cell (p:=⟨bb,2,none⟩) HBB.out).trans HC2.out
 have k9:w3.cell? ⟨lb,lo+l,none⟩=some (.int .u8 kx):=(HB2.out.cell (p:=⟨lb,lo+l,none⟩) HCB.out).trans HKX1.out
 have HW2:=Lib.hid (HWD.out w3.drew HB2.out.drew q kx (by have:=HQ.out;omega) HKB.out)
 rw [← HTO.out] at HW2
 go_wp2
 refine wp_region_still_tail 15 (by kernel_rfl) (by kernel_rfl) ?_
 simp only [List.take_succ_cons,List.take_zero,List.drop_succ_cons,List.drop_zero]
 still_step
 still_step
 still_step
 still_step
 still_step
 still_step
 still_step
 still_step
 still_step
 still_step
 still_step
 still_step
 still_step
 still_step
 still_call (HW2.out)
 refine wpStill_nil ?_
 change wpList _ _ _ _ _ w3.drew
 clear z0 z1 z2 z3 z4 z5 z6 z7 z8 z9 z10 z11 zf
 go_wp2_with (go_at_call 84;refine (HST.out _ HB2.out.drew).mono ?_;rintro e w4 ⟨rfl,hb4⟩;have HZ4:=Lib.hid ((HZ2.out.drew).below hb4 (HZ2.out.drew).lt);have HB4:=Lib.hid (HB2.out.drew.trans (hb4.mono HB2.out.drew.size));clear hb4;have z0:w4.cell? ⟨W.heap.size+1,0,none⟩=some (.int .u8 0):=HZ4.out.cell 0;have z1:w4.cell? ⟨W.heap.size+1,1,none⟩=some (.int .u8 0):=HZ4.out.cell 1;have z2:w4.cell? ⟨W.heap.size+1,2,none⟩=some (.int .i64 0):=HZ4.out.cell 2;have z3:w4.cell? ⟨W.heap.size+1,3,none⟩=some (.int .i64 0):=HZ4.out.cell 3;have z4:w4.cell? ⟨W.heap.size+1,4,none⟩=some (.int .i64 0):=HZ4.out.cell 4;have z5:w4.cell? ⟨W.heap.size+1,5,none⟩=some (.int .i64 0):=HZ4.out.cell 5;have z6:w4.cell? ⟨W.heap.size+1,6,none⟩=some (.int .i64 0):=HZ4.out.cell 6;have z7:w4.cell? ⟨W.heap.size+1,7,none⟩=some (.int .i64 0):=HZ4.out.cell 7;have z8:w4.cell? ⟨W.heap.size+1,8,none⟩=some (.int .u64 0):=HZ4.out.cell 8;have z9:w4.cell? ⟨W.heap.size+1,9,none⟩=some (.slice none 0 0):=HZ4.out.cell 9;have z10:w4.cell? ⟨W.heap.size+1,10,none⟩=some (.int .i64 0):=HZ4.out.cell 10;have z11:w4.cell? ⟨W.heap.size+1,11,none⟩=some (.int .i64 0):=HZ4.out.cell 11;have zf:∀ i,w4.frozen? ⟨W.heap.size+1,i,none⟩=false:=fun i=>HZ4.out.frozen i)
 refine (fun (hg:∀ wf,wf=ndSet w4 (W.heap.size+1) g none 0 0→bodyPost _ _ _ _ _ wf)=>hg _ rfl) ?_
 intro wf hwf
 have hfb:Blk wf (W.heap.size+1) 70 (ndC g none 0 0):=by rw [hwf];exact ndSet_blk _ _ _ _ HZ4.out
 have hfw:Below W.heap.size W wf:=by rw [hwf];exact ndSet_below _ _ _ _ HB4.out (by omega)
 have e0:=hfb.cell 0
 have e1:=hfb.cell 1
 have e2:=hfb.cell 2
 have e3:=hfb.cell 3
 have e4:=hfb.cell 4
 have e5:=hfb.cell 5
 have e6:=hfb.cell 6
 have e7:=hfb.cell 7
 have e8:=hfb.cell 8
 have e9:=hfb.cell 9
 have e10:=hfb.cell 10
 have e11:=hfb.cell 11
 simp only [ndC,List.getElem?_toArray,List.getElem?_cons_succ,List.getElem?_cons_zero] at e0 e1 e2 e3 e4 e5 e6 e7 e8 e9 e10 e11
 clear hwf
 refine bodyPost_ret (v:=ndV g none 0) (by rw [ndV_args HGA.out];simp [ndC,results,Try.results61,go_sem,e0,e1,e2,e3,e4,e5,e6,e7,e8,e9,e10,e11]) rfl ?_
 exact effPost_letter (HV.out.trans HGV.out.symm) (List.eq_nil_of_length_eq_zero HGA.out) rfl hfw
theorem eff_in {W:World} {B bb n nc cc sc:Nat} {fa ca SA:Option Addr} {rs:List Q.Raw} {r:Q.Raw} {cells:List Int} {s:Q.Stk} (arg imm:Int) (h:BR W B bb fa n nc rs r ca cc cells) (hB:B≤W.heap.size) (hs:Reads W B 1 SA s.length (u8c s)) (hsl:s.length≤100000) (hsb:∀ x ∈ s,0≤x∧x≤255) :
  Calls Try.prog 61 #[.pointer (some ⟨bb,0,none⟩),.agg #[.int .u8 28,.int .i64 arg,.int .u64 imm],.slice SA s.length sc] W (EffPost W (effB (Q.fns rs) r.fn cells ⟨28,arg,imm⟩ s)):=by
 obtain ⟨m,hm⟩:∃ m,m=effB (Q.fns rs) r.fn cells ⟨28,arg,imm⟩ s:=⟨_,rfl⟩
 obtain ⟨q,hq⟩:∃ q,q=s.length-0:=⟨_,rfl⟩
 have hmv:m=ndB 16 (wordB r.fn q 0) 0:=by
  rw [hm]
  (try rw [hq])
  simp [effB,takesB,topB_len]
 have HV:=Lib.hid hmv
 rw [← hm]
 have HT:Hid (∀ wr,Below W.heap.size W wr→Calls Try.prog 82 #[.pointer (some ⟨bb,0,none⟩),.agg #[.int .u8 28,.int .i64 arg,.int .u64 imm]] wr fun e w'=>e=.returned (.int .i64 0)∧Below wr.heap.size wr w'):=Lib.hid fun wr hb=>takes_plain bb 28 arg imm 0 wr (.inl ⟨rfl,.inr (.inr (.inr (.inr (.inr (rfl)))))⟩)
 have HTOP:Hid (∀ wr,Below W.heap.size W wr→Calls Try.prog 81 #[.pointer (some ⟨bb,0,none⟩),.slice SA s.length sc,.int .i64 0] wr fun e w'=>∃ A c,e=.returned (.slice A 0 c)∧w'.ownsRow wr.heap.size 3 1 (.slice A 0 c) 0 (i64c (topB r.fn s 0))∧Below wr.heap.size wr w'):=Lib.hid fun wr hb=>by
  have h':=h.below (hb.mono hB)
  have hz:=hb.size
  exact top_any bb B r.fn r.lo r.lc s SA sc 0 wr h'.c2 (by have:=h.lt;omega) (hs.below (hb.mono hB)) (by omega) h.ll hsl (by omega) hsb
 obtain ⟨L,hL⟩:∃ L:Nat,L=r.fn.locals.length:=⟨_,rfl⟩
 have HWD:Hid (∀ wr,Below W.heap.size W wr→∀ (d:Nat) (k:Int),d≤1000000→0≤k∧k≤255→Calls Try.prog 83 #[.pointer (some ⟨bb,0,none⟩),.int .i64 d,.int .u8 k] wr fun e w'=>e=.returned (.int .i64 ((L:Int)+2*d+k))∧w'=wr):=Lib.hid fun wr hb d k hd hk=>by
  have h':=h.below (hb.mono hB)
  rw [hL]
  exact word_any bb r.lo r.fn.locals.length r.lc d k wr h'.c2 (by have:=h.ll;omega) hd hk
 have gq:(s.length:Int)-0=(q:Int):=by omega
 have gqw:IntKind.i64.wrap (q:Int)=(q:Int):=bi64 (by omega)
 have HQ:Hid (q≤100000):=Lib.hid (by omega)
 obtain ⟨left,hleft⟩:∃ left:Int,left=(L:Int)+2*(q:Int):=⟨_,rfl⟩
 have HLF:=Lib.hid hleft
 have HBR:=Lib.hid h
 have HS:=Lib.hid hs
 have HLL:=Lib.hid hL
 have HQQ:=Lib.hid hq
 have hB0:Below W.heap.size W ((W.alloc (.cells #[.int .u8 28,.int .i64 arg,.int .u64 imm] 52)).alloc (.cells zero12 70)):=((Below.refl _ _).alloc (Nat.le_refl _) _).alloc (by simp) _
 have hI0:Blk ((W.alloc (.cells #[.int .u8 28,.int .i64 arg,.int .u64 imm] 52)).alloc (.cells zero12 70)) W.heap.size 52 #[.int .u8 28,.int .i64 arg,.int .u64 imm]:=(Blk.new W _ _).alloc _
 have hZ0:Blk ((W.alloc (.cells #[.int .u8 28,.int .i64 arg,.int .u64 imm] 52)).alloc (.cells zero12 70)) (W.heap.size+1) 70 zero12:=by
  have h1:=Blk.new (W.alloc (.cells #[.int .u8 28,.int .i64 arg,.int .u64 imm] 52)) 70 zero12
  rw [show (W.alloc (.cells #[.int .u8 28,.int .i64 arg,.int .u64 imm] 52)).heap.size=W.heap.size+1 by simp] at h1
  exact h1
 have HB0:=Lib.hid hB0
 have HI0:=Lib.hid hI0
 have HZ0:=Lib.hid hZ0
 simp only [zero12] at HB0 HI0 HZ0
 clear h hB hs hsb hm hmv hL hq hleft hB0 hI0 hZ0
 go_enter Try.func61,Try.ntmps61
 go_wp2_with (first
  | (go_at_call 82;refine (HT.out _ HB0.out).mono ?_;rintro e w1 ⟨rfl,hb1⟩;have HB1:=Lib.hid (HB0.out.trans (hb1.mono HB0.out.size));have HI1:=Lib.hid (HI0.out.below hb1 HI0.out.lt);have HZ1:=Lib.hid (HZ0.out.below hb1 HZ0.out.lt);clear hb1)
  | (go_at_call 81;refine (HTOP.out _ HB1.out).mono ?_;rintro e w2 ⟨A,c,rfl,hown,hb2⟩;have HOW:=Lib.hid (own_more hown HB1.out.size);have HB2:=Lib.hid (HB1.out.trans (hb2.mono HB1.out.size));have HI2:=Lib.hid (HI1.out.below hb2 HI1.out.lt);have HZ2:=Lib.hid (HZ1.out.below hb2 HZ1.out.lt);clear hown hb2)
  | (go_at_call 83;refine (HWD.out _ HB2.out q 0 (by have:=HQ.out;omega) (by omega)).mono ?_;rintro e w3 ⟨rfl,rfl⟩;refine Hid.out ?_))
 have i0:w3.cell? ⟨W.heap.size,0,none⟩=some (.int .u8 28):=HI2.out.cell 0
 have i1:w3.cell? ⟨W.heap.size,1,none⟩=some (.int .i64 arg):=HI2.out.cell 1
 have i2:w3.cell? ⟨W.heap.size,2,none⟩=some (.int .u64 imm):=HI2.out.cell 2
 have z0:w3.cell? ⟨W.heap.size+1,0,none⟩=some (.int .u8 0):=HZ2.out.cell 0
 have z1:w3.cell? ⟨W.heap.size+1,1,none⟩=some (.int .u8 0):=HZ2.out.cell 1
 have z2:w3.cell? ⟨W.heap.size+1,2,none⟩=some (.int .i64 0):=HZ2.out.cell 2
 have z3:w3.cell? ⟨W.heap.size+1,3,none⟩=some (.int .i64 0):=HZ2.out.cell 3
 have z4:w3.cell? ⟨W.heap.size+1,4,none⟩=some (.int .i64 0):=HZ2.out.cell 4
 have z5:w3.cell? ⟨W.heap.size+1,5,none⟩=some (.int .i64 0):=HZ2.out.cell 5
 have z6:w3.cell? ⟨W.heap.size+1,6,none⟩=some (.int .i64 0):=HZ2.out.cell 6
 have z7:w3.cell? ⟨W.heap.size+1,7,none⟩=some (.int .i64 0):=HZ2.out.cell 7
 have z8:w3.cell? ⟨W.heap.size+1,8,none⟩=some (.int .u64 0):=HZ2.out.cell 8
 have z9:w3.cell? ⟨W.heap.size+1,9,none⟩=some (.slice none 0 0):=HZ2.out.cell 9
 have z10:w3.cell? ⟨W.heap.size+1,10,none⟩=some (.int .i64 0):=HZ2.out.cell 10
 have z11:w3.cell? ⟨W.heap.size+1,11,none⟩=some (.int .i64 0):=HZ2.out.cell 11
 have zf:∀ i,w3.frozen? ⟨W.heap.size+1,i,none⟩=false:=fun i=>HZ2.out.frozen i
 have gl:(L:Int)+2*(q:Int)=left:=HLF.out.symm
 refine Lib.hid ?_
 go_wp2
 refine (fun (hg:∀ wf,wf=ndSet w3 (W.heap.size+1) ⟨16,0,left,0,0,0,0,0,0,[],0,0⟩ none 0 0→bodyPost _ _ _ _ _ wf)=>hg _ rfl) ?_
 intro wf hwf
 have hfb:Blk wf (W.heap.size+1) 70 (ndC ⟨16,0,left,0,0,0,0,0,0,[],0,0⟩ none 0 0):=by rw [hwf];exact ndSet_blk _ _ _ _ HZ2.out
 have hfw:Below W.heap.size W wf:=by rw [hwf];exact ndSet_below _ _ _ _ HB2.out (by omega)
 have hfo:wf.ownsRow W.heap.size 3 1 (.slice none 0 0) 0 (i64c (⟨16,0,left,0,0,0,0,0,0,[],0,0⟩:Nd).args):=by rw [hwf];exact own_none _ _ _ _
 have e0:=hfb.cell 0
 have e1:=hfb.cell 1
 have e2:=hfb.cell 2
 have e3:=hfb.cell 3
 have e4:=hfb.cell 4
 have e5:=hfb.cell 5
 have e6:=hfb.cell 6
 have e7:=hfb.cell 7
 have e8:=hfb.cell 8
 have e9:=hfb.cell 9
 have e10:=hfb.cell 10
 have e11:=hfb.cell 11
 simp only [ndC,List.getElem?_toArray,List.getElem?_cons_succ,List.getElem?_cons_zero] at e0 e1 e2 e3 e4 e5 e6 e7 e8 e9 e10 e11
 clear hwf
 have hnode:=HV.out
 refine bodyPost_ret (v:=ndV ⟨16,0,left,0,0,0,0,0,0,[],0,0⟩ none 0) (by simp [results,Try.results61,go_sem,ndV,topB_len,e0,e1,e2,e3,e4,e5,e6,e7,e8,e9,e10,e11]) rfl ?_
 have hnd:m=⟨16,0,left,0,0,0,0,0,0,[],0,0⟩:=by
  rw [HV.out]
  simp [ndB,wordB,HLF.out,HLL.out]
 rw [hnd]
 exact ⟨_,_,rfl,hfo,hfw⟩
theorem eff_out {W:World} {B bb n nc cc sc:Nat} {fa ca SA:Option Addr} {rs:List Q.Raw} {r:Q.Raw} {cells:List Int} {s:Q.Stk} (arg imm:Int) (h:BR W B bb fa n nc rs r ca cc cells) (hB:B≤W.heap.size) (hs:Reads W B 1 SA s.length (u8c s)) (hsl:s.length≤100000) (hsb:∀ x ∈ s,0≤x∧x≤255) (hn:1≤s.length) :
  Calls Try.prog 61 #[.pointer (some ⟨bb,0,none⟩),.agg #[.int .u8 29,.int .i64 arg,.int .u64 imm],.slice SA s.length sc] W (EffPost W (effB (Q.fns rs) r.fn cells ⟨29,arg,imm⟩ s)):=by
 obtain ⟨m,hm⟩:∃ m,m=effB (Q.fns rs) r.fn cells ⟨29,arg,imm⟩ s:=⟨_,rfl⟩
 obtain ⟨q,hq⟩:∃ q,q=s.length-1:=⟨_,rfl⟩
 have hmv:m=ndB 17 0 ((topB r.fn s 1).getD 0 0):=by
  rw [hm]
  (try rw [hq])
  simp [effB,takesB,topB_len]
 have HV:=Lib.hid hmv
 rw [← hm]
 have HT:Hid (∀ wr,Below W.heap.size W wr→Calls Try.prog 82 #[.pointer (some ⟨bb,0,none⟩),.agg #[.int .u8 29,.int .i64 arg,.int .u64 imm]] wr fun e w'=>e=.returned (.int .i64 1)∧Below wr.heap.size wr w'):=Lib.hid fun wr hb=>takes_plain bb 29 arg imm 1 wr (.inr (.inl ⟨rfl,.inr (.inr (.inr (.inr (.inl rfl))))⟩))
 have HTOP:Hid (∀ wr,Below W.heap.size W wr→Calls Try.prog 81 #[.pointer (some ⟨bb,0,none⟩),.slice SA s.length sc,.int .i64 1] wr fun e w'=>∃ A c,e=.returned (.slice A 1 c)∧w'.ownsRow wr.heap.size 3 1 (.slice A 1 c) 1 (i64c (topB r.fn s 1))∧Below wr.heap.size wr w'):=Lib.hid fun wr hb=>by
  have h':=h.below (hb.mono hB)
  have hz:=hb.size
  exact top_any bb B r.fn r.lo r.lc s SA sc 1 wr h'.c2 (by have:=h.lt;omega) (hs.below (hb.mono hB)) (by omega) h.ll hsl (by omega) hsb
 obtain ⟨L,hL⟩:∃ L:Nat,L=r.fn.locals.length:=⟨_,rfl⟩
 have HWD:Hid (∀ wr,Below W.heap.size W wr→∀ (d:Nat) (k:Int),d≤1000000→0≤k∧k≤255→Calls Try.prog 83 #[.pointer (some ⟨bb,0,none⟩),.int .i64 d,.int .u8 k] wr fun e w'=>e=.returned (.int .i64 ((L:Int)+2*d+k))∧w'=wr):=Lib.hid fun wr hb d k hd hk=>by
  have h':=h.below (hb.mono hB)
  rw [hL]
  exact word_any bb r.lo r.fn.locals.length r.lc d k wr h'.c2 (by have:=h.ll;omega) hd hk
 have gq:(s.length:Int)-1=(q:Int):=by omega
 have gqw:IntKind.i64.wrap (q:Int)=(q:Int):=bi64 (by omega)
 have HQ:Hid (q≤100000):=Lib.hid (by omega)
 obtain ⟨left,hleft⟩:∃ left:Int,left=(L:Int)+2*(q:Int):=⟨_,rfl⟩
 have HLF:=Lib.hid hleft
 obtain ⟨x0,hx0⟩:∃ x,x=(topB r.fn s 1).getD 0 0:=⟨_,rfl⟩
 have HX0:=Lib.hid hx0
 have HXC0:Hid ((topB r.fn s 1)[0]?=some x0):=Lib.hid (by rw [hx0];exact list_at (by rw [topB_len];omega))
 clear hx0
 have HBR:=Lib.hid h
 have HS:=Lib.hid hs
 have HLL:=Lib.hid hL
 have HQQ:=Lib.hid hq
 have hB0:Below W.heap.size W ((W.alloc (.cells #[.int .u8 29,.int .i64 arg,.int .u64 imm] 52)).alloc (.cells zero12 70)):=((Below.refl _ _).alloc (Nat.le_refl _) _).alloc (by simp) _
 have hI0:Blk ((W.alloc (.cells #[.int .u8 29,.int .i64 arg,.int .u64 imm] 52)).alloc (.cells zero12 70)) W.heap.size 52 #[.int .u8 29,.int .i64 arg,.int .u64 imm]:=(Blk.new W _ _).alloc _
 have hZ0:Blk ((W.alloc (.cells #[.int .u8 29,.int .i64 arg,.int .u64 imm] 52)).alloc (.cells zero12 70)) (W.heap.size+1) 70 zero12:=by
  have h1:=Blk.new (W.alloc (.cells #[.int .u8 29,.int .i64 arg,.int .u64 imm] 52)) 70 zero12
  rw [show (W.alloc (.cells #[.int .u8 29,.int .i64 arg,.int .u64 imm] 52)).heap.size=W.heap.size+1 by simp] at h1
  exact h1
 have HB0:=Lib.hid hB0
 have HI0:=Lib.hid hI0
 have HZ0:=Lib.hid hZ0
 simp only [zero12] at HB0 HI0 HZ0
 clear h hB hs hsb hm hmv hL hq hleft hB0 hI0 hZ0
 go_enter Try.func61,Try.ntmps61
 go_wp2_with (first
  | (go_at_call 82;refine (HT.out _ HB0.out).mono ?_;rintro e w1 ⟨rfl,hb1⟩;have HB1:=Lib.hid (HB0.out.trans (hb1.mono HB0.out.size));have HI1:=Lib.hid (HI0.out.below hb1 HI0.out.lt);have HZ1:=Lib.hid (HZ0.out.below hb1 HZ0.out.lt);clear hb1)
  | (go_at_call 81;refine (HTOP.out _ HB1.out).mono ?_;rintro e w2 ⟨A,c,rfl,hown,hb2⟩;have HOW:=Lib.hid (own_more hown HB1.out.size);have HB2:=Lib.hid (HB1.out.trans (hb2.mono HB1.out.size));have HI2:=Lib.hid (HI1.out.below hb2 HI1.out.lt);have HZ2:=Lib.hid (HZ1.out.below hb2 HZ1.out.lt);clear hown hb2)
  | (go_at_call 83;refine (HWD.out _ HB2.out q 0 (by have:=HQ.out;omega) (by omega)).mono ?_;rintro e w3 ⟨rfl,rfl⟩;refine Hid.out ?_))
 obtain ⟨b,off,rfl,hbl,hct⟩:=(Reads.of_own HOW.out).lit (by omega) (by omega)
 have t0:w3.cell? ⟨b,off,none⟩=some (.int .i64 x0):=by
  have:=hct 0 _ (i64c_at HXC0.out)
  simpa using this
 have i0:w3.cell? ⟨W.heap.size,0,none⟩=some (.int .u8 29):=HI2.out.cell 0
 have i1:w3.cell? ⟨W.heap.size,1,none⟩=some (.int .i64 arg):=HI2.out.cell 1
 have i2:w3.cell? ⟨W.heap.size,2,none⟩=some (.int .u64 imm):=HI2.out.cell 2
 have z0:w3.cell? ⟨W.heap.size+1,0,none⟩=some (.int .u8 0):=HZ2.out.cell 0
 have z1:w3.cell? ⟨W.heap.size+1,1,none⟩=some (.int .u8 0):=HZ2.out.cell 1
 have z2:w3.cell? ⟨W.heap.size+1,2,none⟩=some (.int .i64 0):=HZ2.out.cell 2
 have z3:w3.cell? ⟨W.heap.size+1,3,none⟩=some (.int .i64 0):=HZ2.out.cell 3
 have z4:w3.cell? ⟨W.heap.size+1,4,none⟩=some (.int .i64 0):=HZ2.out.cell 4
 have z5:w3.cell? ⟨W.heap.size+1,5,none⟩=some (.int .i64 0):=HZ2.out.cell 5
 have z6:w3.cell? ⟨W.heap.size+1,6,none⟩=some (.int .i64 0):=HZ2.out.cell 6
 have z7:w3.cell? ⟨W.heap.size+1,7,none⟩=some (.int .i64 0):=HZ2.out.cell 7
 have z8:w3.cell? ⟨W.heap.size+1,8,none⟩=some (.int .u64 0):=HZ2.out.cell 8
 have z9:w3.cell? ⟨W.heap.size+1,9,none⟩=some (.slice none 0 0):=HZ2.out.cell 9
 have z10:w3.cell? ⟨W.heap.size+1,10,none⟩=some (.int .i64 0):=HZ2.out.cell 10
 have z11:w3.cell? ⟨W.heap.size+1,11,none⟩=some (.int .i64 0):=HZ2.out.cell 11
 have zf:∀ i,w3.frozen? ⟨W.heap.size+1,i,none⟩=false:=fun i=>HZ2.out.frozen i
 have gl:(L:Int)+2*(q:Int)=left:=HLF.out.symm
 refine Lib.hid ?_
 go_wp2
 refine (fun (hg:∀ wf,wf=ndSet w3 (W.heap.size+1) ⟨17,0,0,0,x0,0,0,0,0,[],0,0⟩ none 0 0→bodyPost _ _ _ _ _ wf)=>hg _ rfl) ?_
 intro wf hwf
 have hfb:Blk wf (W.heap.size+1) 70 (ndC ⟨17,0,0,0,x0,0,0,0,0,[],0,0⟩ none 0 0):=by rw [hwf];exact ndSet_blk _ _ _ _ HZ2.out
 have hfw:Below W.heap.size W wf:=by rw [hwf];exact ndSet_below _ _ _ _ HB2.out (by omega)
 have hfo:wf.ownsRow W.heap.size 3 1 (.slice none 0 0) 0 (i64c (⟨17,0,0,0,x0,0,0,0,0,[],0,0⟩:Nd).args):=by rw [hwf];exact own_none _ _ _ _
 have e0:=hfb.cell 0
 have e1:=hfb.cell 1
 have e2:=hfb.cell 2
 have e3:=hfb.cell 3
 have e4:=hfb.cell 4
 have e5:=hfb.cell 5
 have e6:=hfb.cell 6
 have e7:=hfb.cell 7
 have e8:=hfb.cell 8
 have e9:=hfb.cell 9
 have e10:=hfb.cell 10
 have e11:=hfb.cell 11
 simp only [ndC,List.getElem?_toArray,List.getElem?_cons_succ,List.getElem?_cons_zero] at e0 e1 e2 e3 e4 e5 e6 e7 e8 e9 e10 e11
 clear hwf
 have hnode:=HV.out
 refine bodyPost_ret (v:=ndV ⟨17,0,0,0,x0,0,0,0,0,[],0,0⟩ none 0) (by simp [results,Try.results61,go_sem,ndV,topB_len,e0,e1,e2,e3,e4,e5,e6,e7,e8,e9,e10,e11]) rfl ?_
 have hnd:m=⟨17,0,0,0,x0,0,0,0,0,[],0,0⟩:=by
  rw [HV.out]
  simp [ndB,HX0.out]
 rw [hnd]
 exact ⟨_,_,rfl,hfo,hfw⟩
end Go.Proofs.Ytgekmjkfnhogkaa
