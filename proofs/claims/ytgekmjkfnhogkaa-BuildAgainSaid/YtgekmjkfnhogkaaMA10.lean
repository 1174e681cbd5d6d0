/-
  Texts of one seat, one behind the other: BEx, BEy, BEz, BEny.
-/
import Derived.BigQuiet
import Derived.StillTailTactics
import Derived.Test.YtgekmjkfnhogkaaMA3
import Derived.Test.YtgekmjkfnhogkaaMA7
import Derived.Test.YtgekmjkfnhogkaaMA8
import Derived.Test.YtgekmjkfnhogkaaMA9

set_option linter.unusedVariables false
set_option linter.unusedSimpArgs false
set_option maxRecDepth 100000
set_option maxHeartbeats 51200000
namespace Go.Proofs.Ytgekmjkfnhogkaa
open Go.ChangeShapes Go.WideShapes Go.ChangeAt Go.RowKit
theorem eff_exit {W:World} {B bb n nc cc sc:Nat} {fa ca SA:Option Addr} {rs:List Q.Raw} {r:Q.Raw} {cells:List Int} {s:Q.Stk} (arg imm:Int) (h:BR W B bb fa n nc rs r ca cc cells) (hB:B≤W.heap.size) (hs:Reads W B 1 SA s.length (u8c s)) (hsl:s.length≤100000) (hsb:∀ x ∈ s,0≤x∧x≤255) (hn:1≤s.length) :
  Calls Try.prog 61 #[.pointer (some ⟨bb,0,none⟩),.agg #[.int .u8 30,.int .i64 arg,.int .u64 imm],.slice SA s.length sc] W (EffPost W (effB (Q.fns rs) r.fn cells ⟨30,arg,imm⟩ s)):=by
 obtain ⟨m,hm⟩:∃ m,m=effB (Q.fns rs) r.fn cells ⟨30,arg,imm⟩ s:=⟨_,rfl⟩
 obtain ⟨q,hq⟩:∃ q,q=s.length-1:=⟨_,rfl⟩
 have hmv:m=ndB 18 0 ((topB r.fn s 1).getD 0 0):=by
  rw [hm]
  (try rw [hq])
  simp [effB,takesB,topB_len]
 have HV:=Lib.hid hmv
 rw [← hm]
 have HT:Hid (∀ wr,Below W.heap.size W wr→Calls Try.prog 82 #[.pointer (some ⟨bb,0,none⟩),.agg #[.int .u8 30,.int .i64 arg,.int .u64 imm]] wr fun e w'=>e=.returned (.int .i64 1)∧Below wr.heap.size wr w'):=Lib.hid fun wr hb=>takes_plain bb 30 arg imm 1 wr (.inr (.inl ⟨rfl,.inr (.inr (.inr (.inr (.inr (.inl rfl)))))⟩))
 have HTOP:Hid (∀ wr,Below W.heap.size W wr→Calls Try.prog 81 #[.pointer (some ⟨bb,0,none⟩),.slice SA s.length sc,.int .i64 1] wr fun e w'=>∃ A c,e=.returned (.slice A 1 c)∧w'.ownsRow wr.heap.size 3 1 (.slice A 1 c) 1 (i64c (topB r.fn s 1))∧Below wr.heap.size wr w'):=Lib.hid fun wr hb=>by
  have h':=h.below (hb.mono hB)
  have hz:=hb.size
  exact top_any bb B r.fn r.lo r.lc s SA sc 1 wr h'.c2 (by have:=h.lt;omega) (hs.below (hb.mono hB)) (by omega) h.ll hsl (by omega) hsb
 obtain ⟨L,hL⟩:∃ L:Nat,L=r.fn.locals.length:=⟨_,rfl⟩
 have HWD:Hid (∀ wr,Below W.heap.size W wr→∀ (d:Nat) (k:Int),d≤1000000→0≤k∧k≤255→Calls Try.prog 83 #[.pointer (some ⟨bb,0,none⟩),.int .i64 d,.int .u8 k] wr fun e w'=>e=.returned (.int .i64 ((L:Int)+2*d+k))∧w'=wr):=Lib.hid fun wr hb d k hd hk=>by
  have h':=h.below (hb.mono hB)
  rw [hL]
  exact word_any bb r.lo r.fn.locals.length r.lc d k wr h'.c2 (by have:=h.ll;omega) hd hk
 have gq:(s.length:Int)-1=(q:Int):=by omega
 have gqw:IntKind.i64.wrap (q:Int)=(q:Int):=bi64 (by omega)
 have HQ:Hid (q≤100000):=Lib.hid (by omega)
 obtain ⟨left,hleft⟩:∃ left:Int,left=(L:Int)+2*(q:Int):=⟨_,rfl⟩
 have HLF:=Lib.hid hleft
 obtain ⟨x0,hx0⟩:∃ x,x=(topB r.fn s 1).getD 0 0:=⟨_,rfl⟩
 have HX0:=Lib.hid hx0
 have HXC0:Hid ((topB r.fn s 1)[0]?=some x0):=Lib.hid (by rw [hx0];exact list_at (by rw [topB_len];omega))
 clear hx0
 have HBR:=Lib.hid h
 have HS:=Lib.hid hs
 have HLL:=Lib.hid hL
 have HQQ:=Lib.hid hq
 have hB0:Below W.heap.size W ((W.alloc (.cells #[.int .u8 30,.int .i64 arg,.int .u64 imm] 52)).alloc (.cells zero12 70)):=((Below.refl _ _).alloc (Nat.le_refl _) _).alloc (by simp) _
 have hI0:Blk ((W.alloc (.cells #[.int .u8 30,.int .i64 arg,.int .u64 imm] 52)).alloc (.cells zero12 70)) W.heap.size 52 #[.int .u8 30,.int .i64 arg,.int .u64 imm]:=(Blk.new W _ _).alloc _
 have hZ0:Blk ((W.alloc (.cells #[.int .u8 30,.int .i64 arg,.int .u64 imm] 52)).alloc (.cells zero12 70)) (W.heap.size+1) 70 zero12:=by
  have h1:=Blk.new (W.alloc (.cells #[.int .u8 30,.int .i64 arg,.int .u64 imm] 52)) 70 zero12
  rw [show (W.alloc (.cells #[.int .u8 30,.int .i64 arg,.int .u64 imm] 52)).heap.size=W.heap.size+1 by simp] at h1
  exact h1
 have HB0:=Lib.hid hB0
 have HI0:=Lib.hid hI0
 have HZ0:=Lib.hid hZ0
 simp only [zero12] at HB0 HI0 HZ0
 clear h hB hs hsb hm hmv hL hq hleft hB0 hI0 hZ0
 go_enter Try.func61,Try.ntmps61
 go_wp2_with (first
  | (go_at_call 82;refine (HT.out _ HB0.out).mono ?_;rintro e w1 ⟨rfl,hb1⟩;have HB1:=Lib.hid (HB0.out.trans (hb1.mono HB0.out.size));have HI1:=Lib.hid (HI0.out.below hb1 HI0.out.lt);have HZ1:=Lib.hid (HZ0.out.below hb1 HZ0.out.lt);clear hb1)
  | (go_at_call 81;refine (HTOP.out _ HB1.out).mono ?_;rintro e w2 ⟨A,c,rfl,hown,hb2⟩;have HOW:=Lib.hid (own_more hown HB1.out.size);have HB2:=Lib.hid (HB1.out.trans (hb2.mono HB1.out.size));have HI2:=Lib.hid (HI1.out.below hb2 HI1.out.lt);have HZ2:=Lib.hid (HZ1.out.below hb2 HZ1.out.lt);clear hown hb2)
  | (go_at_call 83;refine (HWD.out _ HB2.out q 0 (by have:=HQ.out;omega) (by omega)).mono ?_;rintro e w3 ⟨rfl,rfl⟩;refine Hid.out ?_))
 obtain ⟨b,off,rfl,hbl,hct⟩:=(Reads.of_own HOW.out).lit (by omega) (by omega)
 have t0:w3.cell? ⟨b,off,none⟩=some (.int .i64 x0):=by
  have:=hct 0 _ (i64c_at HXC0.out)
  simpa using this
 have i0:w3.cell? ⟨W.heap.size,0,none⟩=some (.int .u8 30):=HI2.out.cell 0
 have i1:w3.cell? ⟨W.heap.size,1,none⟩=some (.int .i64 arg):=HI2.out.cell 1
 have i2:w3.cell? ⟨W.heap.size,2,none⟩=some (.int .u64 imm):=HI2.out.cell 2
 have z0:w3.cell? ⟨W.heap.size+1,0,none⟩=some (.int .u8 0):=HZ2.out.cell 0
 have z1:w3.cell? ⟨W.heap.size+1,1,none⟩=some (.int .u8 0):=HZ2.out.cell 1
 have z2:w3.cell? ⟨W.heap.size+1,2,none⟩=some (.int .i64 0):=HZ2.out.cell 2
 have z3:w3.cell? ⟨W.heap.size+1,3,none⟩=some (.int .i64 0):=HZ2.out.cell 3
 have z4:w3.cell? ⟨W.heap.size+1,4,none⟩=some (.int .i64 0):=HZ2.out.cell 4
 have z5:w3.cell? ⟨W.heap.size+1,5,none⟩=some (.int .i64 0):=HZ2.out.cell 5
 have z6:w3.cell? ⟨W.heap.size+1,6,none⟩=some (.int .i64 0):=HZ2.out.cell 6
 have z7:w3.cell? ⟨W.heap.size+1,7,none⟩=some (.int .i64 0):=HZ2.out.cell 7
 have z8:w3.cell? ⟨W.heap.size+1,8,none⟩=some (.int .u64 0):=HZ2.out.cell 8
 have z9:w3.cell? ⟨W.heap.size+1,9,none⟩=some (.slice none 0 0):=HZ2.out.cell 9
 have z10:w3.cell? ⟨W.heap.size+1,10,none⟩=some (.int .i64 0):=HZ2.out.cell 10
 have z11:w3.cell? ⟨W.heap.size+1,11,none⟩=some (.int .i64 0):=HZ2.out.cell 11
 have zf:∀ i,w3.frozen? ⟨W.heap.size+1,i,none⟩=false:=fun i=>HZ2.out.frozen i
 have gl:(L:Int)+2*(q:Int)=left:=HLF.out.symm
 refine Lib.hid ?_
 go_wp2
 refine (fun (hg:∀ wf,wf=ndSet w3 (W.heap.size+1) ⟨18,0,0,0,x0,0,0,0,0,[],0,0⟩ none 0 0→bodyPost _ _ _ _ _ wf)=>hg _ rfl) ?_
 intro wf hwf
 have hfb:Blk wf (W.heap.size+1) 70 (ndC ⟨18,0,0,0,x0,0,0,0,0,[],0,0⟩ none 0 0):=by rw [hwf];exact ndSet_blk _ _ _ _ HZ2.out
 have hfw:Below W.heap.size W wf:=by rw [hwf];exact ndSet_below _ _ _ _ HB2.out (by omega)
 have hfo:wf.ownsRow W.heap.size 3 1 (.slice none 0 0) 0 (i64c (⟨18,0,0,0,x0,0,0,0,0,[],0,0⟩:Nd).args):=by rw [hwf];exact own_none _ _ _ _
 have e0:=hfb.cell 0
 have e1:=hfb.cell 1
 have e2:=hfb.cell 2
 have e3:=hfb.cell 3
 have e4:=hfb.cell 4
 have e5:=hfb.cell 5
 have e6:=hfb.cell 6
 have e7:=hfb.cell 7
 have e8:=hfb.cell 8
 have e9:=hfb.cell 9
 have e10:=hfb.cell 10
 have e11:=hfb.cell 11
 simp only [ndC,List.getElem?_toArray,List.getElem?_cons_succ,List.getElem?_cons_zero] at e0 e1 e2 e3 e4 e5 e6 e7 e8 e9 e10 e11
 clear hwf
 have hnode:=HV.out
 refine bodyPost_ret (v:=ndV ⟨18,0,0,0,x0,0,0,0,0,[],0,0⟩ none 0) (by simp [results,Try.results61,go_sem,ndV,topB_len,e0,e1,e2,e3,e4,e5,e6,e7,e8,e9,e10,e11]) rfl ?_
 have hnd:m=⟨18,0,0,0,x0,0,0,0,0,[],0,0⟩:=by
  rw [HV.out]
  simp [ndB,HX0.out]
 rw [hnd]
 exact ⟨_,_,rfl,hfo,hfw⟩
theorem eff_dup {W:World} {B bb n nc cc sc:Nat} {fa ca SA:Option Addr} {rs:List Q.Raw} {r:Q.Raw} {cells:List Int} {s:Q.Stk} (arg imm:Int) (h:BR W B bb fa n nc rs r ca cc cells) (hB:B≤W.heap.size) (hs:Reads W B 1 SA s.length (u8c s)) (hsl:s.length≤100000) (hsb:∀ x ∈ s,0≤x∧x≤255) (hn:1≤s.length) :
  Calls Try.prog 61 #[.pointer (some ⟨bb,0,none⟩),.agg #[.int .u8 32,.int .i64 arg,.int .u64 imm],.slice SA s.length sc] W (EffPost W (effB (Q.fns rs) r.fn cells ⟨32,arg,imm⟩ s)):=by
 obtain ⟨m,hm⟩:∃ m,m=effB (Q.fns rs) r.fn cells ⟨32,arg,imm⟩ s:=⟨_,rfl⟩
 obtain ⟨q,hq⟩:∃ q,q=s.length-1:=⟨_,rfl⟩
 have hmv:m=ndB 2 (wordB r.fn (q+1) (s.getD q 0)) ((topB r.fn s 1).getD 0 0):=by
  rw [hm]
  (try rw [hq])
  simp [effB,takesB,topB_len]
 have HV:=Lib.hid hmv
 rw [← hm]
 have HT:Hid (∀ wr,Below W.heap.size W wr→Calls Try.prog 82 #[.pointer (some ⟨bb,0,none⟩),.agg #[.int .u8 32,.int .i64 arg,.int .u64 imm]] wr fun e w'=>e=.returned (.int .i64 1)∧Below wr.heap.size wr w'):=Lib.hid fun wr hb=>takes_plain bb 32 arg imm 1 wr (.inr (.inl ⟨rfl,.inr (.inr (.inr (.inr (.inr (.inr (.inr (rfl)))))))⟩))
 have HTOP:Hid (∀ wr,Below W.heap.size W wr→Calls Try.prog 81 #[.pointer (some ⟨bb,0,none⟩),.slice SA s.length sc,.int .i64 1] wr fun e w'=>∃ A c,e=.returned (.slice A 1 c)∧w'.ownsRow wr.heap.size 3 1 (.slice A 1 c) 1 (i64c (topB r.fn s 1))∧Below wr.heap.size wr w'):=Lib.hid fun wr hb=>by
  have h':=h.below (hb.mono hB)
  have hz:=hb.size
  exact top_any bb B r.fn r.lo r.lc s SA sc 1 wr h'.c2 (by have:=h.lt;omega) (hs.below (hb.mono hB)) (by omega) h.ll hsl (by omega) hsb
 obtain ⟨L,hL⟩:∃ L:Nat,L=r.fn.locals.length:=⟨_,rfl⟩
 have HWD:Hid (∀ wr,Below W.heap.size W wr→∀ (d:Nat) (k:Int),d≤1000000→0≤k∧k≤255→Calls Try.prog 83 #[.pointer (some ⟨bb,0,none⟩),.int .i64 d,.int .u8 k] wr fun e w'=>e=.returned (.int .i64 ((L:Int)+2*d+k))∧w'=wr):=Lib.hid fun wr hb d k hd hk=>by
  have h':=h.below (hb.mono hB)
  rw [hL]
  exact word_any bb r.lo r.fn.locals.length r.lc d k wr h'.c2 (by have:=h.ll;omega) hd hk
 have gq:(s.length:Int)-1=(q:Int):=by omega
 have gqw:IntKind.i64.wrap (q:Int)=(q:Int):=bi64 (by omega)
 have HQ:Hid (q≤100000):=Lib.hid (by omega)
 obtain ⟨left,hleft⟩:∃ left:Int,left=(L:Int)+2*(q:Int):=⟨_,rfl⟩
 have HLF:=Lib.hid hleft
 obtain ⟨x0,hx0⟩:∃ x,x=(topB r.fn s 1).getD 0 0:=⟨_,rfl⟩
 have HX0:=Lib.hid hx0
 have HXC0:Hid ((topB r.fn s 1)[0]?=some x0):=Lib.hid (by rw [hx0];exact list_at (by rw [topB_len];omega))
 clear hx0
 obtain ⟨sb,so,kx,rfl,hsb1,HKX,kx1⟩:=hs.byte (k:=q) (by omega)
 have HKQ:Hid (s.getD q 0=kx):=Lib.hid (by rw [List.getD_eq_getElem?_getD,HKX.out];rfl)
 have HKB:=Lib.hid (hsb kx (List.mem_of_getElem? HKX.out))
 obtain ⟨lf2,hl2⟩:∃ y:Int,y=(L:Int)+2*((q+1:Nat):Int)+kx:=⟨_,rfl⟩
 have HL2:=Lib.hid hl2
 have gq1:IntKind.i64.wrap ((q:Int)+1)=((q+1:Nat):Int):=by
  rw [show (q:Int)+1=((q+1:Nat):Int) by omega]
  exact bi64 (by omega)
 have hqs:q<s.length:=by omega
 have HKX1:=Lib.hid kx1
 have HCB:=Lib.hid (show sb<W.heap.size by omega)
 clear hl2 kx1 HKX
 have HBR:=Lib.hid h
 have HS:=Lib.hid hs
 have HLL:=Lib.hid hL
 have HQQ:=Lib.hid hq
 have hB0:Below W.heap.size W ((W.alloc (.cells #[.int .u8 32,.int .i64 arg,.int .u64 imm] 52)).alloc (.cells zero12 70)):=((Below.refl _ _).alloc (Nat.le_refl _) _).alloc (by simp) _
 have hI0:Blk ((W.alloc (.cells #[.int .u8 32,.int .i64 arg,.int .u64 imm] 52)).alloc (.cells zero12 70)) W.heap.size 52 #[.int .u8 32,.int .i64 arg,.int .u64 imm]:=(Blk.new W _ _).alloc _
 have hZ0:Blk ((W.alloc (.cells #[.int .u8 32,.int .i64 arg,.int .u64 imm] 52)).alloc (.cells zero12 70)) (W.heap.size+1) 70 zero12:=by
  have h1:=Blk.new (W.alloc (.cells #[.int .u8 32,.int .i64 arg,.int .u64 imm] 52)) 70 zero12
  rw [show (W.alloc (.cells #[.int .u8 32,.int .i64 arg,.int .u64 imm] 52)).heap.size=W.heap.size+1 by simp] at h1
  exact h1
 have HB0:=Lib.hid hB0
 have HI0:=Lib.hid hI0
 have HZ0:=Lib.hid hZ0
 simp only [zero12] at HB0 HI0 HZ0
 clear h hB hs hsb hm hmv hL hq hleft hB0 hI0 hZ0
 go_enter Try.func61,Try.ntmps61
 go_wp2_with (first
  | (go_at_call 82;refine (HT.out _ HB0.out).mono ?_;rintro e w1 ⟨rfl,hb1⟩;have HB1:=Lib.hid (HB0.out.trans (hb1.mono HB0.out.size));have HI1:=Lib.hid (HI0.out.below hb1 HI0.out.lt);have HZ1:=Lib.hid (HZ0.out.below hb1 HZ0.out.lt);clear hb1)
  | (go_at_call 81;refine (HTOP.out _ HB1.out).mono ?_;rintro e w2 ⟨A,c,rfl,hown,hb2⟩;have HOW:=Lib.hid (own_more hown HB1.out.size);have HB2:=Lib.hid (HB1.out.trans (hb2.mono HB1.out.size));have HI2:=Lib.hid (HI1.out.below hb2 HI1.out.lt);have HZ2:=Lib.hid (HZ1.out.below hb2 HZ1.out.lt);clear hown hb2)
  | (go_at_call 83;refine (HWD.out _ HB2.out q 0 (by have:=HQ.out;omega) (by omega)).mono ?_;rintro e w3 ⟨rfl,rfl⟩;refine Hid.out ?_))
 obtain ⟨b,off,rfl,hbl,hct⟩:=(Reads.of_own HOW.out).lit (by omega) (by omega)
 have t0:w3.cell? ⟨b,off,none⟩=some (.int .i64 x0):=by
  have:=hct 0 _ (i64c_at HXC0.out)
  simpa using this
 have i0:w3.cell? ⟨W.heap.size,0,none⟩=some (.int .u8 32):=HI2.out.cell 0
 have i1:w3.cell? ⟨W.heap.size,1,none⟩=some (.int .i64 arg):=HI2.out.cell 1
 have i2:w3.cell? ⟨W.heap.size,2,none⟩=some (.int .u64 imm):=HI2.out.cell 2
 have z0:w3.cell? ⟨W.heap.size+1,0,none⟩=some (.int .u8 0):=HZ2.out.cell 0
 have z1:w3.cell? ⟨W.heap.size+1,1,none⟩=some (.int .u8 0):=HZ2.out.cell 1
 have z2:w3.cell? ⟨W.heap.size+1,2,none⟩=some (.int .i64 0):=HZ2.out.cell 2
 have z3:w3.cell? ⟨W.heap.size+1,3,none⟩=some (.int .i64 0):=HZ2.out.cell 3
 have z4:w3.cell? ⟨W.heap.size+1,4,none⟩=some (.int .i64 0):=HZ2.out.cell 4
 have z5:w3.cell? ⟨W.heap.size+1,5,none⟩=some (.int .i64 0):=HZ2.out.cell 5
 have z6:w3.cell? ⟨W.heap.size+1,6,none⟩=some (.int .i64 0):=HZ2.out.cell 6
 have z7:w3.cell? ⟨W.heap.size+1,7,none⟩=some (.int .i64 0):=HZ2.out.cell 7
 have z8:w3.cell? ⟨W.heap.size+1,8,none⟩=some (.int .u64 0):=HZ2.out.cell 8
 have z9:w3.cell? ⟨W.heap.size+1,9,none⟩=some (.slice none 0 0):=HZ2.out.cell 9
 have z10:w3.cell? ⟨W.heap.size+1,10,none⟩=some (.int .i64 0):=HZ2.out.cell 10
 have z11:w3.cell? ⟨W.heap.size+1,11,none⟩=some (.int .i64 0):=HZ2.out.cell 11
 have zf:∀ i,w3.frozen? ⟨W.heap.size+1,i,none⟩=false:=fun i=>HZ2.out.frozen i
 have gl:(L:Int)+2*(q:Int)=left:=HLF.out.symm
 refine Lib.hid ?_
 have k9:w3.cell? ⟨sb,so+q,none⟩=some (.int .u8 kx):=(HB2.out.cell (p:=⟨sb,so+q,none⟩) HCB.out).trans HKX1.out
 have HW2:=Lib.hid (HWD.out w3.drew HB2.out.drew (q+1) kx (by have:=HQ.out;omega) HKB.out)
 rw [← HL2.out] at HW2
 go_wp2
 refine wp_region_still_tail 12 (by kernel_rfl) (by kernel_rfl) ?_
 simp only [List.take_succ_cons,List.take_zero,List.drop_succ_cons,List.drop_zero]
 still_step
 still_step
 still_step
 still_step
 still_step
 still_step
 still_step
 still_call (HW2.out)
 repeat still_step
 refine wpStill_nil ?_
 change wpList _ _ _ _ _ w3.drew
 obtain ⟨w4,hw4⟩:∃ w4,w3.drew=w4:=⟨_,rfl⟩
 have HZ4:Hid (Blk w4 (W.heap.size+1) 70 zero12):=Lib.hid (by rw [← hw4];exact HZ2.out)
 have HB4:Hid (Below W.heap.size W w4):=Lib.hid (by rw [← hw4];exact HB2.out.drew)
 rw [hw4]
 clear hw4 z0 z1 z2 z3 z4 z5 z6 z7 z8 z9 z10 z11 zf
 have z0:w4.cell? ⟨W.heap.size+1,0,none⟩=some (.int .u8 0):=HZ4.out.cell 0
 have z1:w4.cell? ⟨W.heap.size+1,1,none⟩=some (.int .u8 0):=HZ4.out.cell 1
 have z2:w4.cell? ⟨W.heap.size+1,2,none⟩=some (.int .i64 0):=HZ4.out.cell 2
 have z3:w4.cell? ⟨W.heap.size+1,3,none⟩=some (.int .i64 0):=HZ4.out.cell 3
 have z4:w4.cell? ⟨W.heap.size+1,4,none⟩=some (.int .i64 0):=HZ4.out.cell 4
 have z5:w4.cell? ⟨W.heap.size+1,5,none⟩=some (.int .i64 0):=HZ4.out.cell 5
 have z6:w4.cell? ⟨W.heap.size+1,6,none⟩=some (.int .i64 0):=HZ4.out.cell 6
 have z7:w4.cell? ⟨W.heap.size+1,7,none⟩=some (.int .i64 0):=HZ4.out.cell 7
 have z8:w4.cell? ⟨W.heap.size+1,8,none⟩=some (.int .u64 0):=HZ4.out.cell 8
 have z9:w4.cell? ⟨W.heap.size+1,9,none⟩=some (.slice none 0 0):=HZ4.out.cell 9
 have z10:w4.cell? ⟨W.heap.size+1,10,none⟩=some (.int .i64 0):=HZ4.out.cell 10
 have z11:w4.cell? ⟨W.heap.size+1,11,none⟩=some (.int .i64 0):=HZ4.out.cell 11
 have zf:∀ i,w4.frozen? ⟨W.heap.size+1,i,none⟩=false:=fun i=>HZ4.out.frozen i
 go_wp2
 refine (fun (hg:∀ wf,wf=ndSet w4 (W.heap.size+1) ⟨2,0,lf2,0,x0,0,0,0,0,[],0,0⟩ none 0 0→bodyPost _ _ _ _ _ wf)=>hg _ rfl) ?_
 intro wf hwf
 have hfb:Blk wf (W.heap.size+1) 70 (ndC ⟨2,0,lf2,0,x0,0,0,0,0,[],0,0⟩ none 0 0):=by rw [hwf];exact ndSet_blk _ _ _ _ HZ4.out
 have hfw:Below W.heap.size W wf:=by rw [hwf];exact ndSet_below _ _ _ _ HB4.out (by omega)
 have hfo:wf.ownsRow W.heap.size 3 1 (.slice none 0 0) 0 (i64c (⟨2,0,lf2,0,x0,0,0,0,0,[],0,0⟩:Nd).args):=by rw [hwf];exact own_none _ _ _ _
 have e0:=hfb.cell 0
 have e1:=hfb.cell 1
 have e2:=hfb.cell 2
 have e3:=hfb.cell 3
 have e4:=hfb.cell 4
 have e5:=hfb.cell 5
 have e6:=hfb.cell 6
 have e7:=hfb.cell 7
 have e8:=hfb.cell 8
 have e9:=hfb.cell 9
 have e10:=hfb.cell 10
 have e11:=hfb.cell 11
 simp only [ndC,List.getElem?_toArray,List.getElem?_cons_succ,List.getElem?_cons_zero] at e0 e1 e2 e3 e4 e5 e6 e7 e8 e9 e10 e11
 clear hwf
 have hnode:=HV.out
 refine bodyPost_ret (v:=ndV ⟨2,0,lf2,0,x0,0,0,0,0,[],0,0⟩ none 0) (by simp [results,Try.results61,go_sem,ndV,topB_len,e0,e1,e2,e3,e4,e5,e6,e7,e8,e9,e10,e11]) rfl ?_
 have hnd:m=⟨2,0,lf2,0,x0,0,0,0,0,[],0,0⟩:=by
  rw [HV.out]
  have hkq:=HKQ.out
  rw [List.getD_eq_getElem?_getD] at hkq
  simp [ndB,wordB,HL2.out,HLL.out,HX0.out,hkq]
 rw [hnd]
 exact ⟨_,_,rfl,hfo,hfw⟩
theorem eff_defer {W:World} {B bb n nc cc sc:Nat} {fa ca SA:Option Addr} {rs:List Q.Raw} {r:Q.Raw} {cells:List Int} {s:Q.Stk} (k p:Nat) (g':Q.Raw) (arg imm:Int) (h:BR W B bb fa n nc rs r ca cc cells) (hB:B≤W.heap.size) (hs:Reads W B 1 SA s.length (u8c s)) (hsl:s.length≤100000) (hsb:∀ x ∈ s,0≤x∧x≤255) (hal:arg=(k:Int)) (hkn:k<n) (hgk:rs[k]?=some g') (hp:g'.fn.params=(p:Int)) (hn:p≤s.length) :
  Calls Try.prog 61 #[.pointer (some ⟨bb,0,none⟩),.agg #[.int .u8 25,.int .i64 arg,.int .u64 imm],.slice SA s.length sc] W (EffPost W (effB (Q.fns rs) r.fn cells ⟨25,arg,imm⟩ s)):=by
 obtain ⟨fb,fo,g0,rfl,hfb,HG0,_,_,p0,_,p2,_,_⟩:=h.fs.fn (k:=k) hkn
 obtain rfl:g'=g0:=by have:=HG0.out;rw [hgk] at this;simpa using this
 have hfk:(Q.fns rs)[k]?=some g'.fn:=by unfold Q.fns;rw [List.getElem?_map,hgk];rfl
 obtain ⟨m,hm⟩:∃ m,m=effB (Q.fns rs) r.fn cells ⟨25,arg,imm⟩ s:=⟨_,rfl⟩
 obtain ⟨q,hq⟩:∃ q,q=s.length-p:=⟨_,rfl⟩
 have hmv:m={ ndB 13 0 0 with f:=arg,args:=topB r.fn s p }:=by
  rw [hm]
  (try rw [hq])
  simp [effB,takesB,hal,hfk,hp,topB_len]
 have HV:=Lib.hid hmv
 rw [← hm]
 have HT:Hid (∀ wr,Below W.heap.size W wr→Calls Try.prog 82 #[.pointer (some ⟨bb,0,none⟩),.agg #[.int .u8 25,.int .i64 arg,.int .u64 imm]] wr fun e w'=>e=.returned (.int .i64 (p:Int))∧Below wr.heap.size wr w'):=Lib.hid fun wr hb=>by
  have h':=h.below (hb.mono hB)
  have hz:=hb.size
  rw [← hp]
  exact takes_call bb fb fo n nc k 25 arg imm g'.fn.params wr (.inr rfl) h'.c0 (by have:=h.lt;omega) hkn hal ((hb.cell (p:=⟨fb,fo+k*5,none⟩) (by show fb<_;omega)).trans p0) (by omega) h.nl
 have HTOP:Hid (∀ wr,Below W.heap.size W wr→Calls Try.prog 81 #[.pointer (some ⟨bb,0,none⟩),.slice SA s.length sc,.int .i64 (p:Int)] wr fun e w'=>∃ A c,e=.returned (.slice A p c)∧w'.ownsRow wr.heap.size 3 1 (.slice A p c) p (i64c (topB r.fn s p))∧Below wr.heap.size wr w'):=Lib.hid fun wr hb=>by
  have h':=h.below (hb.mono hB)
  have hz:=hb.size
  exact top_any bb B r.fn r.lo r.lc s SA sc p wr h'.c2 (by have:=h.lt;omega) (hs.below (hb.mono hB)) (by omega) h.ll hsl (by omega) hsb
 obtain ⟨L,hL⟩:∃ L:Nat,L=r.fn.locals.length:=⟨_,rfl⟩
 have HWD:Hid (∀ wr,Below W.heap.size W wr→∀ (d:Nat) (k:Int),d≤1000000→0≤k∧k≤255→Calls Try.prog 83 #[.pointer (some ⟨bb,0,none⟩),.int .i64 d,.int .u8 k] wr fun e w'=>e=.returned (.int .i64 ((L:Int)+2*d+k))∧w'=wr):=Lib.hid fun wr hb d k hd hk=>by
  have h':=h.below (hb.mono hB)
  rw [hL]
  exact word_any bb r.lo r.fn.locals.length r.lc d k wr h'.c2 (by have:=h.ll;omega) hd hk
 have gq:(s.length:Int)-(p:Int)=(q:Int):=by omega
 have gqw:IntKind.i64.wrap (q:Int)=(q:Int):=bi64 (by omega)
 have HQ:Hid (q≤100000):=Lib.hid (by omega)
 obtain ⟨left,hleft⟩:∃ left:Int,left=(L:Int)+2*(q:Int):=⟨_,rfl⟩
 have HLF:=Lib.hid hleft
 have HAL:=Lib.hid hal
 clear hal hfk p0 p2 hp hgk
 have HBR:=Lib.hid h
 have HS:=Lib.hid hs
 have HLL:=Lib.hid hL
 have HQQ:=Lib.hid hq
 have hB0:Below W.heap.size W ((W.alloc (.cells #[.int .u8 25,.int .i64 arg,.int .u64 imm] 52)).alloc (.cells zero12 70)):=((Below.refl _ _).alloc (Nat.le_refl _) _).alloc (by simp) _
 have hI0:Blk ((W.alloc (.cells #[.int .u8 25,.int .i64 arg,.int .u64 imm] 52)).alloc (.cells zero12 70)) W.heap.size 52 #[.int .u8 25,.int .i64 arg,.int .u64 imm]:=(Blk.new W _ _).alloc _
 have hZ0:Blk ((W.alloc (.cells #[.int .u8 25,.int .i64 arg,.int .u64 imm] 52)).alloc (.cells zero12 70)) (W.heap.size+1) 70 zero12:=by
  have h1:=Blk.new (W.alloc (.cells #[.int .u8 25,.int .i64 arg,.int .u64 imm] 52)) 70 zero12
  rw [show (W.alloc (.cells #[.int .u8 25,.int .i64 arg,.int .u64 imm] 52)).heap.size=W.heap.size+1 by simp] at h1
  exact h1
 have HB0:=Lib.hid hB0
 have HI0:=Lib.hid hI0
 have HZ0:=Lib.hid hZ0
 simp only [zero12] at HB0 HI0 HZ0
 clear h hB hs hsb hm hmv hL hq hleft hB0 hI0 hZ0
 go_enter Try.func61,Try.ntmps61
 go_wp2_with (first
  | (go_at_call 82;refine (HT.out _ HB0.out).mono ?_;rintro e w1 ⟨rfl,hb1⟩;have HB1:=Lib.hid (HB0.out.trans (hb1.mono HB0.out.size));have HI1:=Lib.hid (HI0.out.below hb1 HI0.out.lt);have HZ1:=Lib.hid (HZ0.out.below hb1 HZ0.out.lt);clear hb1)
  | (go_at_call 81;refine (HTOP.out _ HB1.out).mono ?_;rintro e w2 ⟨A,c,rfl,hown,hb2⟩;have HOW:=Lib.hid (own_more hown HB1.out.size);have HB2:=Lib.hid (HB1.out.trans (hb2.mono HB1.out.size));have HI2:=Lib.hid (HI1.out.below hb2 HI1.out.lt);have HZ2:=Lib.hid (HZ1.out.below hb2 HZ1.out.lt);clear hown hb2)
  | (go_at_call 83;refine (HWD.out _ HB2.out q 0 (by have:=HQ.out;omega) (by omega)).mono ?_;rintro e w3 ⟨rfl,rfl⟩;refine Hid.out ?_))
 have i0:w3.cell? ⟨W.heap.size,0,none⟩=some (.int .u8 25):=HI2.out.cell 0
 have i1:w3.cell? ⟨W.heap.size,1,none⟩=some (.int .i64 arg):=HI2.out.cell 1
 have i2:w3.cell? ⟨W.heap.size,2,none⟩=some (.int .u64 imm):=HI2.out.cell 2
 have z0:w3.cell? ⟨W.heap.size+1,0,none⟩=some (.int .u8 0):=HZ2.out.cell 0
 have z1:w3.cell? ⟨W.heap.size+1,1,none⟩=some (.int .u8 0):=HZ2.out.cell 1
 have z2:w3.cell? ⟨W.heap.size+1,2,none⟩=some (.int .i64 0):=HZ2.out.cell 2
 have z3:w3.cell? ⟨W.heap.size+1,3,none⟩=some (.int .i64 0):=HZ2.out.cell 3
 have z4:w3.cell? ⟨W.heap.size+1,4,none⟩=some (.int .i64 0):=HZ2.out.cell 4
 have z5:w3.cell? ⟨W.heap.size+1,5,none⟩=some (.int .i64 0):=HZ2.out.cell 5
 have z6:w3.cell? ⟨W.heap.size+1,6,none⟩=some (.int .i64 0):=HZ2.out.cell 6
 have z7:w3.cell? ⟨W.heap.size+1,7,none⟩=some (.int .i64 0):=HZ2.out.cell 7
 have z8:w3.cell? ⟨W.heap.size+1,8,none⟩=some (.int .u64 0):=HZ2.out.cell 8
 have z9:w3.cell? ⟨W.heap.size+1,9,none⟩=some (.slice none 0 0):=HZ2.out.cell 9
 have z10:w3.cell? ⟨W.heap.size+1,10,none⟩=some (.int .i64 0):=HZ2.out.cell 10
 have z11:w3.cell? ⟨W.heap.size+1,11,none⟩=some (.int .i64 0):=HZ2.out.cell 11
 have zf:∀ i,w3.frozen? ⟨W.heap.size+1,i,none⟩=false:=fun i=>HZ2.out.frozen i
 have gl:(L:Int)+2*(q:Int)=left:=HLF.out.symm
 refine Lib.hid ?_
 go_wp2
 refine (fun (hg:∀ wf,wf=ndSet w3 (W.heap.size+1) ⟨13,0,0,0,0,0,arg,0,0,topB r.fn s p,0,0⟩ A p c→bodyPost _ _ _ _ _ wf)=>hg _ rfl) ?_
 intro wf hwf
 have hfb:Blk wf (W.heap.size+1) 70 (ndC ⟨13,0,0,0,0,0,arg,0,0,topB r.fn s p,0,0⟩ A p c):=by rw [hwf];exact ndSet_blk _ _ _ _ HZ2.out
 have hfw:Below W.heap.size W wf:=by rw [hwf];exact ndSet_below _ _ _ _ HB2.out (by omega)
 have hfo:wf.ownsRow W.heap.size 3 1 (.slice A p c) p (i64c (⟨13,0,0,0,0,0,arg,0,0,topB r.fn s p,0,0⟩:Nd).args):=by rw [hwf];exact ndSet_own ⟨13,0,0,0,0,0,arg,0,0,topB r.fn s p,0,0⟩ A p c HOW.out HZ2.out (by decide)
 have e0:=hfb.cell 0
 have e1:=hfb.cell 1
 have e2:=hfb.cell 2
 have e3:=hfb.cell 3
 have e4:=hfb.cell 4
 have e5:=hfb.cell 5
 have e6:=hfb.cell 6
 have e7:=hfb.cell 7
 have e8:=hfb.cell 8
 have e9:=hfb.cell 9
 have e10:=hfb.cell 10
 have e11:=hfb.cell 11
 simp only [ndC,List.getElem?_toArray,List.getElem?_cons_succ,List.getElem?_cons_zero] at e0 e1 e2 e3 e4 e5 e6 e7 e8 e9 e10 e11
 clear hwf
 have hnode:=HV.out
 refine bodyPost_ret (v:=ndV ⟨13,0,0,0,0,0,arg,0,0,topB r.fn s p,0,0⟩ A c) (by simp [results,Try.results61,go_sem,ndV,topB_len,e0,e1,e2,e3,e4,e5,e6,e7,e8,e9,e10,e11]) rfl ?_
 have hnd:m=⟨13,0,0,0,0,0,arg,0,0,topB r.fn s p,0,0⟩:=by
  rw [HV.out]
  simp [ndB]
 rw [hnd]
 refine ⟨A,c,rfl,?_,hfw⟩
 show wf.ownsRow _ _ 1 (.slice A (topB r.fn s p).length c) (topB r.fn s p).length _
 rw [topB_len]
 exact hfo
def ParOk (rs:List Q.Raw):Prop:=∀ g ∈ rs,0≤g.fn.params∧g.fn.params≤g.fn.locals.length
theorem takes_le {fs:List Q.Fn} {f:Q.Fn} {i:Q.Ins} {s s':Q.Stk} (h:Q.afterK fs f i s=some s'):(Q.takesK fs f i (Q.topK s)).length≤s.length:=by
 unfold Q.afterK at h
 split at h
 ·next h1=>exact h1.1
 ·cases h
theorem effect_any {W:World} {B bb n nc cc sc:Nat} {fa ca SA:Option Addr} {rs:List Q.Raw} {r:Q.Raw} {cells:List Int} {s s':Q.Stk} {i:Q.Ins} (h:BR W B bb fa n nc rs r ca cc cells) (hB:B≤W.heap.size) (hs:Reads W B 1 SA s.length (u8c s)) (hsl:s.length≤100000) (hsb:∀ x ∈ s,0≤x∧x≤255)
  (hok:Q.okI i=true) (href:Q.insRef (Q.fns rs) r.fn i=true) (haf:Q.afterK (Q.fns rs) r.fn i s=some s') (hpar:ParOk rs) (hlk:∀ x ∈ r.fn.locals,0≤x∧x≤255) :
  Calls Try.prog 61 #[.pointer (some ⟨bb,0,none⟩),.agg #[.int .u8 i.op,.int .i64 i.arg,.int .u64 i.imm],.slice SA s.length sc] W (EffPost W (effB (Q.fns rs) r.fn cells i s)):=by
 obtain ⟨op,arg,imm⟩:=i
 have htk:=takes_le haf
 have hop:1≤op∧op≤32:=by
  unfold Q.okI Q.opB at hok
  simp at hok
  omega
 have harg:op=2∨op=3∨op=4∨op=23∨op=25→0≤arg:=fun ho=>by
  unfold Q.okI Q.fitB at hok
  simp at hok
  omega
 have hn:=h.fs.len
 have hloc:op=2∨op=3∨op=4→arg<r.fn.locals.length:=fun ho=>by
  unfold Q.insRef Q.numL at href
  rcases ho with rfl | rfl | rfl <;> simp at href <;> omega
 have hfn:op=23∨op=25→arg<rs.length:=fun ho=>by
  unfold Q.insRef at href
  rcases ho with rfl | rfl <;> simp [Q.length_fns] at href <;> omega
 by_cases hb:7≤op∧op≤20
 ·refine eff_bin op arg imm h hB hs hsl hsb ?_ hb
  have h1:Q.takesK (Q.fns rs) r.fn ⟨op,arg,imm⟩ (Q.topK s)=[0,0]:=by
   unfold Q.takesK
   repeat rw [if_neg (by simp only;omega)]
   rw [if_pos (by simpa using hb)]
  rw [h1] at htk
  exact htk
 have hcl:=h.cl
 have key:∀ m:Nat,op=2∨op=3∨op=4→(m:Int)=arg→m<cells.length:=fun m ho hm=>by have:=hloc ho;omega
 rcases (show op=1∨op=2∨op=3∨op=4∨op=5∨op=6∨op=21∨op=22∨op=23∨op=24∨op=25∨op=26∨op=27∨op=28∨op=29∨op=30∨op=31∨op=32 by omega) with rfl | rfl | rfl | rfl | rfl | rfl | rfl | rfl | rfl | rfl | rfl | rfl | rfl | rfl | rfl | rfl | rfl | rfl
 ·exact eff_const arg imm h hB hs hsl hsb
 ·obtain ⟨l,hl⟩:∃ l:Nat,arg=l:=⟨arg.toNat,by have:=harg (by omega);omega⟩
  have h2:=hloc (by omega)
  have h3:l<r.fn.locals.length:=by omega
  exact eff_get l r.fn.locals[l] arg imm h hB hs hsl hsb hl (key l (by omega) hl.symm) (List.getElem?_eq_getElem h3) (hlk _ (List.getElem_mem h3))
 ·obtain ⟨l,hl⟩:∃ l:Nat,arg=l:=⟨arg.toNat,by have:=harg (by omega);omega⟩
  exact eff_set l arg imm h hB hs hsl hsb hl (key l (by omega) hl.symm) (by simpa [Q.takesK] using htk)
 ·obtain ⟨l,hl⟩:∃ l:Nat,arg=l:=⟨arg.toNat,by have:=harg (by omega);omega⟩
  exact eff_addr l cells[l] arg imm h hB hs hsl hsb hl (key l (by omega) hl.symm) (List.getElem?_eq_getElem (key l (by omega) hl.symm))
 ·exact eff_load arg imm h hB hs hsl hsb (by simpa [Q.takesK] using htk)
 ·exact eff_store arg imm h hB hs hsl hsb (by simpa [Q.takesK] using htk)
 ·exact eff_jump arg imm h hB hs hsl hsb
 ·exact eff_zero arg imm h hB hs hsl hsb (by simpa [Q.takesK] using htk)
 ·obtain ⟨k,hk⟩:∃ k:Nat,arg=k:=⟨arg.toNat,by have:=harg (by omega);omega⟩
  have h2:=hfn (by omega)
  have h3:k<rs.length:=by omega
  obtain ⟨p0,p1⟩:=hpar rs[k] (List.getElem_mem h3)
  refine eff_call k (rs[k].fn.params.toNat) rs[k] arg imm h hB hs hsl hsb hk (by omega) (List.getElem?_eq_getElem h3) (by omega) ?_
  simp [Q.takesK,Q.parK,hk,Q.fns,h3] at htk
  omega
 ·refine eff_ret (if r.fn.result=true then 1 else 0) arg imm h hB hs hsl hsb ?_ (by split <;> rfl)
  simp [Q.takesK,Q.resOf] at htk
  split at htk <;> simp_all
 ·obtain ⟨k,hk⟩:∃ k:Nat,arg=k:=⟨arg.toNat,by have:=harg (by omega);omega⟩
  have h2:=hfn (by omega)
  have h3:k<rs.length:=by omega
  obtain ⟨p0,p1⟩:=hpar rs[k] (List.getElem_mem h3)
  refine eff_defer k (rs[k].fn.params.toNat) rs[k] arg imm h hB hs hsl hsb hk (by omega) (List.getElem?_eq_getElem h3) (by omega) ?_
  simp [Q.takesK,Q.parK,hk,Q.fns,h3] at htk
  omega
 ·exact eff_panic arg imm h hB hs hsl hsb (by simpa [Q.takesK] using htk)
 ·exact eff_recover arg imm h hB hs hsl hsb
 ·exact eff_in arg imm h hB hs hsl hsb
 ·exact eff_out arg imm h hB hs hsl hsb (by simpa [Q.takesK] using htk)
 ·exact eff_exit arg imm h hB hs hsl hsb (by simpa [Q.takesK] using htk)
 ·exact eff_drop arg imm h hB hs hsl hsb (by simpa [Q.takesK] using htk)
 ·exact eff_dup arg imm h hB hs hsl hsb (by simpa [Q.takesK] using htk)
structure NodeAt (W:World) (g:Nd) (p pn:Nat) (A:Option Addr) (c:Nat) (op arg imm:Int) (wx:World):Prop where
 nb:Blk wx pn 70 (ndC g A p c)
 ib:Blk wx (W.heap.size+1) 52 #[.int .u8 op,.int .i64 arg,.int .u64 imm]
 zb:Blk wx W.heap.size 70 zero12
 own:wx.ownsRow W.heap.size 3 1 (.slice A p c) p (i64c g.args)
 below:Below W.heap.size W wx
 lt:W.heap.size+1<pn
section
variable {W w3 w4:World} {g:Nd} {p c:Nat} {A:Option Addr} {op arg imm:Int}
theorem nbFirst {X:World} {pn:Nat} (hb:Below (X.alloc (.cells zero12 70)).drew.heap.size (X.alloc (.cells zero12 70)).drew w4) (hp:X.heap.size=pn):Blk w4 pn 70 zero12:=by
 subst hp
 exact (Blk.new X _ _).drew.below hb (Blk.new X _ _).drew.lt
theorem NodeAt.first {wz:World} {o:Obj} (hz:Blk wz W.heap.size 70 zero12) (hi:Blk wz (W.heap.size+1) 52 #[.int .u8 op,.int .i64 arg,.int .u64 imm]) (hb:Below W.heap.size W wz) (hb4:Below (wz.alloc o).drew.heap.size (wz.alloc o).drew w4) (hp:g.args.length=p) (hown:w4.ownsRow (wz.alloc o).drew.heap.size 3 1 (.slice A g.args.length c) g.args.length (i64c g.args)) (hnb:Blk w4 (W.heap.size+1+1) 70 zero12) :
  NodeAt W g p (W.heap.size+1+1) A c op arg imm (ndSet w4 (W.heap.size+1+1) g A p c):=by
 rw [hp] at hown
 have s1:W.heap.size≤(wz.alloc o).drew.heap.size:=(hb.alloc hb.size o).drew.size
 have hi4:=(hi.alloc o).drew.below hb4 (hi.alloc o).drew.lt
 have hz4:=(hz.alloc o).drew.below hb4 (hz.alloc o).drew.lt
 have hb':=(hb.alloc hb.size o).drew.trans (hb4.mono s1)
 refine ⟨ndSet_blk _ _ _ _ hnb,?_,?_,ndSet_own _ _ _ _ (own_more hown s1) hnb (by decide),ndSet_below _ _ _ _ hb' (by omega),by omega⟩
 ·exact (ndSet_far _ _ _ _ (by omega)).trans hi4
 ·exact (ndSet_far _ _ _ _ (by omega)).trans hz4
theorem NodeAt.two {wx:World} {pn:Nat} (h:NodeAt W g p pn A c op arg imm wx) (t t':Int):NodeAt W { g with next:=t,els:=t' } p pn A c op arg imm ((wx.setCell ⟨pn,10,none⟩ (.int .i64 t)).setCell ⟨pn,11,none⟩ (.int .i64 t')).drew:=by
 have hl:=h.lt
 have n1:W.heap.size≠pn:=by omega
 have n2:W.heap.size+1≠pn:=by omega
 have h1:=(h.nb.set_ 10 (.int .i64 t)).set_ 11 (.int .i64 t')
 simp only [ndC,List.setIfInBounds_toArray,List.set_cons_zero,List.set_cons_succ] at h1
 have ho:=own_far (own_far h.own h.nb (by decide) 10 (.int .i64 t)) (h.nb.set_ 10 (.int .i64 t)) (by decide) 11 (.int .i64 t')
 exact ⟨h1.drew,((h.ib.far (p:=⟨pn,10,none⟩) n2 _).far (p:=⟨pn,11,none⟩) n2 _).drew,((h.zb.far (p:=⟨pn,10,none⟩) n1 _).far (p:=⟨pn,11,none⟩) n1 _).drew,ho,((h.below.setCell (p:=⟨pn,10,none⟩) (by show W.heap.size≤pn;omega) _).setCell (p:=⟨pn,11,none⟩) (by show W.heap.size≤pn;omega) _).drew,hl⟩
theorem NodeAt.last (hz:Blk w3 W.heap.size 70 zero12) (hi:Blk w3 (W.heap.size+1) 52 #[.int .u8 op,.int .i64 arg,.int .u64 imm]) (hb:Below W.heap.size W w3) (hb4:Below w3.heap.size w3 w4) (hp:g.args.length=p) (hown:w4.ownsRow w3.heap.size 3 1 (.slice A g.args.length c) g.args.length (i64c g.args)) :
  NodeAt W g p w4.heap.size A c op arg imm (w4.alloc (.cells (ndC g A p c) 70)):=by
 rw [hp] at hown
 have h2:=hi.lt
 have h3:=hb4.size
 exact ⟨Blk.new _ _ _,(hi.below hb4 hi.lt).alloc _,(hz.below hb4 hz.lt).alloc _,(own_more hown hb.size).alloc _,(hb.trans (hb4.mono hb.size)).alloc (Nat.le_trans hb.size h3) _,by omega⟩
end
end Go.Proofs.Ytgekmjkfnhogkaa
