/-
  Texts of one seat, one behind the other: QCopy.
-/
import Derived.Test.YtgekmjkfnhogkaaMA6
import Derived.Test.YtgekmjkfnhogkaaMA3

set_option linter.unusedVariables false
set_option linter.unusedSimpArgs false
set_option maxRecDepth 100000
set_option maxHeartbeats 51200000
namespace Go.Proofs.Ytgekmjkfnhogkaa.Q
open Go.ChangeShapes Go.WideShapes Go.ChangeAt Go.RowKit
def SepC (rs:List Raw):Prop:=∀ (i k:Nat) ri rk,i<k→rs[i]?=some ri→rs[k]?=some rk→∀ g,(Value.slice ri.co ri.fn.code.length ri.cc).ownBlock=some g→(Value.slice rk.co rk.fn.code.length rk.cc).ownBlock≠some g
theorem SepC.nil:SepC []:=fun i k ri rk _ h=>by simp at h
theorem SepC.snoc {rs:List Raw} {r:Raw} (h:SepC rs) (hn:∀ q ∈ rs,∀ g,(Value.slice q.co q.fn.code.length q.cc).ownBlock=some g→(Value.slice r.co r.fn.code.length r.cc).ownBlock≠some g):SepC (rs ++ [r]):=by
 intro i k ri rk hik hi hk g hg
 have hkl:=(List.getElem?_eq_some_iff.1 hk).1
 rw [List.length_append] at hkl
 have hil:i<rs.length:=by simp at hkl;omega
 rw [List.getElem?_append_left hil] at hi
 rcases Nat.lt_or_ge k rs.length with hk2 | hk2
 ·rw [List.getElem?_append_left hk2] at hk
  exact h i k ri rk hik hi hk g hg
 ·rw [List.getElem?_append_right hk2] at hk
  have:k-rs.length=0:=by simp at hkl;omega
  rw [this] at hk
  have hr:rk=r:=by simpa using hk.symm
  subst hr
  exact hn ri (List.mem_of_getElem? hi) g hg
structure CpR (w:World) (n:Nat) (fs:List Fn) (A:Option Addr) (c:Nat) (rs:List Raw) (w':World):Prop where
 eq:fns rs=fs
 own:w'.ownsRow w.heap.size 41 5 (.slice A n c) n (rawc rs)
 each:∀ r ∈ rs,OwnF w' w.heap.size r
 below:Below w.heap.size w w'
 sep:SepC rs
def CpE (w:World) (n:Nat) (fs:List Fn) (e:Ending) (w':World):Prop:=∃ (A:Option Addr) (c:Nat) (rs:List Raw),e=.returned (.agg #[.slice A n c])∧CpR w n fs A c rs w'
structure CpI (w:World) (p:Nat) (fs:List Fn) (rs:List Raw) (k:Nat) (A:Option Addr) (c:Nat) (wr:World):Prop where
 blk:Blk wr p 24 #[.slice A k c]
 res:Blk wr (w.heap.size+1) 24 #[.slice none 0 0]
 own:wr.ownsRow w.heap.size 41 5 (.slice A k c) k (rawc rs)
 each:∀ r ∈ rs,OwnF wr w.heap.size r
 eq:fns rs=fs.take k
 below:Below w.heap.size w wr
 sep:SepC rs
theorem own_below {w w':World} {base size n:Nat} {e:TypeId} {v:Value} {xs:List Value} (h:w.ownsRow base e size v n xs) (hb:Below w.heap.size w w'):w'.ownsRow base e size v n xs :=
 own_kept h fun i hi=>hb.block i (own_block_le h hi).2
theorem CpI.step {w wr w2 w4:World} {p k c:Nat} {fs:List Fn} {rs:List Raw} {A:Option Addr} {r:Raw} {v':Value} (o:Obj) (h:CpI w p fs rs k A c wr) (hp:p≠w.heap.size+1) (hpz:w.heap.size≤p)
  (hr:fs[k]?=some r.fn) (hb2:Below wr.heap.size wr w2) (hof:OwnF w2 wr.heap.size r)
  (hown:w4.ownsRow w.heap.size 41 5 v' (k+1) (rawc rs ++ rawOne r)) (hgr:(w2.alloc o).grownBy w4 (Value.slice A k c).ownBlock) :
  ∃ A4 c4,v'=.slice A4 (k+1) c4∧w4.cell? ⟨p,0,none⟩=some (.slice A k c)∧w4.frozen? ⟨p,0,none⟩=false∧CpI w p fs (rs ++ [r]) (k+1) A4 c4 (w4.setCell ⟨p,0,none⟩ (.slice A4 (k+1) c4)):=by
 obtain ⟨A4,c4,rfl⟩:=own_slice hown
 have hzr:w.heap.size≤wr.heap.size:=h.below.size
 have hb2':Blk (w2.alloc o) p 24 #[.slice A k c]:=(h.blk.below hb2 h.blk.lt).alloc o
 have hs2:Blk (w2.alloc o) (w.heap.size+1) 24 #[.slice none 0 0]:=(h.res.below hb2 h.res.lt).alloc o
 have ho2:=own_alloc (own_below h.own hb2) o
 have hb4:Blk w4 p 24 #[.slice A k c]:=blk_grown hb2' ho2 hgr (by decide)
 have hs4:=blk_grown hs2 ho2 hgr (by decide)
 have keepL:∀ r':Raw,OwnF (w2.alloc o) w.heap.size r'→OwnF (w4.setCell ⟨p,0,none⟩ (.slice A4 (k+1) c4)) w.heap.size r':=fun r' hr' =>
  ⟨own_far (own_grown ho2 hr'.locals hgr (by decide)) hb4 (by decide) 0 _,own_far (own_grown ho2 hr'.code hgr (by decide)) hb4 (by decide) 0 _⟩
 have hz2:=hb2.size
 refine ⟨A4,c4,rfl,hb4.cell 0,hb4.frozen 0,⟨hb4.set_ 0 _,hs4.far (p:=⟨p,0,none⟩) (by show w.heap.size+1≠p;omega) _,?_,?_,?_,?_,h.sep.snoc fun q hq g hg hg2=>?_⟩⟩
 rotate_right
 ·have h1:=own_lt (h.each q hq).code hg
  have h2:=own_lt hof.code hg2
  omega
 ·have:=own_far hown hb4 (by decide) 0 (.slice A4 (k+1) c4)
  rw [rawc_append]
  simpa [rawc] using this
 ·intro r' hr'
  rcases List.mem_append.1 hr' with hr' | hr'
  ·exact keepL r' ⟨own_alloc (own_below (h.each r' hr').locals hb2) o,own_alloc (own_below (h.each r' hr').code hb2) o⟩
  ·obtain rfl:r'=r:=by simpa using hr'
   exact keepL r' ⟨own_more (own_alloc hof.locals o) hzr,own_more (own_alloc hof.code o) hzr⟩
 ·rw [fns_append,h.eq,List.take_add_one,hr];rfl
 ·have h1:Below w.heap.size w (w2.alloc o):=(h.below.trans (hb2.mono hzr)).alloc (by omega) o
  exact (h1.grown hgr (by simp;omega) fun i hi=>(own_block_le h.own hi).1).setCell (p:=⟨p,0,none⟩) hpz _
theorem CpI.done {w wr:World} {p n c:Nat} {fs:List Fn} {rs:List Raw} {A:Option Addr} (h:CpI w p fs rs n A c wr) (hn:fs.length=n) :
  CpE w n fs (.returned (.agg #[.slice A n c])) (wr.setCell ⟨w.heap.size+1,0,none⟩ (.slice A n c)):=by
 refine ⟨A,c,rs,rfl,⟨?_,own_far h.own h.res (by decide) 0 _,fun r hr=>⟨own_far (h.each r hr).locals h.res (by decide) 0 _,own_far (h.each r hr).code h.res (by decide) 0 _⟩,h.below.setCell (p:=⟨w.heap.size+1,0,none⟩) (by show w.heap.size≤w.heap.size+1;omega) _,h.sep⟩⟩
 rw [h.eq,List.take_of_length_le (by omega)]

theorem rcopy_any (B:Nat) (A:Option Addr) (n c:Nat) (rs:List Raw) (w:World) (h:RdP w B A n rs) (hB:B≤w.heap.size) :
  Calls Try.prog 7 #[.agg #[.slice A n c]] w (CpE w n (fns rs)):=by
 have hsz:=h.sz
 have H:=Lib.hid h
 have HN:Hid ((fns rs).length=n):=Lib.hid (by rw [length_fns,h.len])
 have HW0:Hid (Below w.heap.size w (((w.alloc (.cells #[.slice A n c] 24)).alloc (.cells #[.slice none 0 0] 24)).alloc (.cells #[.slice none 0 0] 24))):=(((Below.refl _ _).alloc (Nat.le_refl _) _).alloc (by simp) _).alloc (by simp;omega) _
 have HI0:Hid (CpI w (w.heap.size+2) (fns rs) [] 0 none 0 (((w.alloc (.cells #[.slice A n c] 24)).alloc (.cells #[.slice none 0 0] 24)).alloc (.cells #[.slice none 0 0] 24))):=by
  refine ⟨?_,(blk_second w _ _ _ _).alloc _,own_none _ _ _ _,(fun r hr=>by cases hr),rfl,HW0.out,SepC.nil⟩
  have:=Blk.new ((w.alloc (.cells #[.slice A n c] 24)).alloc (.cells #[.slice none 0 0] 24)) 24 #[.slice none 0 0]
  rw [show ((w.alloc (.cells #[.slice A n c] 24)).alloc (.cells #[.slice none 0 0] 24)).heap.size=w.heap.size+2 by simp] at this
  exact this
 clear h HW0
 go_enter Try.func7,Try.ntmps7
 go_wp2
 go_loopw [9] (fun i wr=>∃ (rs':List Raw) (k:Nat) (A:Option Addr) (c:Nat),k≤n∧i=.int .i64 k∧Hid (CpI w (w.heap.size+2) (fns rs) rs' k A c wr)) (fun i _=>n-(intOf i).toNat)
 case atStart=>exact ⟨[],0,none,0,Nat.zero_le _,rfl,HI0⟩
 case round =>
  clear HI0
  obtain ⟨rs',k,Ap,cp,hk,rfl,HI⟩:=hrel
  have hz:=HI.out.below.size
  have hpz:=HI.out.blk.lt
  by_cases hlt:k<n
  ·obtain ⟨b,off,r,rfl,hbk,HX,HRF,HWF,x0,x1,x2,x3,x4⟩:=(H.out.below (HI.out.below.mono hB)).fn hlt
   have HXK:Hid ((fns rs)[k]?=some r.fn):=Lib.hid (by unfold fns;rw [List.getElem?_map,HX.out];rfl)
   obtain ⟨nl,HNL⟩:∃ x,Hid (x=r.fn.locals.length):=⟨_,rfl⟩
   obtain ⟨nc,HNC⟩:∃ x,Hid (x=r.fn.code.length):=⟨_,rfl⟩
   have wl:=HWF.out.ll
   have wc:=HWF.out.cl
   have HL:=Lib.hid HRF.out.locals
   have HC:=Lib.hid HRF.out.code
   rw [← HNL.out] at x1 wl HL
   rw [← HNC.out] at x4 wc HC
   have hbr:b<wr.heap.size:=by omega
   have HB0:Hid (Below wr.heap.size wr ((wr.alloc (.cells #[.int .i64 r.fn.params,.slice r.lo nl r.lc,.bool r.fn.result,.int .i64 r.fn.keep,.slice r.co nc r.cc] 41)).alloc (.cells #[] 46))):=(((Below.refl _ _).alloc (Nat.le_refl _) _).alloc (by simp) _)
   have HQ0:Hid (Blk ((wr.alloc (.cells #[.int .i64 r.fn.params,.slice r.lo nl r.lc,.bool r.fn.result,.int .i64 r.fn.keep,.slice r.co nc r.cc] 41)).alloc (.cells #[] 46)) wr.heap.size 41 #[.int .i64 r.fn.params,.slice r.lo nl r.lc,.bool r.fn.result,.int .i64 r.fn.keep,.slice r.co nc r.cc]):=(Blk.new wr _ _).alloc _
   have HL0:Hid (Reads ((wr.alloc (.cells #[.int .i64 r.fn.params,.slice r.lo nl r.lc,.bool r.fn.result,.int .i64 r.fn.keep,.slice r.co nc r.cc] 41)).alloc (.cells #[] 46)) B 1 r.lo nl (u8c r.fn.locals)):=Lib.hid (HL.out.below (HB0.out.mono (by omega)))
   have HE0:Hid (((wr.alloc (.cells #[.int .i64 r.fn.params,.slice r.lo nl r.lc,.bool r.fn.result,.int .i64 r.fn.keep,.slice r.co nc r.cc] 41)).alloc (.cells #[] 46)).ownsRow wr.heap.size 46 1 (.slice (some ⟨wr.heap.size+1,0,none⟩) 0 0) 0 []):=by
    have:=World.ownsRow_made (base:=wr.heap.size) (e:=46) (size:=1) (wr.alloc (.cells #[.int .i64 r.fn.params,.slice r.lo nl r.lc,.bool r.fn.result,.int .i64 r.fn.keep,.slice r.co nc r.cc] 41)) #[] 0 (by simp) (Nat.zero_le _) (by simp)
    rw [show (wr.alloc (.cells #[.int .i64 r.fn.params,.slice r.lo nl r.lc,.bool r.fn.result,.int .i64 r.fn.keep,.slice r.co nc r.cc] 41)).heap.size=wr.heap.size+1 by simp] at this
    exact this
   have hs0:wr.heap.size≤((wr.alloc (.cells #[.int .i64 r.fn.params,.slice r.lo nl r.lc,.bool r.fn.result,.int .i64 r.fn.keep,.slice r.co nc r.cc] 41)).alloc (.cells #[] 46)).heap.size:=by simp;omega
   go_wp2_with (at_builtin;refine app_kind rfl _ _ rfl wr.heap.size (.slice (some ⟨wr.heap.size+1,0,none⟩) 0 0) 0 [] rfl HE0.out B r.lo nl r.lc (u8c r.fn.locals) rfl HL0.out (u8c_one _) (by omega) hs0 ?_;intro v1 w1 hown1 hgr1 _;refine Hid.out ?_)
   rw [Nat.zero_add,List.nil_append] at hown1
   obtain ⟨A1,c1,rfl⟩:=own_slice hown1
   have hq1:Blk w1 wr.heap.size 41 #[.int .i64 r.fn.params,.slice r.lo nl r.lc,.bool r.fn.result,.int .i64 r.fn.keep,.slice r.co nc r.cc]:=blk_grown HQ0.out HE0.out hgr1 (by decide)
   have hbl1:Below wr.heap.size wr w1:=HB0.out.grown hgr1 hs0 fun i hi=>(own_block_le HE0.out hi).1
   have f1:=hq1.frozen 1
   have d1:w1.cell? ⟨wr.heap.size,1,none⟩=some (.slice r.lo nl r.lc):=hq1.cell 1
   have hws:(w1.setCell ⟨wr.heap.size,1,none⟩ (.slice A1 nl c1)).heap.size=w1.heap.size:=by simp [World.setCell]
   have HQ1:Hid (Blk (w1.setCell ⟨wr.heap.size,1,none⟩ (.slice A1 nl c1)) wr.heap.size 41 #[.int .i64 r.fn.params,.slice A1 nl c1,.bool r.fn.result,.int .i64 r.fn.keep,.slice r.co nc r.cc]):=hq1.set_ 1 _
   have HB1:Hid (Below wr.heap.size wr (w1.setCell ⟨wr.heap.size,1,none⟩ (.slice A1 nl c1))):=hbl1.setCell (p:=⟨wr.heap.size,1,none⟩) (Nat.le_refl _) _
   have HO1:Hid ((w1.setCell ⟨wr.heap.size,1,none⟩ (.slice A1 nl c1)).ownsRow wr.heap.size 46 1 (.slice A1 nl c1) nl (u8c r.fn.locals)):=own_far hown1 hq1 (by decide) 1 _
   have hz1:wr.heap.size+1≤w1.heap.size:=hq1.lt
   have HQ1e:Hid (Blk ((w1.setCell ⟨wr.heap.size,1,none⟩ (.slice A1 nl c1)).alloc (.cells #[] 52)) wr.heap.size 41 #[.int .i64 r.fn.params,.slice A1 nl c1,.bool r.fn.result,.int .i64 r.fn.keep,.slice r.co nc r.cc]):=HQ1.out.alloc _
   have HB1e:Hid (Below wr.heap.size wr ((w1.setCell ⟨wr.heap.size,1,none⟩ (.slice A1 nl c1)).alloc (.cells #[] 52))):=HB1.out.alloc (by rw [hws];omega) _
   have HO1e:Hid (((w1.setCell ⟨wr.heap.size,1,none⟩ (.slice A1 nl c1)).alloc (.cells #[] 52)).ownsRow wr.heap.size 46 1 (.slice A1 nl c1) nl (u8c r.fn.locals)):=own_alloc HO1.out _
   have HC1:Hid (Reads ((w1.setCell ⟨wr.heap.size,1,none⟩ (.slice A1 nl c1)).alloc (.cells #[] 52)) B 3 r.co nc (insc r.fn.code)):=Lib.hid (HC.out.below (HB1e.out.mono (by omega)))
   have HE1:Hid (((w1.setCell ⟨wr.heap.size,1,none⟩ (.slice A1 nl c1)).alloc (.cells #[] 52)).ownsRow wr.heap.size 52 3 (.slice (some ⟨w1.heap.size,0,none⟩) 0 0) 0 []):=by
    have:=World.ownsRow_made (base:=wr.heap.size) (e:=52) (size:=3) (w1.setCell ⟨wr.heap.size,1,none⟩ (.slice A1 nl c1)) #[] 0 (by show wr.heap.size≤(w1.setCell ⟨wr.heap.size,1,none⟩ (.slice A1 nl c1)).heap.size;rw [hws];omega) (Nat.zero_le _) (by simp)
    rw [hws] at this
    exact this
   have hs1:wr.heap.size≤((w1.setCell ⟨wr.heap.size,1,none⟩ (.slice A1 nl c1)).alloc (.cells #[] 52)).heap.size:=by have:=hws;simp;omega
   have d4:((w1.setCell ⟨wr.heap.size,1,none⟩ (.slice A1 nl c1)).alloc (.cells #[] 52)).cell? ⟨wr.heap.size,4,none⟩=some (.slice r.co nc r.cc):=HQ1e.out.cell 4
   clear hown1 hgr1 hq1 hbl1
   refine Lib.hid ?_
   go_wp2_with (at_builtin;refine app_ins rfl _ _ rfl wr.heap.size (.slice (some ⟨w1.heap.size,0,none⟩) 0 0) 0 [] rfl HE1.out B r.co nc r.cc (insc r.fn.code) rfl HC1.out (insc_one _) (by omega) hs1 ?_;intro v2 w2 hown2 hgr2 _;refine Hid.out ?_)
   clear d1 f1 d4
   rw [Nat.zero_add,List.nil_append] at hown2
   obtain ⟨A2,c2,rfl⟩:=own_slice hown2
   have hq2:Blk w2 wr.heap.size 41 #[.int .i64 r.fn.params,.slice A1 nl c1,.bool r.fn.result,.int .i64 r.fn.keep,.slice r.co nc r.cc]:=blk_grown HQ1e.out HE1.out hgr2 (by decide)
   have hbl2:Below wr.heap.size wr w2:=HB1e.out.grown hgr2 hs1 fun i hi=>(own_block_le HE1.out hi).1
   have f4:=hq2.frozen 4
   have d0:w2.cell? ⟨wr.heap.size,0,none⟩=some (.int .i64 r.fn.params):=hq2.cell 0
   have d1:w2.cell? ⟨wr.heap.size,1,none⟩=some (.slice A1 nl c1):=hq2.cell 1
   have d2:w2.cell? ⟨wr.heap.size,2,none⟩=some (.bool r.fn.result):=hq2.cell 2
   have d3:w2.cell? ⟨wr.heap.size,3,none⟩=some (.int .i64 r.fn.keep):=hq2.cell 3
   have d4:w2.cell? ⟨wr.heap.size,4,none⟩=some (.slice r.co nc r.cc):=hq2.cell 4
   have hB2:Below wr.heap.size wr (w2.setCell ⟨wr.heap.size,4,none⟩ (.slice A2 nc c2)):=hbl2.setCell (p:=⟨wr.heap.size,4,none⟩) (Nat.le_refl _) _
   have p0:w2.cell? ⟨w.heap.size+2,0,none⟩=some (.slice Ap k cp):=(hbl2.cell (p:=⟨w.heap.size+2,0,none⟩) hpz).trans (HI.out.blk.cell 0)
   have HB2:=Lib.hid hB2
   have HOF:Hid (OwnF (w2.setCell ⟨wr.heap.size,4,none⟩ (.slice A2 nc c2)) wr.heap.size ⟨r.fn,A1,c1,A2,c2⟩):=by
    refine ⟨?_,?_⟩
    ·have:=own_far (own_grown HE1.out HO1e.out hgr2 (by decide)) hq2 (by decide) 4 (.slice A2 nc c2)
     rw [HNL.out] at this
     exact this
    ·have:=own_far hown2 hq2 (by decide) 4 (.slice A2 nc c2)
     show World.ownsRow _ _ _ _ (.slice A2 r.fn.code.length c2) r.fn.code.length (insc r.fn.code)
     rw [← HNC.out]
     exact this
   have HOWN:Hid (((w2.setCell ⟨wr.heap.size,4,none⟩ (.slice A2 nc c2)).alloc (.cells #[.int .i64 r.fn.params,.slice A1 nl c1,.bool r.fn.result,.int .i64 r.fn.keep,.slice A2 nc c2] 41)).ownsRow w.heap.size 41 5 (.slice Ap k cp) k (rawc rs')):=own_alloc (own_below HI.out.own hB2) _
   have hws2:(w2.setCell ⟨wr.heap.size,4,none⟩ (.slice A2 nc c2)).heap.size=w2.heap.size:=by simp [World.setCell]
   have HRD:Hid (Reads ((w2.setCell ⟨wr.heap.size,4,none⟩ (.slice A2 nc c2)).alloc (.cells #[.int .i64 r.fn.params,.slice A1 nl c1,.bool r.fn.result,.int .i64 r.fn.keep,.slice A2 nc c2] 41)) (w2.heap.size+1) 5 (some ⟨w2.heap.size,0,none⟩) 1 (rawOne ⟨r.fn,A1,c1,A2,c2⟩)):=by
    have:=one_reads (w2.setCell ⟨wr.heap.size,4,none⟩ (.slice A2 nc c2)) 41 (rawOne ⟨r.fn,A1,c1,A2,c2⟩) 5 rfl
    rw [hws2] at this
    unfold rawOne at this ⊢
    rw [← HNL.out,← HNC.out] at this ⊢
    exact this
   have hs2:w.heap.size≤((w2.setCell ⟨wr.heap.size,4,none⟩ (.slice A2 nc c2)).alloc (.cells #[.int .i64 r.fn.params,.slice A1 nl c1,.bool r.fn.result,.int .i64 r.fn.keep,.slice A2 nc c2] 41)).heap.size:=by have:=hq2.lt;simp [World.setCell];omega
   have hzq:wr.heap.size<w2.heap.size:=hq2.lt
   have hpq:w.heap.size+2≠wr.heap.size:=by omega
   clear hown2 hgr2 hq2 hbl2 hB2
   refine Lib.hid ?_
   go_wp2_with (at_builtin;refine app_fn rfl _ _ rfl w.heap.size (.slice Ap k cp) k (rawc rs') rfl HOWN.out (w2.heap.size+1) (some ⟨w2.heap.size,0,none⟩) 1 1 (rawOne ⟨r.fn,A1,c1,A2,c2⟩) rfl HRD.out (rawOne_one _) (by omega) hs2 ?_;intro v4 w4 hown4 hgr4 _;refine Hid.out ?_)
   obtain ⟨A4,c4,rfl,e4,f4',hI4⟩:=HI.out.step (r:=⟨r.fn,A1,c1,A2,c2⟩) _ (by omega) (by omega) HXK.out HB2.out HOF.out hown4 hgr4
   have HI4:=Lib.hid hI4
   clear hown4 hgr4 hI4
   refine Lib.hid ?_
   go_wp2
   go_roundw
   case rel=>exact ⟨rs' ++ [⟨r.fn,A1,c1,A2,c2⟩],k+1,A4,c4,by omega,by go_num,HI4⟩
   case measure=>simp [intOf];omega
  ·obtain rfl:n=k:=by omega
   clear hlt hk
   have p0:wr.cell? ⟨w.heap.size+2,0,none⟩=some (.slice Ap n cp):=HI.out.blk.cell 0
   have r0:wr.cell? ⟨w.heap.size+1,0,none⟩=some (.slice none 0 0):=HI.out.res.cell 0
   have rf:=HI.out.res.frozen 0
   have HD:=Lib.hid (HI.out.done HN.out)
   go_wp2
   exact bodyPost_ret (v:=.agg #[.slice Ap n cp]) (by simp [results,Try.results7,go_sem,r0]) rfl HD.out
end Go.Proofs.Ytgekmjkfnhogkaa.Q
