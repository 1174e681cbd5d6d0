/-
  Package kinds: walk.
-/
import Derived.Test.YtcgoanfhabjpfaaKGoW
import Derived.Test.YtcgoanfhabjpfaaRefSame
import Derived.Deep.LoopGhost
import Derived.Deep.OwnRows
namespace Go.Proofs.Ytcgoanfhabjpfaa
set_option linter.unusedVariables false
open Go.ChangeShapes Go.WideShapes Go.ChangeAt Go.RowKit

/-- a function's answer in memory: which is reached, and the stacks -/
structure FnAt (w : World) (B : Nat) (l : List (Option Stk)) (rv sv : Value) : Prop where
  at_ : ∃ (ra sa m : Nat) (vs : List Value), rv = .slice (some ⟨ra, 0, none⟩) m m ∧ sv = .slice (some ⟨sa, 0, none⟩) m m ∧ l.length = m ∧ m ≤ 256 ∧ Blk w ra 4 (reachC l).toArray ∧ Blk w sa 43 vs.toArray ∧ vs.length = m ∧ B ≤ ra ∧ B ≤ sa ∧
    ∀ (j : Nat) x, l[j]? = some x → ∃ a q k, vs[j]? = some (.slice a q k) ∧ q = (x.getD []).length ∧ w.ownsRow B 57 1 (.slice a q k) q (u8c (x.getD []))
theorem FnAt.below {w w' : World} {B : Nat} {l : List (Option Stk)} {rv sv : Value} (h : FnAt w B l rv sv) (hb : Below w.heap.size w w') : FnAt w' B l rv sv := by
  obtain ⟨ra, sa, m, vs, h1, h2, h3, h4, h5, h6, h7, h8, h9, h10⟩ := h.at_
  refine ⟨ra, sa, m, vs, h1, h2, h3, h4, h5.below hb h5.lt, h6.below hb h6.lt, h7, h8, h9, fun j x hx => ?_⟩
  obtain ⟨a, q, k, e1, e2, e3⟩ := h10 j x hx
  exact ⟨a, q, k, e1, e2, own_kept e3 fun i hi => hb.block i (own_lt e3 hi).2⟩
def WalkPost (w : World) (B g n c : Nat) (A : Option Addr) (rs : List Raw) (r : Raw) (e : Ending) (w' : World) : Prop :=
  ∃ ok, e = .returned (.bool ok) ∧ Kp w w' (fun i => i = g) ∧ ((ok = false ∧ ¬ Fine (fns rs) r.fn) ∨ (ok = true ∧ ∃ l rv sv wv, Sol (fns rs) r.fn l ∧ Wk w' B g A n c rs r rv sv wv ∧ FnAt w' B l rv sv))
theorem Try.info4 : (Try.prog.info? 4).map (fun i => (i.zero, i.size, i.bytes)) = some (some (.bool false), 1, 1) := by kernel_rfl
theorem Try.info43 : (Try.prog.info? 43).map (fun i => (i.zero, i.size, i.bytes)) = some (some (.slice none 0 0), 1, 24) := by kernel_rfl
section
variable {w w' : World} {B g ra sa n c m wk wcap : Nat} {A WA : Option Addr} {rs : List Raw} {r : Raw} {l : List (Option Stk)} {wl : List Nat} {vs : List Value}
theorem WS.init (h : Wk w B g A n c rs r (.slice none 0 0) (.slice none 0 0) (.slice none 0 0)) (hm : r.fn.code.length = m) (hm1 : m ≤ 256) :
    WS ((((w.setCell ⟨g, 6, none⟩ (.slice (some ⟨w.heap.size, 0, none⟩) m m)).setCell ⟨g, 7, none⟩ (.slice (some ⟨w.heap.size + 1, 0, none⟩) m m)).alloc (.cells (madeCells #[.bool false] m) 4)).alloc (.cells (madeCells #[.slice none 0 0] m) 43)) B g w.heap.size (w.heap.size + 1) A n c rs r m (List.replicate m none) [] (List.replicate m (.slice none 0 0)) none 0 0 ∧
    Kp w ((((w.setCell ⟨g, 6, none⟩ (.slice (some ⟨w.heap.size, 0, none⟩) m m)).setCell ⟨g, 7, none⟩ (.slice (some ⟨w.heap.size + 1, 0, none⟩) m m)).alloc (.cells (madeCells #[.bool false] m) 4)).alloc (.cells (madeCells #[.slice none 0 0] m) 43)) (fun i => i = g) := by
  have hle := h.le
  obtain ⟨W2, hW2⟩ : ∃ W2, W2 = (w.setCell ⟨g, 6, none⟩ (.slice (some ⟨w.heap.size, 0, none⟩) m m)).setCell ⟨g, 7, none⟩ (.slice (some ⟨w.heap.size + 1, 0, none⟩) m m) := ⟨_, rfl⟩
  have hs2 : W2.heap.size = w.heap.size := by rw [hW2]; simp [World.setCell]
  have hb2 : Blk W2 g 78 (WkC A n c r (.slice (some ⟨w.heap.size, 0, none⟩) m m) (.slice (some ⟨w.heap.size + 1, 0, none⟩) m m) (.slice none 0 0)) := by rw [hW2]; exact (h.blk.set_ 6 _).set_ 7 _
  have hk2 : Kp w W2 (fun i => i = g) := by rw [hW2]; exact (Kp.set (ex := fun i => i = g) w _ _ rfl).trans (Kp.set (ex := fun i => i = g) _ _ _ rfl) fun _ _ h => h
  rw [← hW2, ← hs2]
  have hr3 : Blk ((W2.alloc (.cells (madeCells #[.bool false] m) 4)).alloc (.cells (madeCells #[.slice none 0 0] m) 43)) W2.heap.size 4 (madeCells #[.bool false] m) := (Blk.new W2 _ _).alloc _
  have hs3 := blk_second W2 4 43 (madeCells #[.bool false] m) (madeCells #[.slice none 0 0] m)
  have hk3 : Kp W2 ((W2.alloc (.cells (madeCells #[.bool false] m) 4)).alloc (.cells (madeCells #[.slice none 0 0] m) 43)) (fun i => i = g) := Kp.of_below (((Below.refl _ _).alloc (Nat.le_refl _) _).alloc (by simp) _) _
  have hk := hk2.trans hk3 fun _ _ h => h
  have hB := hk.below hle (by rintro i rfl; exact h.bg)
  refine ⟨⟨⟨by rw [← hs2] at hb2; exact (hb2.alloc _).alloc _, h.prog.below hB, h.fn.below hB, h.wf, by have := hk.size; omega, h.ok, h.okf, h.bg⟩, by simp, hm, hm1, ?_, ?_, by simp, fun j x hx => ?_, rfl, own_none _ _ _ _, by rw [hs2]; exact hle, by rw [hs2]; omega⟩, hk⟩
  · have he : reachC (List.replicate m none) = List.replicate m (.bool false) := by simp [reachC]
    rw [he, ← made_rep]
    exact hr3
  · rw [← made_rep]
    exact hs3
  · rw [List.getElem?_replicate] at hx
    split at hx
    · simp at hx
      subst hx
      exact ⟨none, 0, 0, by rw [List.getElem?_replicate]; simp; assumption, rfl, own_none _ _ _ _⟩
    · cases hx
/-- the last that waits is taken -/
theorem WS.pop {a k : Nat} (h : WS w B g ra sa A n c rs r m l (wl ++ [a]) vs WA (k + 1) wcap) : WS (w.setCell ⟨g, 8, none⟩ (.slice WA k wcap)) B g ra sa A n c rs r m l wl vs WA k wcap ∧ Kp w (w.setCell ⟨g, 8, none⟩ (.slice WA k wcap)) (fun i => i = g) := by
  have hk : Kp w (w.setCell ⟨g, 8, none⟩ (.slice WA k wcap)) (fun i => i = g) := Kp.set w _ _ rfl
  have hB := hk.below h.wkr.le (by rintro i rfl; exact h.wkr.bg)
  have hrg : ra ≠ g := Blk.ne_ h.reached h.wkr.blk (by decide)
  have hsg : sa ≠ g := Blk.ne_ h.stacks h.wkr.blk (by decide)
  refine ⟨⟨⟨h.wkr.blk.set_ 8 _, h.wkr.prog.below hB, h.wkr.fn.below hB, h.wkr.wf, by have := hk.size; have := h.wkr.le; omega, h.wkr.ok, h.wkr.okf, h.wkr.bg⟩, h.len, h.clen, h.small, hk.blk h.reached hrg, hk.blk h.stacks hsg, h.vlen, fun j x hx => ?_, by have := h.wlen; rw [List.length_append] at this; simpa using this, ?_, h.bra, h.bsa⟩, hk⟩
  · obtain ⟨av, q, k', h1, h2, h3⟩ := h.vat j x hx
    exact ⟨av, q, k', h1, h2, hk.own h3 fun i hi e => own_blk_ne h3 h.wkr.blk (by decide) (e ▸ hi)⟩
  · have h4 := hk.own h.wait fun i hi e => own_blk_ne h.wait h.wkr.blk (by decide) (e ▸ hi)
    have hwl : wl.length = k := by have := h.wlen; rw [List.length_append] at this; simpa using this
    rcases h4.2 with ⟨_, h0⟩ | ⟨g', cap, cur, hv, hg', hb', hn', hm', hs', ht'⟩
    · omega
    · injection hv with hv1 hv2 hv3
      subst hv1 hv3
      refine ⟨by simp [intc, hwl], .inr ⟨g', _, cur, rfl, hg', hb', by omega, hm', hs', ?_⟩⟩
      have h5 := congrArg (List.take k) ht'
      rw [List.take_take] at h5
      rw [show k * 1 = min k ((k + 1) * 1) by omega, h5]
      unfold intc
      rw [List.map_append, List.take_append_of_le_length (by simp [hwl])]
      rw [List.take_of_length_le (by simp [hwl])]
theorem WS.fnAt (h : WS w B g ra sa A n c rs r m l wl vs WA wk wcap) : FnAt w B l (.slice (some ⟨ra, 0, none⟩) m m) (.slice (some ⟨sa, 0, none⟩) m m) :=
  ⟨ra, sa, m, vs, rfl, rfl, h.len, h.small, h.reached, h.stacks, h.vlen, h.bra, h.bsa, h.vat⟩
end
set_option maxRecDepth 100000 in
set_option maxHeartbeats 3200000 in
theorem walk_any (B g n c m : Nat) (A : Option Addr) (rs : List Raw) (r : Raw) (w : World) (h : Wk w B g A n c rs r (.slice none 0 0) (.slice none 0 0) (.slice none 0 0)) (hm : r.fn.code.length = m) (hm1 : m ≤ 256) (href : ∀ i ∈ r.fn.code, insRef (fns rs) r.fn i = true) :
    Calls Try.prog 31 #[.pointer (some ⟨g, 0, none⟩)] w (WalkPost w B g n c A rs r) := by
  obtain ⟨d0, d1, d2, d3, d4, d5, d6, d7, d8⟩ := h.cells
  rw [hm] at d5
  have hg := h.blk.lt
  have f6 := h.blk.frozen 6
  have f7 := h.blk.frozen 7
  have H := Lib.hid h
  have HM := Lib.hid hm
  have hmk1 : ∀ W : World, (Instr.makeSlice 39 (.int .i64 m) (.int .i64 m)).run Try.prog W = .ok (.slice (some ⟨W.heap.size, 0, none⟩) m m) (W.alloc (.cells (madeCells #[.bool false] m) 4)) := fun W => run_make_row' _ _ _ 1 Try.underlying39 Try.info4 rfl .i64 .i64 m (by omega) (by omega) W
  have hmk2 : ∀ W : World, (Instr.makeSlice 41 (.int .i64 m) (.int .i64 m)).run Try.prog W = .ok (.slice (some ⟨W.heap.size, 0, none⟩) m m) (W.alloc (.cells (madeCells #[.slice none 0 0] m) 43)) := fun W => run_make_row' _ _ _ 24 Try.underlying41 Try.info43 rfl .i64 .i64 m (by omega) (by omega) W
  clear h hm
  go_enter Try.func31, Try.ntmps31
  go_upto_region 3 with fail
  have HI0 := Lib.hid (WS.init H.out HM.out hm1)
  obtain ⟨W3, hW3⟩ : ∃ W3, W3 = ((((w.setCell ⟨g, 6, none⟩ (.slice (some ⟨w.heap.size, 0, none⟩) m m)).setCell ⟨g, 7, none⟩ (.slice (some ⟨w.heap.size + 1, 0, none⟩) m m)).alloc (.cells (madeCells #[.bool false] m) 4)).alloc (.cells (madeCells #[.slice none 0 0] m) 43)) := ⟨_, rfl⟩
  rw [← hW3] at HI0 ⊢
  have HAR := Lib.hid (arrive_any B g w.heap.size (w.heap.size + 1) n c m 0 0 0 0 0 0 A none none rs r (List.replicate m none) [] (List.replicate m (.slice none 0 0)) [] W3 HI0.out.1 (own_none _ _ _ _) (by omega) (fun j s2 h2 => by rw [List.getElem?_replicate] at h2; split at h2 <;> simp at h2) (by omega) (by omega))
  clear hW3 hmk1 hmk2 d0 d1 d2 d3 d4 d5 d6 d7 d8 f6 f7
  go_wp2_with (go_at_call 46; refine HAR.out.mono ?_; rintro e w5 ⟨ok, rfl, hkp, hcase⟩; have HKP := Lib.hid hkp; have HC5 := Lib.hid hcase; clear hkp hcase; refine Hid.out ?_)
  have HK5 : Hid (Kp w w5 (fun i => i = g)) := Lib.hid (HI0.out.2.trans HKP.out (by
    rintro i hi (rfl | rfl | rfl | hx)
    · rfl
    · omega
    · omega
    · cases hx))
  have HST : Hid ((ok = false ∧ ¬ Fine (fns rs) r.fn) ∨ (ok = true ∧ ∃ l wl vs WA wk wcap, WS w5 B g w.heap.size (w.heap.size + 1) A n c rs r m l wl vs WA wk wcap ∧ Inv (fns rs) r.fn l wl ∧ 2 * cnt l + wl.length ≤ 2000 ∧ (∀ q, (Value.slice WA wk wcap).ownBlock = some q → w.heap.size ≤ q))) := Lib.hid (by
    rcases HC5.out with ⟨rfl, hb⟩ | ⟨rfl, l', wl', vs', WA', wk', wcap', hws, hwt, hc⟩
    · refine .inl ⟨rfl, ?_⟩
      rcases hb with hb | ⟨s2, h2, _⟩
      · exact not_fine_code .base (List.getElem?_eq_none (by rw [HM.out]; exact hb))
      · rw [List.getElem?_replicate] at h2; split at h2 <;> simp at h2
    · rcases hc with ⟨h2, _⟩ | ⟨h2, rfl, rfl⟩
      · rw [List.getElem?_replicate] at h2; split at h2 <;> simp at h2
      · have h0 : 0 < m := by
          have := (List.getElem?_eq_some_iff.1 h2).1
          simpa using this
        have hinv := Inv.start (fs := fns rs) (f := r.fn) (by rw [HM.out]; exact h0)
        rw [HM.out] at hinv
        refine .inr ⟨rfl, _, _, vs', WA', wk', wcap', hws, hinv, ?_, fun q hq => ?_⟩
        · have h3 := cnt_le ((List.replicate m none).set 0 (some ([] : Stk)))
          rw [List.length_set, List.length_replicate] at h3
          simp
          omega
        · rcases hwt with ht | ⟨j, hj, hz⟩
          · rw [ht] at hq; cases hq
          · rw [hj] at hq; injection hq with hq; subst hq; have := HI0.out.2.size; omega)
  clear HC5 HKP HAR HI0
  refine Lib.hid ?_
  go_wp2
  go_loopg [3] 2000 (fun gk x wr => ∃ ok, x = .bool ok ∧ Hid (Kp w wr (fun i => i = g)) ∧ Hid ((ok = false ∧ ¬ Fine (fns rs) r.fn) ∨ (ok = true ∧ ∃ l wl vs WA wk wcap, WS wr B g w.heap.size (w.heap.size + 1) A n c rs r m l wl vs WA wk wcap ∧ Inv (fns rs) r.fn l wl ∧ 2 * cnt l + wl.length ≤ gk ∧ gk ≤ 2000 ∧ (∀ q, (Value.slice WA wk wcap).ownBlock = some q → w.heap.size ≤ q))))
  case atStart => exact ⟨ok, rfl, HK5, Lib.hid (HST.out.imp (fun h => h) fun ⟨h1, l, wl, vs, WA, wk, wcap, h2, h3, h4, h5⟩ => ⟨h1, l, wl, vs, WA, wk, wcap, h2, h3, h4, Nat.le_refl _, h5⟩)⟩
  case round =>
    clear HST HK5
    obtain ⟨ok, rfl, HK, HS⟩ := hrel
    have hzr := HK.out.size
    rcases HS.out with ⟨rfl, hnf⟩ | ⟨rfl, l, wl, vs, WA, wk, wcap, hws, hinv, hmeas, hgk, hwv⟩
    · have HNF := Lib.hid hnf
      clear hnf
      go_wp2
      go_ret
      exact ⟨false, rfl, HK.out, .inl ⟨rfl, HNF.out⟩⟩
    · have e8 : wr.cell? ⟨g, 8, none⟩ = some (.slice WA wk wcap) := hws.wkr.cells.2.2.2.2.2.2.2.2
      have f8 := hws.wkr.blk.frozen 8
      have hgr := hws.wkr.blk.lt
      have HWS := Lib.hid hws
      have HINV := Lib.hid hinv
      have HWV := Lib.hid hwv
      rcases List.eq_nil_or_concat wl with hwl | ⟨wl0, a, hwl⟩
      · have hwk0 : wk = 0 := by have := hws.wlen; rw [hwl] at this; simpa using this.symm
        have HNIL := Lib.hid hwl
        clear hwl hws hinv hwv
        subst hwk0
        go_wp2
        go_ret
        exact ⟨true, rfl, HK.out, .inr ⟨rfl, l, _, _, _, (by have h := HINV.out; rw [HNIL.out] at h; exact h.sol), HWS.out.wkr, HWS.out.fnAt⟩⟩
      · rw [List.concat_eq_append] at hwl
        subst hwl
        obtain ⟨k, hk⟩ : ∃ k, wk = k + 1 := ⟨wl0.length, by have := hws.wlen; rw [List.length_append] at this; simpa using this.symm⟩
        subst hk
        have hlk : wl0.length = k := by have := hws.wlen; rw [List.length_append] at this; simpa using this
        obtain ⟨bl, off, x, hWA, hbl, HX, y0⟩ := NewI.at_ (b := 0) (Reads.of_own hws.wait) (j := k) (by omega)
        have hxa : x = a := by have h := HX.out; rw [List.getElem?_append_right (by omega), hlk] at h; simpa using h.symm
        subst hxa
        have hkc : k + 1 ≤ wcap := own_cap hws.wait
        obtain ⟨hp, hkp⟩ := hws.pop
        have HP := Lib.hid hp
        have HKP := Lib.hid hkp
        have hk1 : ((k : Int) + 1) - 1 = (k : Int) := by omega
        have h0k : (0 : Int) ≤ (k : Int) := by omega
        have hkk : (k : Int) < (k : Int) + 1 := by omega
        have hkn : k < k + 1 := by omega
        have hkw : k ≤ wcap := by omega
        have HMS := Lib.hid hmeas
        rw [List.length_append] at hmeas
        have hm2 : 2 * cnt l + wl0.length + 1 ≤ gk := by simp at hmeas; omega
        have hm3 : 2 * cnt l + wl0.length + 1 ≤ 2000 := by omega
        have HGO := Lib.hid (goOn_any B g w.heap.size (w.heap.size + 1) n c m k wcap x A WA rs r l wl0 vs _ hp (hinv.more (fun y hy => by simp at hy ⊢; exact hy.symm) (fun y hy => hinv.opened y (by simp at hy ⊢; exact hy.symm))) href (by omega))
        have hkb : k ≤ 2000 := by omega
        have HLK := Lib.hid hlk
        subst hWA
        clear hws hinv hwv hp hkp hlk hmeas
        go_wp2_with (go_at_call 47; refine HGO.out.mono ?_; rintro e w6 ⟨ok, rfl, hkp6, hcase⟩; have HKP6 := Lib.hid hkp6; have HC6 := Lib.hid hcase; clear hkp6 hcase; refine Hid.out ?_)
        have HK6 : Hid (Kp w w6 (fun i => i = g)) := Lib.hid ((HK.out.trans HKP.out fun _ _ h => h).trans HKP6.out (by
          rintro i hi (h | h | h | hx)
          · exact h
          · omega
          · omega
          · have := HWV.out i hx; omega))
        have HR6 : Hid ((ok = false ∧ ¬ Fine (fns rs) r.fn) ∨ (ok = true ∧ ∃ l wl vs WA wk wcap, WS w6 B g w.heap.size (w.heap.size + 1) A n c rs r m l wl vs WA wk wcap ∧ Inv (fns rs) r.fn l wl ∧ 2 * cnt l + wl.length ≤ gk - 1 ∧ gk - 1 ≤ 2000 ∧ (∀ q, (Value.slice WA wk wcap).ownBlock = some q → w.heap.size ≤ q))) := Lib.hid (by
          rcases HC6.out with hc | ⟨rfl, l', wl', vs', WA', wk', wcap', h1, h2, h3, h4, h5⟩
          · exact .inl hc
          · refine .inr ⟨rfl, l', wl', vs', WA', wk', wcap', h1, h2, by omega, by omega, fun q hq => ?_⟩
            rcases h5 with h5 | ⟨q', hq', hz⟩
            · rw [h5] at hq; exact HWV.out q hq
            · rw [hq'] at hq; injection hq with hq; subst hq; have := HKP.out.size; omega)
        clear HC6 HKP6
        refine Lib.hid ?_
        go_wp2
        go_roundg (gk - 1)
        case measure => omega
        case rel => exact ⟨ok, rfl, HK6, HR6⟩
end Go.Proofs.Ytcgoanfhabjpfaa
