/-
  A copy of graphs that is widened in place: its memory.
-/
import Derived.Test.YtihfihockobpjaaCq
import Derived.Test.YtihfihockobpjaaWi
import Derived.Test.YtihfihockobpjaaFi
namespace Go.Proofs.Ytihfihockobpjaa
set_option linter.unusedVariables false
set_option linter.unusedSimpArgs false
open Go.ChangeShapes Go.WideShapes Go.ChangeAt Go.RowKit

theorem set_flat {α : Type} (f : α → List Value) (m : Nat) (hf : ∀ x, (f x).length = m) {l : List α} {k : Nat} {x y : α} (h : l[k]? = some x) (i : Nat) (u : Value) (hi : i < m) (hy : (f x).set i u = f y) : (l.flatMap f).set (k * m + i) u = (l.set k y).flatMap f := by
  induction l generalizing k with
  | nil => cases h
  | cons z l ih =>
    cases k with
    | zero =>
      obtain rfl : z = x := by simpa using h
      rw [Nat.zero_mul, Nat.zero_add, List.flatMap_cons, List.set_append_left _ _ (by rw [hf]; exact hi), hy]
      rfl
    | succ k =>
      rw [List.flatMap_cons, List.set_append_right _ _ (by rw [hf, Nat.succ_mul]; omega), hf, show (k + 1) * m + i - m = k * m + i by rw [Nat.succ_mul]; omega, ih (by simpa using h)]
      rfl
theorem rgc_kinds {rs : List RG} {k : Nat} {r : RG} (h : rs[k]? = some r) (ks : List Int) (A : Option Addr) (c : Nat) : (rgc rs).set (k * 8 + 1) (.slice A ks.length c) = rgc (rs.set k ⟨{ r.gr with kinds := ks }, r.po, r.pc, A, c, r.io, r.ic, r.no, r.nc, r.ns⟩) :=
  set_flat rgOne 8 (fun _ => rfl) h 1 _ (by decide) rfl
theorem rgc_cells {rs : List RG} {k : Nat} {r : RG} (h : rs[k]? = some r) (z : Int) : (rgc rs).set (k * 8 + 2) (.int .i64 z) = rgc (rs.set k ⟨{ r.gr with cells := z }, r.po, r.pc, r.ko, r.kc, r.io, r.ic, r.no, r.nc, r.ns⟩) :=
  set_flat rgOne 8 (fun _ => rfl) h 2 _ (by decide) rfl
/-- a widened copy under way -/
structure WI (Wb : World) (base p0 pC n c : Nat) (A A2 : Option Addr) (c2 : Nat) (gs : List Gr) (rs : List RG) (wr : World) : Prop where
  own : wr.ownsRow base 45 8 (.slice A2 n c2) n (rgc rs)
  each : ∀ r ∈ rs, OwnG wr base r
  sep : SepK rs
  wide : WideL gs (grs rs)
  wf : ∀ r ∈ rs, WfG r.gr
  b0 : Blk wr p0 24 #[.slice A n c]
  bC : Blk wr pC 24 #[.slice A2 n c2]
  below : Below base Wb wr
  bz : base ≤ Wb.heap.size
theorem mem_set {α : Type} {l : List α} {k : Nat} {x y : α} (h : y ∈ l.set k x) : y = x ∨ ∃ j, j ≠ k ∧ l[j]? = some y := by
  obtain ⟨j, hj⟩ := List.mem_iff_getElem?.1 h
  rw [List.getElem?_set] at hj
  split at hj
  · split at hj
    · exact .inl (by simpa using hj.symm)
    · cases hj
  · rename_i hne
    exact .inr ⟨j, fun e => hne e.symm, hj⟩
theorem SepK.same {rs : List RG} {k : Nat} {r r' : RG} (h : SepK rs) (hk : rs[k]? = some r) (hn : ∀ (j : Nat) (a : RG) (g : Nat), j ≠ k → rs[j]? = some a → r'.ko = some ⟨g, 0, none⟩ → a.ko ≠ some ⟨g, 0, none⟩) : SepK (rs.set k r') := by
  intro i j a b g hij ha hb hg
  rw [List.getElem?_set] at ha hb
  by_cases hki : k = i
  · subst hki
    rw [if_pos rfl, if_pos (List.getElem?_eq_some_iff.1 hk).1] at ha
    rw [if_neg hij] at hb
    obtain rfl : r' = a := by simpa using ha
    exact hn j b g (fun e => hij e.symm) hb hg
  · rw [if_neg hki] at ha
    by_cases hkj : k = j
    · subst hkj
      rw [if_pos rfl, if_pos (List.getElem?_eq_some_iff.1 hk).1] at hb
      obtain rfl : r' = b := by simpa using hb
      intro hbg
      exact hn i a g (fun e => hki e.symm) ha hbg hg
    · rw [if_neg hkj] at hb
      exact h i j a b g hij ha hb hg
theorem WfG.kinds_ {g : Gr} {x : Int} (h : WfG g) (hx : x = 0 ∨ x = 1) (hl : g.kinds.length < 1024) : WfG { g with kinds := g.kinds ++ [x] } :=
  ⟨h.params, (fun y hy => by
    rcases List.mem_append.1 hy with hy | hy
    · exact h.kinds y hy
    · rw [show y = x by simpa using hy]; rcases hx with rfl | rfl <;> decide), h.cells, h.init, h.keep, h.nodes, h.entry, h.pl, (by show (g.kinds ++ [x]).length ≤ _; rw [List.length_append]; simp; omega), h.il, h.nl⟩
theorem WfG.cells_ {g : Gr} {z : Int} (h : WfG g) (hz : I64 z) : WfG { g with cells := z } :=
  ⟨h.params, h.kinds, hz, h.init, h.keep, h.nodes, h.entry, h.pl, h.kl, h.il, h.nl⟩
theorem grs_set (rs : List RG) (k : Nat) (r : RG) : grs (rs.set k r) = (grs rs).set k r.gr := by unfold grs; rw [List.map_set]
section
variable {Wb wr w4 : World} {base p0 pC n c c2 k g : Nat} {A A2 : Option Addr} {gs : List Gr} {rs : List RG} {r : RG}
theorem WI.wideAt (h : WI Wb base p0 pC n c A A2 c2 gs rs wr) (hk : rs[k]? = some r) : ∃ a, gs[k]? = some a ∧ Wide a r.gr := by
  have hkl := (List.getElem?_eq_some_iff.1 hk).1
  have hl : k < gs.length := by rw [← h.wide.len, length_grs]; exact hkl
  exact ⟨gs[k], List.getElem?_eq_getElem hl, h.wide.each k _ _ (List.getElem?_eq_getElem hl) (by unfold grs; rw [List.getElem?_map, hk]; rfl)⟩
theorem WI.kind (o : Obj) {x : Int} {v' : Value} (h : WI Wb base p0 pC n c A A2 c2 gs rs wr) (hA : A2 = some ⟨g, 0, none⟩) (hk : rs[k]? = some r) (hl : r.gr.kinds.length < 1024) (hx : x = 0 ∨ x = 1)
    (hown : w4.ownsRow base 46 1 v' (r.gr.kinds.length + 1) (u8c r.gr.kinds ++ [.int .u8 x])) (hgr : (wr.alloc o).grownBy w4 (Value.slice r.ko r.gr.kinds.length r.kc).ownBlock)
    (hor : v'.ownBlock = (Value.slice r.ko r.gr.kinds.length r.kc).ownBlock ∨ v'.ownBlock = some (wr.alloc o).heap.size) :
    ∃ A4 c4, v' = .slice A4 (r.gr.kinds.length + 1) c4 ∧ w4.cell? ⟨g, k * 8 + 1, none⟩ = some (.slice r.ko r.gr.kinds.length r.kc) ∧ w4.frozen? ⟨g, k * 8 + 1, none⟩ = false ∧
      WI Wb base p0 pC n c A A2 c2 gs (rs.set k ⟨{ r.gr with kinds := r.gr.kinds ++ [x] }, r.po, r.pc, A4, c4, r.io, r.ic, r.no, r.nc, r.ns⟩) (w4.setCell ⟨g, k * 8 + 1, none⟩ (.slice A4 (r.gr.kinds.length + 1) c4)) := by
  subst hA
  obtain ⟨A4, c4, rfl⟩ := own_slice hown
  have hm := List.mem_of_getElem? hk
  have hrk := (h.each r hm).kinds
  have hrk' := own_alloc hrk o
  have hz : (wr.alloc o).heap.size = wr.heap.size + 1 := by simp
  have ho4 := own_grown hrk' (own_alloc h.own o) hgr (by decide)
  obtain ⟨cur, hcur⟩ := own_blk ho4
  obtain ⟨g', e1, hgb, hgl, e2, e3⟩ := own_at ho4 (rgc_at hk).2.1
  obtain rfl : g = g' := by injection e1 with e1; injection e1
  have hb0 := blk_grown (h.b0.alloc o) hrk' hgr (by decide)
  have hbC := blk_grown (h.bC.alloc o) hrk' hgr (by decide)
  have keepO : ∀ (j : Nat) (a : RG), j ≠ k → rs[j]? = some a → OwnG (w4.setCell ⟨g, k * 8 + 1, none⟩ (.slice A4 (r.gr.kinds.length + 1) c4)) base a := fun j a hj ha => by
    have ho := h.each a (List.mem_of_getElem? ha)
    refine ⟨own_far (own_grown hrk' (own_alloc ho.params o) hgr (by decide)) hcur (by decide) _ _, own_far (own_kept (own_alloc ho.kinds o) fun i hi => hgr.block i (own_block_le (own_alloc ho.kinds o) hi).2 ?_) hcur (by decide) _ _, own_far (own_grown hrk' (own_alloc ho.init o) hgr (by decide)) hcur (by decide) _ _, own_far (own_grown hrk' (own_alloc ho.nodes o) hgr (by decide)) hcur (by decide) _ _, fun i hi => own_far (own_grown hrk' (own_alloc (ho.each i hi) o) hgr (by decide)) hcur (by decide) _ _, ho.nd⟩
    intro e
    rcases ho.kinds.2 with ⟨e0, _⟩ | ⟨ga, _, _, e0, _⟩
    · injection e0 with e0; rw [e0] at hi; cases hi
    rcases hrk.2 with ⟨f0, _⟩ | ⟨gr', _, _, f0, _⟩
    · injection f0 with f0; rw [f0] at e; cases e
    injection e0 with e0
    injection f0 with f0
    rw [e0] at hi
    rw [f0] at e
    have h1 : ga = i := by simpa [Value.ownBlock] using hi
    have h2 : i = gr' := by simpa [Value.ownBlock] using e
    exact h.sep j k a r ga hj ha hk e0 (by rw [f0, h1, h2])
  have ho := h.each r hm
  refine ⟨A4, c4, rfl, e2, e3, ⟨?_, fun a ha => ?_, h.sep.same hk fun j a q hj ha hq => ?_, ?_, fun a ha => ?_, hb0.far (p := ⟨g, k * 8 + 1, none⟩) (hb0.ne_ hcur (by decide)) _, hbC.far (p := ⟨g, k * 8 + 1, none⟩) (hbC.ne_ hcur (by decide)) _, ?_, h.bz⟩⟩
  · have := own_set (i := k * 8 + 1) (u := .slice A4 (r.gr.kinds.length + 1) c4) ho4
    rw [show r.gr.kinds.length + 1 = (r.gr.kinds ++ [x]).length by simp] at this ⊢
    rwa [rgc_kinds hk] at this
  · rcases mem_set ha with rfl | ⟨j, hj, ha⟩
    · refine ⟨own_far (own_grown hrk' (own_alloc ho.params o) hgr (by decide)) hcur (by decide) _ _, ?_, own_far (own_grown hrk' (own_alloc ho.init o) hgr (by decide)) hcur (by decide) _ _, own_far (own_grown hrk' (own_alloc ho.nodes o) hgr (by decide)) hcur (by decide) _ _, fun i hi => own_far (own_grown hrk' (own_alloc (ho.each i hi) o) hgr (by decide)) hcur (by decide) _ _, ho.nd⟩
      show World.ownsRow _ base _ 1 (.slice A4 (r.gr.kinds ++ [x]).length c4) (r.gr.kinds ++ [x]).length (u8c (r.gr.kinds ++ [x]))
      rw [List.length_append, u8c_append]
      exact own_far hown hcur (by decide) _ _
    · exact keepO j a hj ha
  · intro haq
    have hoa := (h.each a (List.mem_of_getElem? ha)).kinds
    have hlt := (own_block_le hoa (i := q) (by rw [haq]; rfl)).2
    have hq : A4 = some ⟨q, 0, none⟩ := hq
    rw [hq] at hor
    rcases hor with e | e
    · rcases hrk.2 with ⟨f0, _⟩ | ⟨gr', _, _, f0, _⟩
      · injection f0 with f0; rw [f0] at e; cases e
      injection f0 with f0
      rw [f0] at e
      have h1 : q = gr' := by simpa [Value.ownBlock] using e
      exact h.sep j k a r q hj ha hk haq (by rw [f0, h1])
    · have h1 : q = (wr.alloc o).heap.size := by simpa [Value.ownBlock] using e
      omega
  · rw [grs_set]
    obtain ⟨a, ha, hw⟩ := h.wideAt hk
    exact h.wide.set_ ha (hw.grow hx hl)
  · rcases mem_set ha with rfl | ⟨j, hj, ha⟩
    · exact (h.wf r hm).kinds_ hx hl
    · exact h.wf a (List.mem_of_getElem? ha)
  · exact ((h.below.alloc (Nat.le_trans h.bz h.below.size) o).grown hgr (by have := h.below.size; have := h.bz; omega) fun i hi => (own_block_le hrk hi).1).setCell (p := ⟨g, k * 8 + 1, none⟩) hgb _
theorem WI.cell (h : WI Wb base p0 pC n c A A2 c2 gs rs wr) (hA : A2 = some ⟨g, 0, none⟩) (hk : rs[k]? = some r) {z : Int} (h0 : r.gr.cells ≤ z) (h1 : z ≤ 64) :
    WI Wb base p0 pC n c A A2 c2 gs (rs.set k ⟨{ r.gr with cells := z }, r.po, r.pc, r.ko, r.kc, r.io, r.ic, r.no, r.nc, r.ns⟩) (wr.setCell ⟨g, k * 8 + 2, none⟩ (.int .i64 z)) := by
  subst hA
  have hm := List.mem_of_getElem? hk
  obtain ⟨cur, hcur⟩ := own_blk h.own
  obtain ⟨g', e1, hgb, hgl, e2, e3⟩ := own_at h.own (rgc_at hk).2.2.1
  obtain rfl : g = g' := by injection e1 with e1; injection e1
  have keepO : ∀ a ∈ rs, OwnG (wr.setCell ⟨g, k * 8 + 2, none⟩ (.int .i64 z)) base a := fun a ha => by
    have ho := h.each a ha
    exact ⟨own_far ho.params hcur (by decide) _ _, own_far ho.kinds hcur (by decide) _ _, own_far ho.init hcur (by decide) _ _, own_far ho.nodes hcur (by decide) _ _, fun i hi => own_far (ho.each i hi) hcur (by decide) _ _, ho.nd⟩
  refine ⟨?_, fun a ha => ?_, h.sep.same hk fun j a q hj ha hq haq => h.sep k j r a q (fun e => hj e.symm) hk ha hq haq, ?_, fun a ha => ?_, h.b0.far (p := ⟨g, k * 8 + 2, none⟩) (h.b0.ne_ hcur (by decide)) _, h.bC.far (p := ⟨g, k * 8 + 2, none⟩) (h.bC.ne_ hcur (by decide)) _, h.below.setCell (p := ⟨g, k * 8 + 2, none⟩) hgb _, h.bz⟩
  · have := own_set (i := k * 8 + 2) (u := .int .i64 z) h.own
    rwa [rgc_cells hk] at this
  · rcases mem_set ha with rfl | ⟨j, hj, ha⟩
    · have ho := keepO r hm
      exact ⟨ho.params, ho.kinds, ho.init, ho.nodes, ho.each, ho.nd⟩
    · exact keepO a (List.mem_of_getElem? ha)
  · rw [grs_set]
    obtain ⟨a, ha, hw⟩ := h.wideAt hk
    exact h.wide.set_ ha (hw.cells_ h0 h1)
  · rcases mem_set ha with rfl | ⟨j, hj, ha⟩
    · exact (h.wf r hm).cells_ ⟨by have := (h.wf r hm).cells.1; omega, by omega⟩
    · exact h.wf a (List.mem_of_getElem? ha)
theorem WI.last {v' : Value} (h : WI Wb base p0 pC n c A A2 c2 gs rs wr) (hn : n ≤ 15) (hp : p0 ≠ pC) (hpC : base ≤ pC)
    (hown : w4.ownsRow base 45 8 v' (n + 1) (rgc rs ++ rgOne (rg0 wr.heap.size)))
    (hgr : ((wr.alloc (.cells #[.int .u8 12, .int .u8 0, .int .i64 0, .int .i64 0, .int .i64 (-1), .int .i64 0, .int .i64 0, .int .i64 0, .int .u64 0, .slice none 0 0, .int .i64 0, .int .i64 0] 38)).alloc (.cells #[.slice none 0 0, .slice none 0 0, .int .i64 0, .slice none 0 0, .bool false, .int .i64 (-1), .slice (some ⟨wr.heap.size, 0, none⟩) 1 1, .int .i64 0] 45)).grownBy w4 (Value.slice A2 n c2).ownBlock) :
    ∃ A4 c4, v' = .slice A4 (n + 1) c4 ∧ w4.cell? ⟨pC, 0, none⟩ = some (.slice A2 n c2) ∧ w4.frozen? ⟨pC, 0, none⟩ = false ∧
      RdP (w4.setCell ⟨pC, 0, none⟩ (.slice A4 (n + 1) c4)) (w4.setCell ⟨pC, 0, none⟩ (.slice A4 (n + 1) c4)).heap.size A4 (n + 1) (rs ++ [rg0 wr.heap.size]) ∧ Below base Wb (w4.setCell ⟨pC, 0, none⟩ (.slice A4 (n + 1) c4)) ∧
      Blk (w4.setCell ⟨pC, 0, none⟩ (.slice A4 (n + 1) c4)) p0 24 #[.slice A n c] ∧ Blk (w4.setCell ⟨pC, 0, none⟩ (.slice A4 (n + 1) c4)) pC 24 #[.slice A4 (n + 1) c4] := by
  obtain ⟨A4, c4, rfl⟩ := own_slice hown
  have hx : Blk ((wr.alloc (.cells #[.int .u8 12, .int .u8 0, .int .i64 0, .int .i64 0, .int .i64 (-1), .int .i64 0, .int .i64 0, .int .i64 0, .int .u64 0, .slice none 0 0, .int .i64 0, .int .i64 0] 38)).alloc (.cells #[.slice none 0 0, .slice none 0 0, .int .i64 0, .slice none 0 0, .bool false, .int .i64 (-1), .slice (some ⟨wr.heap.size, 0, none⟩) 1 1, .int .i64 0] 45)) wr.heap.size 38 #[.int .u8 12, .int .u8 0, .int .i64 0, .int .i64 0, .int .i64 (-1), .int .i64 0, .int .i64 0, .int .i64 0, .int .u64 0, .slice none 0 0, .int .i64 0, .int .i64 0] := (Blk.new wr _ _).alloc _
  have ho2 := own_alloc (own_alloc h.own (.cells #[.int .u8 12, .int .u8 0, .int .i64 0, .int .i64 0, .int .i64 (-1), .int .i64 0, .int .i64 0, .int .i64 0, .int .u64 0, .slice none 0 0, .int .i64 0, .int .i64 0] 38)) (.cells #[.slice none 0 0, .slice none 0 0, .int .i64 0, .slice none 0 0, .bool false, .int .i64 (-1), .slice (some ⟨wr.heap.size, 0, none⟩) 1 1, .int .i64 0] 45)
  have hx4 := blk_grown hx ho2 hgr (by decide)
  have hb0 := blk_grown ((h.b0.alloc _).alloc _) ho2 hgr (by decide)
  have hbC := blk_grown ((h.bC.alloc _).alloc _) ho2 hgr (by decide)
  have hx5 := hx4.far (p := ⟨pC, 0, none⟩) (hx4.ne_ hbC (by decide)) (.slice A4 (n + 1) c4)
  have ho5 := own_far hown hbC (by decide) 0 (.slice A4 (n + 1) c4)
  have hlen : rs.length = n := by
    have := h.own.1
    rw [length_rgc] at this
    omega
  have hbel : Below base Wb (w4.setCell ⟨pC, 0, none⟩ (.slice A4 (n + 1) c4)) := by
    refine (Below.grown ((h.below.alloc (Nat.le_trans h.bz h.below.size) _).alloc (by have := h.below.size; have := h.bz; simp; omega) _) hgr (by have := h.below.size; have := h.bz; simp; omega) fun i hi => (own_block_le h.own hi).1).setCell (p := ⟨pC, 0, none⟩) hpC _
  refine ⟨A4, c4, rfl, hbC.cell 0, hbC.frozen 0, ⟨?_, ?_, fun r hr => ?_, fun r hr => ?_, by omega⟩, hbel, hb0.far (p := ⟨pC, 0, none⟩) hp _, hbC.set_ 0 _⟩
  · have := Reads.of_own ho5
    rw [rgc_append]
    have e : rgc [rg0 wr.heap.size] = rgOne (rg0 wr.heap.size) := by simp [rgc]
    rw [e]
    exact this
  · rw [List.length_append, hlen]; rfl
  · rcases List.mem_append.1 hr with hr | hr
    · have ho := h.each r hr
      have ho' : OwnG (w4.setCell ⟨pC, 0, none⟩ (.slice A4 (n + 1) c4)) base r := ((ho.alloc _).alloc _ |>.grown ho2 hgr).farG hbC 0
      exact ho'.rd (h.wf r hr)
    · obtain rfl : r = rg0 wr.heap.size := by simpa using hr
      refine ⟨Reads.none_, Reads.none_, Reads.none_, ⟨⟨rfl, fun _ => ⟨⟨wr.heap.size, 0, none⟩, rfl, hx5.lt, fun j u hj => ?_⟩⟩, rfl, fun i hi => ?_, fun i hi => ?_⟩, rfl, Nat.le_refl _⟩
      · have ea : (⟨wr.heap.size, 0, none⟩ : Addr).add j = ⟨wr.heap.size, j, none⟩ := by simp [Addr.add]; exact Eq.symm
        rw [ea, hx5.cell]
        have hj : (rnOne ⟨nd0, none, 0⟩)[j]? = some u := by simpa [rg0, rnc] using hj
        rw [← hj]
        simp [rnOne, nd0]
      · obtain rfl : i = ⟨nd0, none, 0⟩ := by simpa [rg0] using hi
        exact ⟨Reads.none_, Nat.le_refl _⟩
      · obtain rfl : i = ⟨nd0, none, 0⟩ := by simpa [rg0] using hi
        exact wfn0
  · rcases List.mem_append.1 hr with hr | hr
    · exact h.wf r hr
    · obtain rfl : r = rg0 wr.heap.size := by simpa using hr
      exact wfg0
end
end Go.Proofs.Ytihfihockobpjaa
