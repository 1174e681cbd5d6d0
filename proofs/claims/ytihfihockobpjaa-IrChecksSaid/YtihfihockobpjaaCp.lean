/-
  Package ir: newList; what a copy of graphs is in memory.
-/
import Derived.Test.YtihfihockobpjaaOwn
namespace Go.Proofs.Ytihfihockobpjaa
set_option linter.unusedVariables false
set_option linter.unusedSimpArgs false
open Go.ChangeShapes Go.WideShapes Go.ChangeAt Go.RowKit

theorem newList_int (B : Nat) (A : Option Addr) (n c : Nat) (xs : List Value) (w : World) (h : Reads w B 1 A n xs) (h1 : ∀ u ∈ xs, u.oneCell' = true) (hb : n * 8 ≤ 140737488351232) (hB : B ≤ w.heap.size) :
    Calls Try.prog 38 #[.slice A n c] w fun e w' => ∃ A' c', e = .returned (.slice A' n c') ∧ w'.ownsRow w.heap.size 3 1 (.slice A' n c') n xs ∧ Below w.heap.size w w' := by
  have H := Lib.hid h
  have HE : Hid (w.ownsRow w.heap.size 3 1 (.slice none 0 0) 0 []) := own_none _ _ _ _
  have H1 := Lib.hid h1
  clear h h1
  go_enter Try.func38, Try.ntmps38
  go_wp2_with (at_builtin; refine app_int rfl _ _ rfl w.heap.size (.slice none 0 0) 0 [] rfl HE.out B A n c xs rfl H.out H1.out (by omega) (Nat.le_refl _) ?_; intro v w2 hown hgr _; refine Hid.out ?_)
  rw [Nat.zero_add, List.nil_append] at hown
  obtain ⟨A2, c2, rfl⟩ := own_slice hown
  have HB2 : Hid (Below w.heap.size w w2) := Lib.hid ((Below.refl _ _).grown hgr (Nat.le_refl _) fun i hi => (own_block_le HE.out hi).1)
  have HO := Lib.hid hown
  clear hown hgr
  refine Lib.hid ?_
  go_wp2
  go_ret
  exact ⟨A2, c2, rfl, HO.out, HB2.out⟩

theorem newList_kind (B : Nat) (A : Option Addr) (n c : Nat) (xs : List Value) (w : World) (h : Reads w B 1 A n xs) (h1 : ∀ u ∈ xs, u.oneCell' = true) (hb : n * 1 ≤ 140737488351232) (hB : B ≤ w.heap.size) :
    Calls Try.prog 39 #[.slice A n c] w fun e w' => ∃ A' c', e = .returned (.slice A' n c') ∧ w'.ownsRow w.heap.size 46 1 (.slice A' n c') n xs ∧ Below w.heap.size w w' := by
  have H := Lib.hid h
  have HE : Hid (w.ownsRow w.heap.size 46 1 (.slice none 0 0) 0 []) := own_none _ _ _ _
  have H1 := Lib.hid h1
  clear h h1
  go_enter Try.func39, Try.ntmps39
  go_wp2_with (at_builtin; refine app_kind rfl _ _ rfl w.heap.size (.slice none 0 0) 0 [] rfl HE.out B A n c xs rfl H.out H1.out (by omega) (Nat.le_refl _) ?_; intro v w2 hown hgr _; refine Hid.out ?_)
  rw [Nat.zero_add, List.nil_append] at hown
  obtain ⟨A2, c2, rfl⟩ := own_slice hown
  have HB2 : Hid (Below w.heap.size w w2) := Lib.hid ((Below.refl _ _).grown hgr (Nat.le_refl _) fun i hi => (own_block_le HE.out hi).1)
  have HO := Lib.hid hown
  clear hown hgr
  refine Lib.hid ?_
  go_wp2
  go_ret
  exact ⟨A2, c2, rfl, HO.out, HB2.out⟩

theorem newList_node (B : Nat) (A : Option Addr) (n c : Nat) (xs : List Value) (w : World) (h : Reads w B 12 A n xs) (h1 : ∀ u ∈ xs, u.oneCell' = true) (hb : n * 104 ≤ 140737488351232) (hB : B ≤ w.heap.size) :
    Calls Try.prog 40 #[.slice A n c] w fun e w' => ∃ A' c', e = .returned (.slice A' n c') ∧ w'.ownsRow w.heap.size 38 12 (.slice A' n c') n xs ∧ Below w.heap.size w w' := by
  have H := Lib.hid h
  have HE : Hid (w.ownsRow w.heap.size 38 12 (.slice none 0 0) 0 []) := own_none _ _ _ _
  have H1 := Lib.hid h1
  clear h h1
  go_enter Try.func40, Try.ntmps40
  go_wp2_with (at_builtin; refine app_node rfl _ _ rfl w.heap.size (.slice none 0 0) 0 [] rfl HE.out B A n c xs rfl H.out H1.out (by omega) (Nat.le_refl _) ?_; intro v w2 hown hgr _; refine Hid.out ?_)
  rw [Nat.zero_add, List.nil_append] at hown
  obtain ⟨A2, c2, rfl⟩ := own_slice hown
  have HB2 : Hid (Below w.heap.size w w2) := Lib.hid ((Below.refl _ _).grown hgr (Nat.le_refl _) fun i hi => (own_block_le HE.out hi).1)
  have HO := Lib.hid hown
  clear hown hgr
  refine Lib.hid ?_
  go_wp2
  go_ret
  exact ⟨A2, c2, rfl, HO.out, HB2.out⟩

theorem own_set {w : World} {base size n c g i : Nat} {e : TypeId} {xs : List Value} {u : Value} (h : w.ownsRow base e size (.slice (some ⟨g, 0, none⟩) n c) n xs) : (w.setCell ⟨g, i, none⟩ u).ownsRow base e size (.slice (some ⟨g, 0, none⟩) n c) n (xs.set i u) := by
  obtain ⟨h1, h2⟩ := h
  refine ⟨by rw [List.length_set]; exact h1, ?_⟩
  rcases h2 with ⟨h2, _⟩ | ⟨g', cap, cur, he, hg, hb, hn, hm, hc, ht⟩
  · cases h2
  · injection he with he hc1 hc2
    injection he with he
    injection he with he
    subst he hc2
    refine .inr ⟨g, c, cur.setIfInBounds i u, rfl, hg, Blk.set_ (t := e) (cs := cur) hb i u, hn, hm, by simpa using hc, ?_⟩
    rw [← ht]
    simp [List.take_set]
theorem own_at {w : World} {base size n c i : Nat} {e : TypeId} {A : Option Addr} {xs : List Value} {u : Value} (h : w.ownsRow base e size (.slice A n c) n xs) (hu : xs[i]? = some u) : ∃ g, A = some ⟨g, 0, none⟩ ∧ base ≤ g ∧ g < w.heap.size ∧ w.cell? ⟨g, i, none⟩ = some u ∧ w.frozen? ⟨g, i, none⟩ = false := by
  have hl := (List.getElem?_eq_some_iff.1 hu).1
  rcases h.2 with ⟨h2, h3⟩ | ⟨g, cap, cur, he, hg, hb, hn, hm, hc, ht⟩
  · exfalso
    have := h.1
    rw [h3, Nat.zero_mul] at this
    omega
  · injection he with he
    have hB : Blk w g e cur := hb
    refine ⟨g, he, hg, hB.lt, ?_, hB.frozen i⟩
    rw [hB.cell]
    rw [← ht, List.getElem?_take] at hu
    split at hu
    · rw [← Array.getElem?_toList]; exact hu
    · cases hu
/-- a node whose arguments are the call's own -/
def OwnN (w : World) (base : Nat) (i : RN) : Prop := w.ownsRow base 3 1 (.slice i.ao i.nd.args.length i.ac) i.nd.args.length (i64c i.nd.args)
/-- a graph whose rows are the call's own -/
structure OwnG (w : World) (base : Nat) (r : RG) : Prop where
  params : w.ownsRow base 3 1 (.slice r.po r.gr.params.length r.pc) r.gr.params.length (i64c r.gr.params)
  kinds : w.ownsRow base 46 1 (.slice r.ko r.gr.kinds.length r.kc) r.gr.kinds.length (u8c r.gr.kinds)
  init : w.ownsRow base 3 1 (.slice r.io r.gr.init.length r.ic) r.gr.init.length (i64c r.gr.init)
  nodes : w.ownsRow base 38 12 (.slice r.no r.gr.nodes.length r.nc) r.gr.nodes.length (rnc r.ns)
  each : ∀ i ∈ r.ns, OwnN w base i
  nd : nds r.ns = r.gr.nodes
theorem own_below {w w' : World} {base size n : Nat} {e : TypeId} {v : Value} {xs : List Value} (h : w.ownsRow base e size v n xs) (hb : Below w.heap.size w w') : w'.ownsRow base e size v n xs :=
  own_kept h fun i hi => hb.block i (own_block_le h hi).2
theorem OwnN.below {w w' : World} {base : Nat} {i : RN} (h : OwnN w base i) (hb : Below w.heap.size w w') : OwnN w' base i := own_below h hb
theorem OwnG.below {w w' : World} {base : Nat} {r : RG} (h : OwnG w base r) (hb : Below w.heap.size w w') : OwnG w' base r :=
  ⟨own_below h.params hb, own_below h.kinds hb, own_below h.init hb, own_below h.nodes hb, fun i hi => (h.each i hi).below hb, h.nd⟩
theorem OwnG.more {w : World} {base base' : Nat} {r : RG} (h : OwnG w base r) (hb : base' ≤ base) : OwnG w base' r :=
  ⟨own_more h.params hb, own_more h.kinds hb, own_more h.init hb, own_more h.nodes hb, fun i hi => own_more (h.each i hi) hb, h.nd⟩
theorem OwnG.rd {w : World} {base : Nat} {r : RG} (h : OwnG w base r) (hw : WfG r.gr) : RdG w w.heap.size r := by
  refine ⟨Reads.of_own h.params, Reads.of_own h.kinds, Reads.of_own h.init, ⟨Reads.of_own h.nodes, by rw [← length_nds, h.nd], fun i hi => ⟨Reads.of_own (h.each i hi), own_cap (h.each i hi)⟩, fun i hi => hw.nodes _ (by rw [← h.nd]; exact List.mem_map_of_mem hi)⟩, h.nd, own_cap h.params⟩
/-- rows of nodes: one node's arguments laid anew -/
theorem rnc_set {ns : List RN} {k : Nat} {i : RN} (h : ns[k]? = some i) (ao : Option Addr) (ac : Nat) : (rnc ns).set (k * 12 + 9) (.slice ao i.nd.args.length ac) = rnc (ns.set k ⟨i.nd, ao, ac⟩) := by
  induction ns generalizing k with
  | nil => cases h
  | cons x ns ih =>
    cases k with
    | zero =>
      obtain rfl : x = i := by simpa using h
      show (rnOne x ++ rnc ns).set (0 * 12 + 9) _ = rnOne _ ++ rnc ns
      rfl
    | succ k =>
      show (rnOne x ++ rnc ns).set ((k + 1) * 12 + 9) _ = rnOne x ++ rnc (ns.set k _)
      rw [← ih (by simpa using h), List.set_append_right _ _ (by show 12 ≤ _; omega)]
      congr 2
      show (k + 1) * 12 + 9 - 12 = _
      omega
end Go.Proofs.Ytihfihockobpjaa
