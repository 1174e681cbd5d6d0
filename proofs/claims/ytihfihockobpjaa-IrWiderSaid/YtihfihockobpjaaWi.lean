/-
  Graphs with places, cells and a graph more stay right: plain facts.
-/
import Derived.Test.YtihfihockobpjaaLang
namespace Go.Proofs.Ytihfihockobpjaa
set_option linter.unusedVariables false
set_option linter.unusedSimpArgs false

/-- the second graph is the first one with places and cells more -/
structure Wide (a b : Gr) : Prop where
  params : b.params = a.params
  init : b.init = a.init
  result : b.result = a.result
  keep : b.keep = a.keep
  nodes : b.nodes = a.nodes
  entry : b.entry = a.entry
  kinds : ∃ p, b.kinds = a.kinds ++ p ∧ ∀ x ∈ p, x = 0 ∨ x = 1
  kl : b.kinds.length ≤ 1024
  c0 : a.cells ≤ b.cells
  c1 : b.cells ≤ 64
theorem Wide.refl {a : Gr} (hk : a.kinds.length ≤ 1024) (hc : a.cells ≤ 64) : Wide a a := ⟨rfl, rfl, rfl, rfl, rfl, rfl, ⟨[], by simp, fun x h => by cases h⟩, hk, Int.le_refl _, hc⟩
theorem Wide.grow {a b : Gr} {x : Int} (h : Wide a b) (hx : x = 0 ∨ x = 1) (hl : b.kinds.length < 1024) : Wide a { b with kinds := b.kinds ++ [x] } := by
  obtain ⟨p, hp, hq⟩ := h.kinds
  exact ⟨h.params, h.init, h.result, h.keep, h.nodes, h.entry, ⟨p ++ [x], by show b.kinds ++ [x] = _; rw [hp, List.append_assoc], fun y hy => by
    rcases List.mem_append.1 hy with hy | hy
    · exact hq y hy
    · rw [show y = x by simpa using hy]; exact hx⟩, by show (b.kinds ++ [x]).length ≤ 1024; rw [List.length_append]; simp; omega, h.c0, h.c1⟩
theorem Wide.cells_ {a b : Gr} {c : Int} (h : Wide a b) (h0 : b.cells ≤ c) (h1 : c ≤ 64) : Wide a { b with cells := c } :=
  ⟨h.params, h.init, h.result, h.keep, h.nodes, h.entry, h.kinds, h.kl, Int.le_trans h.c0 h0, h1⟩
section
variable {a b : Gr} {p k : Int}
theorem Wide.one (h : Wide a b) (hp : isOne p a.kinds.length) : isOne p b.kinds.length := by
  obtain ⟨q, hq, _⟩ := h.kinds
  rw [hq, List.length_append]
  exact ⟨hp.1, by have := hp.2; omega⟩
theorem Wide.kindAt_ (h : Wide a b) (hp : isOne p a.kinds.length) : kindAt b.kinds p = kindAt a.kinds p := by
  obtain ⟨q, hq, _⟩ := h.kinds
  unfold kindAt
  have hl : p.toNat < a.kinds.length := by have := hp.1; have := hp.2; omega
  rw [hq, List.getD_eq_getElem?_getD, List.getD_eq_getElem?_getD, List.getElem?_append_left hl]
theorem Wide.fits_ (h : Wide a b) (hf : fits a.kinds false p k) : fits b.kinds false p k :=
  ⟨h.one hf.1, .inr (by rw [h.kindAt_ hf.1]; rcases hf.2 with h2 | h2; cases h2; exact h2)⟩
theorem Wide.head (h : Wide a b) (hh : headHolds a false) : headHolds b false := by
  obtain ⟨h1, h2, h3, h4, h5, h6, h7, h8⟩ := hh
  refine ⟨⟨h.kl, (fun h => by cases h), fun x hx => ?_⟩, Int.le_trans h2 h.c0, h.c1, ?_, ?_, ?_, by rw [h.nodes]; exact h7, by rw [h.nodes, h.entry]; exact h8⟩
  · obtain ⟨q, hq, hq2⟩ := h.kinds
    rw [hq] at hx
    rcases List.mem_append.1 hx with hx | hx
    · exact h1.2.2 x hx
    · exact hq2 x hx
  · rw [h.params]
    refine ⟨h4.1, ?_⟩
    have h42 := h4.2
    rw [if_neg (by decide)] at h42 ⊢
    exact fun i hi => ⟨h.one (h42 i hi).1, (h42 i hi).2⟩
  · rw [h.params, h.init]
    refine ⟨h5.1, fun i hi => ?_⟩
    have h42 := h4.2
    rw [if_neg (by decide)] at h42
    rcases h5.2 i hi with e | ⟨e1, e2⟩
    · exact .inl e
    · refine .inr ⟨⟨e1.1, Int.lt_of_lt_of_le e1.2 h.c0⟩, .inr ?_⟩
      rw [h.kindAt_ (h42 i (by rw [← h5.1]; exact hi)).1]
      rcases e2 with e2 | e2
      · cases e2
      · exact e2
  · rw [h.keep]
    rcases h6 with e | e
    · exact .inl e
    · exact .inr ⟨e.1, Int.lt_of_lt_of_le e.2 h.c0⟩
end
/-- graph by graph -/
structure WideL (ga gb : List Gr) : Prop where
  len : gb.length = ga.length
  each : ∀ (j : Nat) (a b : Gr), ga[j]? = some a → gb[j]? = some b → Wide a b
theorem WideL.set_ {ga gb : List Gr} {k : Nat} {a b : Gr} (h : WideL ga gb) (ha : ga[k]? = some a) (hw : Wide a b) : WideL ga (gb.set k b) := by
  refine ⟨by rw [List.length_set]; exact h.len, fun j x y hx hy => ?_⟩
  rw [List.getElem?_set] at hy
  split at hy
  · rename_i hkj
    subst hkj
    split at hy
    · rw [ha] at hx
      injection hx with hx
      injection hy with hy
      subst hx hy
      exact hw
    · cases hy
  · exact h.each j x y hx hy
theorem grAt_at {gs : List Gr} {f : Int} (h : isOne f gs.length) : gs[f.toNat]? = some (grAt gs f) := by
  unfold grAt
  have hl : f.toNat < gs.length := by have := h.1; have := h.2; omega
  rw [List.getD_eq_getElem?_getD, List.getElem?_eq_getElem hl]; rfl
section
variable {ga gb : List Gr} {z : Gr}
theorem WideL.at_ (h : WideL ga gb) {f : Int} (hf : isOne f ga.length) : Wide (grAt ga f) (grAt (gb ++ [z]) f) := by
  have hb : isOne f gb.length := by rw [h.len]; exact hf
  have e : grAt (gb ++ [z]) f = grAt gb f := by
    unfold grAt
    have hl : f.toNat < gb.length := by have := hb.1; have := hb.2; omega
    rw [List.getD_eq_getElem?_getD, List.getD_eq_getElem?_getD, List.getElem?_append_left hl]
  rw [e]
  exact h.each _ _ _ (grAt_at hf) (grAt_at hb)
theorem WideL.one (h : WideL ga gb) {f : Int} (hf : isOne f ga.length) : isOne f (gb ++ [z]).length := by
  refine ⟨hf.1, ?_⟩
  have := hf.2
  rw [List.length_append, h.len]
  simp
  omega
theorem WideL.hands_ (h : WideL ga gb) (hh : ∀ g ∈ ga, headHolds g false) {a b : Gr} (hw : Wide a b) {f : Int} {xs : List Int} (hd : hands ga a false f xs) : hands (gb ++ [z]) b false f xs := by
  obtain ⟨h1, h2, h3⟩ := hd
  have hat := h.at_ (z := z) h1
  refine ⟨h.one h1, by rw [h2, hat.params], ?_⟩
  rw [if_neg (by decide)] at h3 ⊢
  intro i hi
  have hg := hh _ (List.mem_of_getElem? (grAt_at h1))
  have h42 := hg.2.2.2.1.2
  rw [if_neg (by decide)] at h42
  rw [hat.params, hat.kindAt_ (h42 i (by rw [← h2]; exact hi)).1]
  exact hw.fits_ (h3 i hi)
theorem WideL.gets_ (h : WideL ga gb) {a b : Gr} (hw : Wide a b) {f d : Int} (hf : isOne f ga.length) (hd : gets ga a false f d) : gets (gb ++ [z]) b false f d := by
  rcases hd with e | ⟨e1, e2, e3⟩
  · exact .inl e
  · exact .inr ⟨by rw [(h.at_ (z := z) hf).result]; exact e1, hw.fits_ e2, e3⟩
theorem WideL.uses_ (h : WideL ga gb) (hh : ∀ g ∈ ga, headHolds g false) {a b : Gr} (hw : Wide a b) {n : Nd} (hu : uses ga a false n) : uses (gb ++ [z]) b false n := by
  unfold uses at hu ⊢
  have hc : ∀ {c : Int}, isOne c a.cells → isOne c b.cells := fun hc => ⟨hc.1, Int.lt_of_lt_of_le hc.2 hw.c0⟩
  by_cases e : n.op = 1 ∨ n.op = 16
  · rw [if_pos e] at hu ⊢; exact hw.fits_ hu
  rw [if_neg e] at hu ⊢
  clear e
  by_cases e : n.op = 2
  · rw [if_pos e] at hu ⊢; rw [hw.kindAt_ hu.1]; exact ⟨hw.one hu.1, hw.fits_ hu.2⟩
  rw [if_neg e] at hu ⊢
  clear e
  by_cases e : n.op = 3
  · rw [if_pos e] at hu ⊢; exact ⟨hu.1, hw.fits_ hu.2.1, hw.fits_ hu.2.2.1, hw.fits_ hu.2.2.2⟩
  rw [if_neg e] at hu ⊢
  clear e
  by_cases e : n.op = 4
  · rw [if_pos e] at hu ⊢; exact ⟨hc hu.1, hw.fits_ hu.2⟩
  rw [if_neg e] at hu ⊢
  clear e
  by_cases e : n.op = 5
  · rw [if_pos e] at hu ⊢; exact ⟨hc hu.1, hw.fits_ hu.2⟩
  rw [if_neg e] at hu ⊢
  clear e
  by_cases e : n.op = 6
  · rw [if_pos e] at hu ⊢; exact ⟨hc hu.1, hw.fits_ hu.2⟩
  rw [if_neg e] at hu ⊢
  clear e
  by_cases e : n.op = 7
  · rw [if_pos e] at hu ⊢; exact ⟨hw.fits_ hu.1, hw.fits_ hu.2⟩
  rw [if_neg e] at hu ⊢
  clear e
  by_cases e : n.op = 8
  · rw [if_pos e] at hu ⊢; exact ⟨hw.fits_ hu.1, hw.fits_ hu.2⟩
  rw [if_neg e] at hu ⊢
  clear e
  by_cases e : n.op = 9 ∨ n.op = 14 ∨ n.op = 18 ∨ n.op = 17
  · rw [if_pos e] at hu ⊢; exact hw.fits_ hu
  rw [if_neg e] at hu ⊢
  clear e
  by_cases e : n.op = 10
  · rw [if_pos e] at hu ⊢; trivial
  rw [if_neg e] at hu ⊢
  clear e
  by_cases e : n.op = 11
  · rw [if_pos e] at hu ⊢; exact ⟨h.hands_ hh hw hu.1, h.gets_ hw hu.1.1 hu.2⟩
  rw [if_neg e] at hu ⊢
  clear e
  by_cases e : n.op = 12
  · rw [if_pos e] at hu ⊢
    rw [hw.result]
    by_cases e2 : a.result = true
    · rw [if_pos e2] at hu ⊢; exact hw.fits_ hu
    · rw [if_neg e2] at hu ⊢; exact hu
  rw [if_neg e] at hu ⊢
  clear e
  by_cases e : n.op = 13
  · rw [if_pos e] at hu ⊢; exact h.hands_ hh hw hu
  rw [if_neg e] at hu ⊢
  clear e
  by_cases e : n.op = 15
  · rw [if_pos e] at hu ⊢; exact ⟨hu.1, hw.fits_ hu.2.1, hw.fits_ hu.2.2⟩
  rw [if_neg e] at hu
  exact absurd hu (fun h => h)
end
def ndz : Nd := ⟨12, 0, 0, 0, -1, 0, 0, 0, 0, [], 0, 0⟩
def grz : Gr := ⟨[], [], 0, [], false, -1, [ndz], 0⟩
theorem grz_head : headHolds grz false := by decide +kernel
theorem grz_nodes (gs : List Gr) : ∀ n ∈ grz.nodes, nodeHolds gs grz false n := by
  intro n hn
  obtain rfl : n = ndz := by simpa [grz] using hn
  refine ⟨?_, fun x hx => ?_⟩
  · unfold uses
    simp [ndz, grz]
  · simp [nextsOf, ndz] at hx
theorem valid_wider {ga gb : List Gr} (hv : valid ga false) (hl : ga.length ≤ 15) (h : WideL ga gb) : valid (gb ++ [grz]) false := by
  obtain ⟨⟨h1, h2⟩, ⟨h3, h4⟩, hh, hn⟩ := hv
  have h0 : isOne (0 : Int) ga.length := ⟨by omega, by omega⟩
  have hat := h.at_ (z := grz) h0
  have hmem : ∀ b ∈ gb, ∃ a ∈ ga, Wide a b := fun b hb => by
    obtain ⟨j, hj⟩ := List.mem_iff_getElem?.1 hb
    have hjl := (List.getElem?_eq_some_iff.1 hj).1
    obtain ⟨x, hja⟩ : ∃ x, ga[j]? = some x := ⟨_, List.getElem?_eq_getElem (by rw [← h.len]; exact hjl)⟩
    exact ⟨x, List.mem_of_getElem? hja, h.each j _ _ hja hj⟩
  refine ⟨⟨by rw [List.length_append]; simp, by rw [List.length_append, h.len]; simp; omega⟩, ⟨by rw [hat.params]; exact h3, by rw [hat.result]; exact h4⟩, fun g hg => ?_, fun g hg n hng => ?_⟩
  · rcases List.mem_append.1 hg with hg | hg
    · obtain ⟨a, ha, hw⟩ := hmem g hg
      exact hw.head (hh a ha)
    · rw [show g = grz by simpa using hg]; exact grz_head
  · rcases List.mem_append.1 hg with hg | hg
    · obtain ⟨a, ha, hw⟩ := hmem g hg
      rw [hw.nodes] at hng
      obtain ⟨e1, e2⟩ := hn a ha n hng
      exact ⟨h.uses_ hh hw e1, by rw [hw.nodes]; exact e2⟩
    · obtain rfl : g = grz := by simpa using hg
      exact grz_nodes _ n hng
end Go.Proofs.Ytihfihockobpjaa
