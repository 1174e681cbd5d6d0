/-
  The document's words for which graphs are right, as plain facts, and that they say the same.
-/
import Derived.Test.YtihfihockobpjaaRw
namespace Go.Proofs.Ytihfihockobpjaa
set_option linter.unusedVariables false

/-- what the document asks of D, E, A, B: n (110) a number, p (112) a pointer -/
def wantOf (op : Int) : List Int :=
  if op = 1 then [110, 45, 45, 45] else if op = 2 then [61, 45, 61, 45] else if op = 3 then [110, 45, 110, 110] else if op = 4 then [110, 45, 45, 45]
  else if op = 5 then [45, 45, 110, 45] else if op = 6 then [112, 45, 45, 45] else if op = 7 then [110, 45, 112, 45] else if op = 8 then [45, 45, 112, 110]
  else if op = 9 then [45, 45, 110, 45] else if op = 10 then [45, 45, 45, 45] else if op = 11 then [45, 45, 45, 45] else if op = 12 then [45, 45, 45, 45]
  else if op = 13 then [45, 45, 45, 45] else if op = 14 then [45, 45, 110, 45] else if op = 15 then [110, 110, 45, 45] else if op = 16 then [110, 45, 45, 45]
  else [45, 45, 110, 45]
def asked (ks : List Int) (bd : Bool) (c p : Int) : Prop := (c = 110 → fits ks bd p 0) ∧ (c = 112 → fits ks bd p 1)
def restOf (gs : List Gr) (g : Gr) (bd : Bool) (n : Nd) : Prop :=
  if n.op = 2 then (fits g.kinds bd n.d 0 ∧ fits g.kinds bd n.a 0) ∨ (fits g.kinds bd n.d 1 ∧ fits g.kinds bd n.a 1)
  else if n.op = 3 then 7 ≤ n.bop ∧ n.bop ≤ 20
  else if n.op = 4 ∨ n.op = 5 ∨ n.op = 6 then isOne n.cell g.cells
  else if n.op = 15 then n.d ≠ n.e
  else if n.op = 12 then (if n.a = -1 then g.result = false else g.result = true ∧ fits g.kinds bd n.a 0)
  else if n.op = 11 then hands gs g bd n.f n.args ∧ gets gs g bd n.f n.d
  else if n.op = 13 then hands gs g bd n.f n.args
  else True
instance (gs : List Gr) (g : Gr) (bd : Bool) (n : Nd) : Decidable (restOf gs g bd n) := by unfold restOf; infer_instance
def rnode (gs : List Gr) (g : Gr) (bd : Bool) (n : Nd) : Prop :=
  (1 ≤ n.op ∧ n.op ≤ 18) ∧ (∀ x ∈ nextsOf n, isOne x g.nodes.length) ∧ (∀ i, i < 4 → asked g.kinds bd ((wantOf n.op).getD i 45) ([n.d, n.e, n.a, n.b].getD i 0)) ∧ restOf gs g bd n
theorem all4 (Q : Nat → Prop) : (∀ i, i < 4 → Q i) ↔ Q 0 ∧ Q 1 ∧ Q 2 ∧ Q 3 :=
  ⟨fun h => ⟨h 0 (by omega), h 1 (by omega), h 2 (by omega), h 3 (by omega)⟩, fun ⟨h0, h1, h2, h3⟩ i hi => by
    match i, hi with
    | 0, _ => exact h0
    | 1, _ => exact h1
    | 2, _ => exact h2
    | 3, _ => exact h3⟩
theorem fits_one {ks : List Int} {bd : Bool} {p k : Int} (h : fits ks bd p k) : isOne p ks.length := h.1
theorem kind_mem {ks : List Int} {p : Int} (h : isOne p ks.length) : kindAt ks p ∈ ks := by
  unfold kindAt
  have hl : p.toNat < ks.length := by have := h.1; have := h.2; omega
  rw [List.getD_eq_getElem?_getD, List.getElem?_eq_getElem hl]
  exact List.getElem_mem hl
theorem move_eq {ks : List Int} {bd : Bool} {d a : Int} (hk : ∀ k ∈ ks, k = 0 ∨ k = 1) :
    ((fits ks bd d 0 ∧ fits ks bd a 0) ∨ (fits ks bd d 1 ∧ fits ks bd a 1)) ↔ isOne a ks.length ∧ fits ks bd d (kindAt ks a) := by
  cases bd
  · constructor
    · rintro (⟨h1, h2⟩ | ⟨h1, h2⟩)
      · have e : kindAt ks a = 0 := by rcases h2.2 with h | h; cases h; exact h
        rw [e]; exact ⟨h2.1, h1⟩
      · have e : kindAt ks a = 1 := by rcases h2.2 with h | h; cases h; exact h
        rw [e]; exact ⟨h2.1, h1⟩
    · rintro ⟨h1, h2⟩
      rcases hk _ (kind_mem h1) with h | h
      · rw [h] at h2; exact .inl ⟨h2, h1, .inr h⟩
      · rw [h] at h2; exact .inr ⟨h2, h1, .inr h⟩
  · constructor
    · rintro (⟨h1, h2⟩ | ⟨h1, h2⟩)
      · exact ⟨h2.1, h1.1, .inl rfl⟩
      · exact ⟨h2.1, h1.1, .inl rfl⟩
    · rintro ⟨h1, h2⟩
      exact .inl ⟨⟨h2.1, .inl rfl⟩, h1, .inl rfl⟩
theorem ret_eq {ks : List Int} {bd : Bool} {a : Int} {r : Bool} : (if a = -1 then r = false else r = true ∧ fits ks bd a 0) ↔ (if r = true then fits ks bd a 0 else a = -1) := by
  by_cases h : a = -1
  · rw [if_pos h]
    cases r
    · simp [h]
    · rw [if_pos rfl]
      constructor
      · intro h1; cases h1
      · intro h1; exfalso; have := h1.1.1; omega
  · rw [if_neg h]
    cases r
    · simp [h]
    · simp
theorem rnode_eq {gs : List Gr} {g : Gr} {bd : Bool} {n : Nd} (hk : ∀ k ∈ g.kinds, k = 0 ∨ k = 1) (h0 : 0 ≤ n.op) (h1 : n.op ≤ 255) : rnode gs g bd n ↔ nodeHolds gs g bd n := by
  obtain ⟨op, bop, d, e, a, b, f, cell, imm, args, nx, el⟩ := n
  have h0 : 0 ≤ op := h0
  have h1 : op ≤ 255 := h1
  unfold rnode nodeHolds
  rw [all4]
  have hm := @move_eq g.kinds bd d a hk
  have hr := @ret_eq g.kinds bd a g.result
  rcases op_cases h0 h1 with rfl | rfl | rfl | rfl | rfl | rfl | rfl | rfl | rfl | rfl | rfl | rfl | rfl | rfl | rfl | rfl | rfl | rfl | h
  case inr.inr.inr.inr.inr.inr.inr.inr.inr.inr.inr.inr.inr.inr.inr.inr.inr.inr =>
    constructor
    · rintro ⟨⟨h2, h3⟩, _⟩
      have h2 : 1 ≤ op := h2
      have h3 : op ≤ 18 := h3
      omega
    · rintro ⟨h2, _⟩
      exfalso
      unfold uses at h2
      simp only at h2
      repeat (rw [if_neg (by omega)] at h2)
      exact h2
  case inl => simp [asked, wantOf, restOf, uses, and_comm]
  case inr.inl => simp only [restOf, uses, if_pos]; rw [hm]; simp [asked, wantOf, and_comm]
  all_goals first
    | (simp [asked, wantOf, restOf, uses, and_comm, and_assoc]; done)
    | (simp [asked, wantOf, restOf, uses, hr, and_comm]; done)
    | skip

/-- what the document asks of a parameter -/
def rparam (g : Gr) (bd : Bool) (i : Nat) : Prop :=
  isOne (g.params.getD i 0) g.kinds.length ∧ g.params.getD i 0 ∉ g.params.take i ∧ (bd = true → g.params.getD i 0 = i) ∧
    -1 ≤ g.init.getD i 0 ∧ g.init.getD i 0 < g.cells ∧ (0 ≤ g.init.getD i 0 → fits g.kinds bd (g.params.getD i 0) 0)
def rhead (g : Gr) (bd : Bool) : Prop :=
  g.kinds.length ≤ 1024 ∧ (bd = true → 16 ≤ g.kinds.length) ∧ g.params.length ≤ 4 ∧ g.init.length = g.params.length ∧ 0 ≤ g.cells ∧ g.cells ≤ 64 ∧ -1 ≤ g.keep ∧ g.keep < g.cells ∧
    (∀ k ∈ g.kinds, k ≤ 1) ∧ (∀ i, i < g.params.length → rparam g bd i) ∧ 1 ≤ g.nodes.length ∧ g.nodes.length ≤ 4096 ∧ isOne g.entry g.nodes.length
theorem not_take {l : List Int} {i : Nat} (h : ∀ j, j < l.length → l.getD j 0 = j) (hi : i < l.length) : l.getD i 0 ∉ l.take i := by
  intro hm
  obtain ⟨j, hj, e⟩ := List.mem_iff_getElem.1 hm
  rw [List.length_take] at hj
  rw [List.getElem_take] at e
  have h1 := h j (by omega)
  have h2 := h i hi
  rw [List.getD_eq_getElem?_getD, List.getElem?_eq_getElem (by omega)] at h1
  simp only [Option.getD_some] at h1
  rw [h1, h2] at e
  omega
theorem rhead_eq {g : Gr} {bd : Bool} (hb : Byt g.kinds) : rhead g bd ↔ headHolds g bd := by
  obtain ⟨ps, ks, cells, is, res, keep, nodes, entry⟩ := g
  have hb : Byt ks := hb
  constructor
  · rintro ⟨h1, h2, h3, h4, h5, h6, h7, h8, h9, h10, h11, h12, h13⟩
    have h10 : ∀ i, i < ps.length → rparam ⟨ps, ks, cells, is, res, keep, nodes, entry⟩ bd i := h10
    have h3 : ps.length ≤ 4 := h3
    have h4 : is.length = ps.length := h4
    have h7 : -1 ≤ keep := h7
    have h8 : keep < cells := h8
    refine ⟨⟨h1, h2, fun k hk => ?_⟩, h5, h6, ⟨h3, ?_⟩, ⟨h4, fun i hi => ?_⟩, ?_, h12, h13⟩
    · have := (hb k hk).1; have := h9 k hk; omega
    · show if bd = true then inOrder ps else ∀ i, i < ps.length → isOne (ps.getD i 0) ks.length ∧ ps.getD i 0 ∉ ps.take i
      cases bd
      · rw [if_neg (by decide)]
        intro i hi
        exact ⟨(h10 i hi).1, (h10 i hi).2.1⟩
      · rw [if_pos rfl]
        intro i hi
        exact (h10 i hi).2.2.1 rfl
    · have hi : i < is.length := hi
      obtain ⟨k1, k2, k3, k4, k5, k6⟩ := h10 i (by omega)
      have k4 : -1 ≤ is.getD i 0 := k4
      have k5 : is.getD i 0 < cells := k5
      by_cases hn : is.getD i 0 = -1
      · exact .inl hn
      · have k0 : 0 ≤ is.getD i 0 := by omega
        exact .inr ⟨⟨k0, k5⟩, (k6 k0).2⟩
    · show keep = -1 ∨ isOne keep cells
      by_cases hn : keep = -1
      · exact .inl hn
      · exact .inr ⟨by omega, h8⟩
  · rintro ⟨⟨h1, h2, h9⟩, h5, h6, ⟨h3, h10⟩, ⟨h4, h11⟩, h7, h12, h13⟩
    have h3 : ps.length ≤ 4 := h3
    have h4 : is.length = ps.length := h4
    have h5 : 0 ≤ cells := h5
    have h7 : keep = -1 ∨ isOne keep cells := h7
    have h10 : if bd = true then inOrder ps else ∀ i, i < ps.length → isOne (ps.getD i 0) ks.length ∧ ps.getD i 0 ∉ ps.take i := h10
    have h13' : isOne entry nodes.length := h13
    have h2' : bd = true → 16 ≤ ks.length := h2
    refine ⟨h1, h2, h3, h4, h5, h6, ?_, ?_, fun k hk => ?_, fun i hi => ?_, ?_, h12, h13⟩
    · show -1 ≤ keep
      rcases h7 with h | h
      · omega
      · have := h.1; omega
    · show keep < cells
      rcases h7 with h | h
      · omega
      · exact h.2
    · rcases h9 k hk with h | h <;> omega
    · have hi : i < ps.length := hi
      have h14 := h11 i (by show i < is.length; omega)
      have hone : isOne (ps.getD i 0) ks.length ∧ ps.getD i 0 ∉ ps.take i ∧ (bd = true → ps.getD i 0 = i) := by
        cases bd
        · rw [if_neg (by decide)] at h10
          exact ⟨(h10 i hi).1, (h10 i hi).2, fun h => by cases h⟩
        · rw [if_pos rfl] at h10
          have h15 := h10 i hi
          have h16 := h2' rfl
          refine ⟨?_, not_take h10 hi, fun _ => h15⟩
          rw [h15]
          exact ⟨by omega, by omega⟩
      refine ⟨hone.1, hone.2.1, hone.2.2, ?_, ?_, fun h0 => ⟨hone.1, ?_⟩⟩
      · show -1 ≤ is.getD i 0
        rcases h14 with h | h
        · have h : is.getD i 0 = -1 := h
          omega
        · have := h.1.1; have h : 0 ≤ is.getD i 0 := this; omega
      · show is.getD i 0 < cells
        rcases h14 with h | h
        · have h : is.getD i 0 = -1 := h
          omega
        · exact h.1.2
      · rcases h14 with h | h
        · exfalso
          have h : is.getD i 0 = -1 := h
          have h0 : 0 ≤ is.getD i 0 := h0
          omega
        · exact h.2
    · show 1 ≤ nodes.length
      have := h13'.1; have := h13'.2; omega
end Go.Proofs.Ytihfihockobpjaa
