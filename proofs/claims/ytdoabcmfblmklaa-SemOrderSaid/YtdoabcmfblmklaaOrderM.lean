/-
  SemOrder is true for all numbers, with a panic or without: deferred calls are called last first; no condition.
-/
import Derived.Test.YtdoabcmfblmklaaRows
import Derived.WalkKit
import Derived.ProofKit
import Derived.OpenShut
import Derived.ShutString
import Derived.ChangeOld
import Derived.Below
import Derived.SizedLaws
import Derived.Test.YtdoabcmfblmklaaMA10

/-
  Package sem: runs of programs with letters in them: the verdict by stacks that are named, the run step by step on the plain machine.
-/
namespace Go.Proofs.Ytdoabcmfblmklaa
set_option linter.unusedVariables false
set_option linter.unusedSimpArgs false

theorem wff_0 {c : List Ins} (hc : ∀ i ∈ c, WfI i) (h2 : c.length ≤ 1000) : WfF ⟨0, [], false, -1, c⟩ :=
  wff_of (f := ⟨0, [], false, -1, c⟩) ⟨Int.le_refl _, by show (0 : Int) ≤ 100; omega⟩ ⟨Int.le_refl _, by show (-1 : Int) ≤ 100; omega⟩ Byt.nil hc (Nat.zero_le _) h2
theorem wff_1 {c : List Ins} (hc : ∀ i ∈ c, WfI i) (h2 : c.length ≤ 1000) : WfF ⟨1, [0], false, -1, c⟩ :=
  wff_of (f := ⟨1, [0], false, -1, c⟩) ⟨by show (0 : Int) ≤ 1; omega, by show (1 : Int) ≤ 100; omega⟩ ⟨Int.le_refl _, by show (-1 : Int) ≤ 100; omega⟩ (by intro b hb; simp at hb; subst hb; decide) hc (by show 1 ≤ 1000; omega) h2
theorem wf_const {m : Int} (h : isW m) : WfI ⟨1, 0, m⟩ := by
  unfold isW at h
  exact ⟨by show (0 : Int) ≤ 1; omega, by show (1 : Int) ≤ 255; omega, by show (-9223372036854775808 : Int) ≤ 0; omega, by show (0 : Int) ≤ 9223372036854775807; omega, h.1, by show m ≤ _; omega⟩
section
variable {fs : List Fn} {f : Fn} {rs : List Raw} {st st1 st2 x a : Mc} {n m : Nat}
/-- the stacks are named: all is well -/
theorem fine_of (A : Nat → Option Stk) (h0 : A 0 = some []) (hc : ∀ a s, A a = some s → ∃ i s', f.code[a]? = some i ∧ afterK fs f i s = some s' ∧ ∀ b ∈ succK a i, A b = some s') : Fine fs f ∧ ∀ a s, Reach fs f a s → A a = some s := by
  have hall : ∀ a s, Reach fs f a s → A a = some s := by
    intro a s hr
    induction hr with
    | base => exact h0
    | step _ hcd hs hb ih =>
      obtain ⟨i, s', h1, h2, h3⟩ := hc _ _ ih
      rw [hcd] at h1
      injection h1 with h1
      subst h1
      rw [hs] at h2
      injection h2 with h2
      subst h2
      exact h3 _ hb
  refine ⟨fun a s hr => ⟨?_, fun s2 hr2 => ?_⟩, hall⟩
  · obtain ⟨i, s', h1, h2, _⟩ := hc a s (hall a s hr)
    exact ⟨i, s', h1, h2⟩
  · have h1 := hall a s hr
    rw [hall a s2 hr2] at h1
    injection h1
theorem verd_of (h1 : okP fs = true) (h2 : bnd fs = true) (h3 : refB fs = true) (h4 : ∀ f ∈ fs, ∃ A : Nat → Option Stk, A 0 = some [] ∧ (∀ a s, A a = some s → s.length ≤ 16 ∧ ∃ i s', f.code[a]? = some i ∧ afterK fs f i s = some s' ∧ ∀ b ∈ succK a i, A b = some s')) : verd fs = 0 := by
  have hf : ∀ f ∈ fs, Fine fs f ∧ ∀ a s, Reach fs f a s → s.length ≤ 16 := fun f hf => by
    obtain ⟨A, a0, a1⟩ := h4 f hf
    obtain ⟨b0, b1⟩ := fine_of A a0 fun a s h => (a1 a s h).2
    exact ⟨b0, fun a s hr => (a1 a s (b1 a s hr)).1⟩
  unfold verd
  rw [if_neg (by simp [h1]), if_neg (by simp [h2]), if_neg (by simp [h3]), if_neg (fun hn => hn fun f h => (hf f h).1), if_neg]
  rintro ⟨f, h, a, s, hr, hs⟩
  have := (hf f h).2 a s hr
  omega
/-- so many steps -/
def Steps (fs : List Fn) : Nat → Mc → Mc → Prop
  | 0, st, x => x = st
  | n + 1, st, x => st.doing ≠ 3 ∧ ∃ st2, step fs st = some st2 ∧ Steps fs n st2 x
theorem Steps.one (hd : st.doing ≠ 3) (h : step fs st = some x) : Steps fs 1 st x := ⟨hd, x, h, rfl⟩
theorem Steps.trans : ∀ {n m : Nat} {st x a : Mc}, Steps fs n st x → Steps fs m x a → Steps fs (n + m) st a
  | 0, m, st, x, a, h1, h2 => by
    have : x = st := h1
    subst this
    rw [Nat.zero_add]
    exact h2
  | n + 1, m, st, x, a, ⟨hd, y, hs, h1⟩, h2 => by
    rw [show n + 1 + m = (n + m) + 1 by omega]
    exact ⟨hd, y, hs, h1.trans h2⟩
theorem StepB.step (h : StepB rs st st2) (hs : step (fns rs) st = some x) : st2 = x := by
  obtain ⟨t, bl, r, i, k, s1, N, a1, a2, a3, a4, a5, a6, a7, a8, a9, a10, a11, a12, a13⟩ := h
  have hfn := fnOf_at a2
  unfold Go.Proofs.Ytdoabcmfblmklaa.step at hs
  rw [a1] at hs a8
  simp only [hfn] at hs
  rw [a3, Int.toNat_natCast, a4] at hs
  simp only at hs
  rw [if_pos (by omega), ← a3, a8] at hs
  exact settle_one a10 hs
theorem RunB.steps : ∀ {n m : Nat} {st x a : Mc}, RunB rs (n + m) st a → Steps (fns rs) n st x → RunB rs m x a
  | 0, m, st, x, a, h1, h2 => by
    have : x = st := h2
    subst this
    rw [Nat.zero_add] at h1
    exact h1
  | n + 1, m, st, x, a, h1, ⟨hd, y, hs, h2⟩ => by
    rw [show n + 1 + m = (n + m) + 1 by omega] at h1
    unfold RunB at h1
    rw [if_neg hd] at h1
    obtain ⟨z, e1, e2⟩ := h1
    obtain rfl := e1.step hs
    exact RunB.steps e2 h2
/-- a run that comes to its end -/
theorem RunAns.steps {tape : List Int} {fuel : Nat} {er : Int} (h : RunAns rs tape fuel er st) (hv : verd (fns rs) = 0) (hs : Steps (fns rs) n (start (fns rs) tape) x) (h3 : x.doing = 3) (hn : n ≤ fuel) : er = 0 ∧ st = x := by
  obtain ⟨h1, _⟩ | ⟨_, h2, stF, h5, _, _, h4⟩ := h
  · exact absurd hv h1
  · have h6 := RunB.steps (m := fuel - n) (by rw [show n + (fuel - n) = fuel by omega]; exact h5) hs
    have h7 := h6.over h3
    subst h7
    rw [if_pos h3] at h4
    exact ⟨h2, h4⟩
/-- a step that ends nothing -/
theorem step_plain {t : Fr} {bl : List Fr} {i : Ins} (hf : st.frames = t :: bl) (h0 : 0 ≤ t.next) (hc : (fnOf fs t.f).code[t.next.toNat]? = some i) (hx : exec fs { st with steps := st.steps + 1 } { t with next := t.next + 1 } bl i = some x) (hd : ¬ (x.doing = 1 ∨ x.doing = 2)) : step fs st = some x := by
  unfold Go.Proofs.Ytdoabcmfblmklaa.step
  rw [hf] at hx ⊢
  simp only
  rw [hc]
  simp only
  rw [if_pos h0, hx]
  show settle fs ((t :: bl).length + 1 + 1) x = some x
  unfold settle
  rw [if_neg hd]
/-- a step that ends something -/
theorem step_settle {t : Fr} {bl : List Fr} {i : Ins} (hf : st.frames = t :: bl) (h0 : 0 ≤ t.next) (hc : (fnOf fs t.f).code[t.next.toNat]? = some i) (hx : exec fs { st with steps := st.steps + 1 } { t with next := t.next + 1 } bl i = some st1) (hs : settle fs (bl.length + 3) st1 = some x) : step fs st = some x := by
  unfold Go.Proofs.Ytdoabcmfblmklaa.step
  rw [hf] at hx ⊢
  simp only
  rw [hc]
  simp only
  rw [if_pos h0, hx]
  exact hs
end
end Go.Proofs.Ytdoabcmfblmklaa

/-
  SemOrder: the mathematics: deferred calls, the last first, at a frame's end and in a panic.
-/
namespace Go.Proofs.Ytdoabcmfblmklaa
set_option linter.unusedVariables false
set_option linter.unusedSimpArgs false

def ordC (l : List Int) : List Ins := l.flatMap fun v => [⟨1, 0, v⟩, ⟨25, 1, 0⟩]
def ordE (p : Bool) : List Ins := if p then [⟨1, 0, 9⟩, ⟨26, 0, 0⟩] else [⟨24, 0, 0⟩]
def ordF : List Ins := [⟨2, 0, 0⟩, ⟨29, 0, 0⟩, ⟨24, 0, 0⟩]
def ordFs (l : List Int) (p : Bool) : List Fn := [⟨0, [], false, -1, ordC l ++ ordE p⟩, ⟨1, [0], false, -1, ordF⟩]
theorem ordFs_0 (l : List Int) (p : Bool) : fnOf (ordFs l p) 0 = ⟨0, [], false, -1, ordC l ++ ordE p⟩ := rfl
theorem ordFs_1 (l : List Int) (p : Bool) : fnOf (ordFs l p) 1 = ⟨1, [0], false, -1, ordF⟩ := rfl
theorem length_ordC (l : List Int) : (ordC l).length = l.length * 2 := by
  induction l with
  | nil => rfl
  | cons v l ih => unfold ordC at *; rw [List.flatMap_cons, List.length_append, ih]; simp; omega
theorem ordC_at : ∀ (l : List Int) (j : Nat) (v : Int), l[j]? = some v → (ordC l)[2 * j]? = some ⟨1, 0, v⟩ ∧ (ordC l)[2 * j + 1]? = some ⟨25, 1, 0⟩
  | [], j, v, h => by simp at h
  | x :: l, 0, v, h => by simp at h; subst h; exact ⟨rfl, rfl⟩
  | x :: l, j + 1, v, h => by
    have e : ordC (x :: l) = ⟨1, 0, x⟩ :: ⟨25, 1, 0⟩ :: ordC l := rfl
    rw [e, show 2 * (j + 1) = 2 * j + 1 + 1 by omega]
    simp only [List.getElem?_cons_succ]
    exact ordC_at l j v (by simpa using h)
theorem ordC_mem {l : List Int} {i : Ins} (h : i ∈ ordC l) : (∃ v ∈ l, i = ⟨1, 0, v⟩) ∨ i = ⟨25, 1, 0⟩ := by
  unfold ordC at h
  obtain ⟨v, hv, h⟩ := List.mem_flatMap.1 h
  simp at h
  rcases h with rfl | rfl
  · exact .inl ⟨v, hv, rfl⟩
  · exact .inr rfl
theorem ord_at0 {l : List Int} {p : Bool} {j : Nat} {v : Int} (h : l[j]? = some v) : (fnOf (ordFs l p) 0).code[2 * j]? = some ⟨1, 0, v⟩ ∧ (fnOf (ordFs l p) 0).code[2 * j + 1]? = some ⟨25, 1, 0⟩ := by
  obtain ⟨h1, h2⟩ := ordC_at l j v h
  rw [ordFs_0]
  exact ⟨by rw [List.getElem?_append_left (List.getElem?_eq_some_iff.1 h1).1]; exact h1, by rw [List.getElem?_append_left (List.getElem?_eq_some_iff.1 h2).1]; exact h2⟩
theorem ord_atE {l : List Int} {p : Bool} (j : Nat) : (fnOf (ordFs l p) 0).code[2 * l.length + j]? = (ordE p)[j]? := by
  rw [ordFs_0, List.getElem?_append_right (by rw [length_ordC]; omega), length_ordC]
  congr 1
  omega
/-- the stacks of the first function -/
def ordA (n e a : Nat) : Option Stk := if a < 2 * n + e then (if a % 2 = 0 then some [] else some [0]) else none
theorem ordA_even {n e a : Nat} (h : a < 2 * n + e) (h2 : a % 2 = 0) : ordA n e a = some [] := by unfold ordA; rw [if_pos h, if_pos h2]
theorem ordA_odd {n e a : Nat} (h : a < 2 * n + e) (h2 : a % 2 = 1) : ordA n e a = some [0] := by unfold ordA; rw [if_pos h, if_neg (by omega)]
theorem ordA_some {n e a : Nat} {s : Stk} (h : ordA n e a = some s) : a < 2 * n + e ∧ (a % 2 = 0 ∧ s = [] ∨ a % 2 = 1 ∧ s = [0]) := by
  unfold ordA at h
  by_cases h1 : a < 2 * n + e
  · rw [if_pos h1] at h
    by_cases h2 : a % 2 = 0
    · rw [if_pos h2] at h
      injection h with h
      exact ⟨h1, .inl ⟨h2, h.symm⟩⟩
    · rw [if_neg h2] at h
      injection h with h
      exact ⟨h1, .inr ⟨by omega, h.symm⟩⟩
  · rw [if_neg h1] at h
    cases h
def ordA1 : Nat → Option Stk
  | 0 => some []
  | 1 => some [0]
  | 2 => some []
  | _ => none
theorem okI_const {v : Int} (h : isW v) : okI ⟨1, 0, v⟩ = true := by
  unfold isW at h
  simp [okI, opB, argW, immW, fitB]
  exact h
theorem verd_ord {l : List Int} {p : Bool} (hl : l.length ≤ 40) (hw : ∀ v ∈ l, isW v) : verd (ordFs l p) = 0 := by
  have hlen : (ordC l ++ ordE p).length ≤ 82 := by rw [List.length_append, length_ordC]; cases p <;> simp [ordE] <;> omega
  have hok : ∀ i ∈ ordC l ++ ordE p, okI i = true ∧ insRef (ordFs l p) ⟨0, [], false, -1, ordC l ++ ordE p⟩ i = true := by
    intro i hi
    rcases List.mem_append.1 hi with hi | hi
    · rcases ordC_mem hi with ⟨v, hv, rfl⟩ | rfl
      · exact ⟨okI_const (hw v hv), rfl⟩
      · exact ⟨by decide, rfl⟩
    · cases p
      · simp [ordE] at hi; subst hi; exact ⟨by decide, rfl⟩
      · simp [ordE] at hi; rcases hi with rfl | rfl
        · exact ⟨by decide, rfl⟩
        · exact ⟨by decide, rfl⟩
  have hall : (ordC l ++ ordE p).all okI = true := List.all_eq_true.2 fun i hi => (hok i hi).1
  have hallr : (ordC l ++ ordE p).all (insRef (ordFs l p) ⟨0, [], false, -1, ordC l ++ ordE p⟩) = true := List.all_eq_true.2 fun i hi => (hok i hi).2
  have h2f : ordFs l p = [⟨0, [], false, -1, ordC l ++ ordE p⟩, ⟨1, [0], false, -1, ordF⟩] := rfl
  refine verd_of ?_ ?_ ?_ ?_
  · simp only [okP, h2f, List.all_cons, List.all_nil, okF, hall]
    simp only [List.length_cons, List.length_nil, List.all_nil, List.all_cons, Bool.and_true, Bool.and_eq_true, decide_eq_true_eq]
    refine ⟨⟨by omega, by omega⟩, ⟨⟨⟨⟨⟨by omega, by omega⟩, by omega⟩, by omega⟩, by omega⟩, by omega⟩, by decide⟩
  · simp only [bnd, h2f, List.all_cons, List.all_nil, bndF, Bool.and_true, Bool.and_eq_true, decide_eq_true_eq]
    refine ⟨by show 2 ≤ 16; omega, ⟨⟨by omega, by simp⟩, by omega⟩, by decide⟩
  · rw [refB, Bool.and_eq_true]
    refine ⟨rfl, ?_⟩
    have hf0 : fnRef (ordFs l p) ⟨0, [], false, -1, ordC l ++ ordE p⟩ = true := by
      unfold fnRef
      rw [hallr]
      rfl
    show (fnRef (ordFs l p) ⟨0, [], false, -1, ordC l ++ ordE p⟩ && (fnRef (ordFs l p) ⟨1, [0], false, -1, ordF⟩ && true)) = true
    rw [hf0]
    rfl
  · intro f hf
    simp only [ordFs, List.mem_cons, List.not_mem_nil, or_false] at hf
    rcases hf with rfl | rfl
    · have hlt : ∀ j, j < l.length → ∀ e s', 1 ≤ e → (ordA l.length e (2 * j) = some s' → s' = []) ∧ (ordA l.length e (2 * j + 1) = some s' → s' = [0]) := fun j hj e s' he => by
        rw [ordA_even (by omega) (by omega), ordA_odd (by omega) (by omega)]
        exact ⟨fun h => by injection h with h; exact h.symm, fun h => by injection h with h; exact h.symm⟩
      have low : ∀ e, 1 ≤ e → ∀ a s, a < 2 * l.length → ordA l.length e a = some s → s.length ≤ 16 ∧ ∃ i s', (ordC l ++ ordE p)[a]? = some i ∧ afterK (ordFs l p) ⟨0, [], false, -1, ordC l ++ ordE p⟩ i s = some s' ∧ ∀ b ∈ succK a i, ordA l.length e b = some s' := by
        intro e he a s ha h
        obtain ⟨_, ⟨h2, rfl⟩ | ⟨h2, rfl⟩⟩ := ordA_some h
        · obtain ⟨j, rfl⟩ : ∃ j, a = 2 * j := ⟨a / 2, by omega⟩
          obtain ⟨h1, _⟩ := ord_at0 (p := p) (List.getElem?_eq_getElem (show j < l.length by omega))
          refine ⟨by decide, _, [0], h1, rfl, fun b hb => ?_⟩
          simp [succK] at hb
          subst hb
          exact ordA_odd (by omega) (by omega)
        · obtain ⟨j, rfl⟩ : ∃ j, a = 2 * j + 1 := ⟨a / 2, by omega⟩
          obtain ⟨_, h1⟩ := ord_at0 (p := p) (List.getElem?_eq_getElem (show j < l.length by omega))
          refine ⟨by decide, _, [], h1, rfl, fun b hb => ?_⟩
          simp [succK] at hb
          subst hb
          exact ordA_even (by omega) (by omega)
      have e0 := ord_atE (l := l) (p := p) 0
      have e1 := ord_atE (l := l) (p := p) 1
      clear hlt
      cases p
      · refine ⟨ordA l.length 1, ordA_even (by omega) rfl, fun a s h => ?_⟩
        rcases Nat.lt_or_ge a (2 * l.length) with ha | ha
        · exact low 1 (by decide) a s ha h
        · obtain ⟨h1, h2⟩ := ordA_some h
          obtain rfl : a = 2 * l.length := by omega
          obtain rfl : s = [] := by
            rcases h2 with ⟨_, h2⟩ | ⟨h2, _⟩
            · exact h2
            · omega
          refine ⟨by decide, _, [], e0, rfl, fun b hb => ?_⟩
          simp [succK] at hb
      · refine ⟨ordA l.length 2, ordA_even (by omega) rfl, fun a s h => ?_⟩
        rcases Nat.lt_or_ge a (2 * l.length) with ha | ha
        · exact low 2 (by decide) a s ha h
        · obtain ⟨h1, ⟨h2, rfl⟩ | ⟨h2, rfl⟩⟩ := ordA_some h
          · obtain rfl : a = 2 * l.length := by omega
            refine ⟨by decide, _, [0], e0, rfl, fun b hb => ?_⟩
            simp [succK] at hb
            subst hb
            exact ordA_odd (by omega) (by omega)
          · obtain rfl : a = 2 * l.length + 1 := by omega
            refine ⟨by decide, _, [], e1, rfl, fun b hb => ?_⟩
            simp [succK] at hb
    · refine ⟨ordA1, rfl, fun a s h => ?_⟩
      rcases a with _ | _ | _ | a
      · injection h with h; subst h; exact ⟨by decide, _, _, rfl, rfl, fun b hb => by simp [succK] at hb; subst hb; rfl⟩
      · injection h with h; subst h; exact ⟨by decide, _, _, rfl, rfl, fun b hb => by simp [succK] at hb; subst hb; rfl⟩
      · injection h with h; subst h; exact ⟨by decide, _, _, rfl, rfl, fun b hb => by simp [succK] at hb⟩
      · cases h
/-! the run -/
def ordD (l : List Int) : List Df := l.map fun v => ⟨1, [v]⟩
/-- behind j pairs -/
def ordS (l : List Int) (j : Nat) : Mc := ⟨[], [], [⟨0, 0, 2 * j, 0, [], ordD (l.take j).reverse, 0⟩], [], [], j, 0, 0, 0, 2 * j, 1, j, 0⟩
theorem ord_pair {l : List Int} {p : Bool} {j : Nat} (hj : j < l.length) : Steps (ordFs l p) 2 (ordS l j) (ordS l (j + 1)) := by
  obtain ⟨h1, h2⟩ := ord_at0 (p := p) (List.getElem?_eq_getElem hj)
  have a1 : step (ordFs l p) (ordS l j) = some ⟨[], [], [⟨0, 0, 2 * j + 1, 0, [l[j]], ordD (l.take j).reverse, 0⟩], [], [], j, 0, 0, 0, 2 * j + 1, 1, j, 0⟩ :=
    step_plain (i := ⟨1, 0, l[j]⟩) rfl (by show (0 : Int) ≤ 2 * j; omega) (by show (fnOf (ordFs l p) 0).code[(2 * (j : Int)).toNat]? = _; rw [show (2 * (j : Int)).toNat = 2 * j by omega]; exact h1) (by simp [exec, ordS, Mc.top, Fr.push]) (by simp)
  have a2 : step (ordFs l p) ⟨[], [], [⟨0, 0, 2 * j + 1, 0, [l[j]], ordD (l.take j).reverse, 0⟩], [], [], j, 0, 0, 0, 2 * j + 1, 1, j, 0⟩ = some (ordS l (j + 1)) :=
    step_plain (i := ⟨25, 1, 0⟩) rfl (by show (0 : Int) ≤ 2 * j + 1; omega) (by show (fnOf (ordFs l p) 0).code[(2 * (j : Int) + 1).toNat]? = _; rw [show (2 * (j : Int) + 1).toNat = 2 * j + 1 by omega]; exact h2) (by
      have ht : (l.take (j + 1)).reverse = l[j] :: (l.take j).reverse := by rw [List.take_add_one, List.getElem?_eq_getElem hj]; simp
      simp only [exec]
      rw [if_neg (by decide), if_neg (by decide), if_neg (by decide), if_neg (by decide), if_neg (by decide), if_neg (by decide), if_neg (by decide), if_neg (by decide), if_neg (by decide), if_neg (by decide), if_pos trivial]
      show (if (1 : Int).toNat ≤ 1 ∧ (1 : Int).toNat < 2 then _ else _) = _
      rw [if_pos (by decide)]
      simp only [ordS, ht]
      simp [Mc.top, Fr.cut, argsOf, ordFs_1, ordD]
      omega) (by simp [ordS])
  exact ⟨by show (0 : Int) ≠ 3; decide, _, a1, by show (0 : Int) ≠ 3; decide, _, a2, rfl⟩
theorem ord_down {l : List Int} {p : Bool} : ∀ j, j ≤ l.length → Steps (ordFs l p) (2 * j) (start (ordFs l p) []) (ordS l j)
  | 0, _ => rfl
  | j + 1, hj => (ord_down j (by omega)).trans (ord_pair (by omega))
/-- the deferred calls' run: how they are called, what is over then -/
structure OrdR where
  w : Nat
  pc : Int
  ps : List (Int × Bool)
  d : Int
  ek : Int
  ev : Int
  mp : Nat
  L : Nat
def OrdR.main (r : OrdR) (rem : List Int) : Fr := ⟨0, 0, r.pc, 0, [], ordD rem, 0⟩
def OrdR.at_ (r : OrdR) (rem : List Int) (E : List (Int × Int)) (n dep : Nat) : Mc := match rem with
  | [] => ⟨[], E, [], [], r.ps, 0, 3, r.ek, r.ev, n, dep, r.L, r.mp⟩
  | v :: rem => ⟨[], E, [⟨r.w, 1, 0, 0, [], [], 0⟩, r.main rem], [v], r.ps, rem.length, 0, 0, 0, n, max dep 2, r.L, r.mp⟩
/-- the two ways -/
def OrdOk (r : OrdR) : Prop := (r.w = 2 ∧ r.d = 1 ∧ r.ps = [] ∧ r.ek = 1 ∧ r.ev = 0) ∨ (r.w = 3 ∧ r.d = 2 ∧ r.ps = [(9, false)] ∧ r.ek = 2 ∧ r.ev = 9)
section
variable {l rem : List Int} {p : Bool} {r : OrdR} {E : List (Int × Int)} {n dep N : Nat} {v : Int}
theorem ord_settle (hr : OrdOk r) (hN : 2 ≤ N) : settle (ordFs l p) N ⟨[], E, [r.main rem], [], r.ps, rem.length, r.d, 0, 0, n, dep, r.L, r.mp⟩ = some (r.at_ rem E n dep) := by
  obtain ⟨N, rfl⟩ : ∃ M, N = M + 2 := ⟨N - 2, by omega⟩
  obtain ⟨w, pc, ps, d, ek, ev, mp, L⟩ := r
  rcases hr with ⟨rfl, rfl, rfl, rfl, rfl⟩ | ⟨rfl, rfl, rfl, rfl, rfl⟩
  · cases rem with
    | nil => simp [settle, settle1, OrdR.main, OrdR.at_, ordD, Mc.over]
    | cons v rem => simp [settle, settle1, OrdR.main, OrdR.at_, ordD, Mc.begin, Mc.top, locals, ordFs, fnOf]
  · cases rem with
    | nil => simp [settle, settle1, OrdR.main, OrdR.at_, ordD, Mc.over]
    | cons v rem => simp [settle, settle1, OrdR.main, OrdR.at_, ordD, Mc.begin, Mc.top, locals, ordFs, fnOf]
theorem ord_call (hr : OrdOk r) : Steps (ordFs l p) 3 (r.at_ (v :: rem) E n dep) (r.at_ rem (E ++ [(1, v)]) (n + 3) (max dep 2)) := by
  have a1 : step (ordFs l p) (r.at_ (v :: rem) E n dep) = some ⟨[], E, [⟨r.w, 1, 1, 0, [v], [], 0⟩, r.main rem], [v], r.ps, rem.length, 0, 0, 0, n + 1, max dep 2, r.L, r.mp⟩ :=
    step_plain (i := ⟨2, 0, 0⟩) rfl (by show (0 : Int) ≤ 0; omega) rfl (by simp [exec, OrdR.at_, Mc.top, Fr.push]) (by simp)
  have a2 : step (ordFs l p) ⟨[], E, [⟨r.w, 1, 1, 0, [v], [], 0⟩, r.main rem], [v], r.ps, rem.length, 0, 0, 0, n + 1, max dep 2, r.L, r.mp⟩ = some ⟨[], E ++ [(1, v)], [⟨r.w, 1, 2, 0, [], [], 0⟩, r.main rem], [v], r.ps, rem.length, 0, 0, 0, n + 2, max dep 2, r.L, r.mp⟩ :=
    step_plain (i := ⟨29, 0, 0⟩) rfl (by show (0 : Int) ≤ 1; omega) rfl (by simp [exec, Mc.top]) (by simp)
  have a3 : step (ordFs l p) ⟨[], E ++ [(1, v)], [⟨r.w, 1, 2, 0, [], [], 0⟩, r.main rem], [v], r.ps, rem.length, 0, 0, 0, n + 2, max dep 2, r.L, r.mp⟩ = some (r.at_ rem (E ++ [(1, v)]) (n + 3) (max dep 2)) := by
    have hx : exec (ordFs l p) ⟨[], E ++ [(1, v)], [⟨r.w, 1, 2, 0, [], [], 0⟩, r.main rem], [v], r.ps, rem.length, 0, 0, 0, n + 2 + 1, max dep 2, r.L, r.mp⟩ ⟨r.w, 1, 2 + 1, 0, [], [], 0⟩ [r.main rem] ⟨24, 0, 0⟩ = some ⟨[], E ++ [(1, v)], [⟨r.w, 1, 3, 0, [], [], 0⟩, r.main rem], [v], r.ps, rem.length, 1, 0, 0, n + 3, max dep 2, r.L, r.mp⟩ := by
      simp [exec, ordFs_1, Mc.top]
    have hs : settle1 (ordFs l p) ⟨[], E ++ [(1, v)], [⟨r.w, 1, 3, 0, [], [], 0⟩, r.main rem], [v], r.ps, rem.length, 1, 0, 0, n + 3, max dep 2, r.L, r.mp⟩ = some ⟨[], E ++ [(1, v)], [r.main rem], [], r.ps, rem.length, r.d, 0, 0, n + 3, max dep 2, r.L, r.mp⟩ := by
      obtain ⟨w, pc, ps, d, ek, ev, mp, L⟩ := r
      rcases hr with ⟨rfl, rfl, rfl, rfl, rfl⟩ | ⟨rfl, rfl, rfl, rfl, rfl⟩
      · simp [settle1]
      · simp [settle1, OrdR.main]
    refine step_settle (i := ⟨24, 0, 0⟩) rfl (by show (0 : Int) ≤ 2; omega) rfl hx ?_
    show settle (ordFs l p) (3 + 1) _ = _
    unfold settle
    rw [if_pos (.inl rfl), hs]
    exact ord_settle hr (by decide)
  exact ⟨by show (0 : Int) ≠ 3; decide, _, a1, by show (0 : Int) ≠ 3; decide, _, a2, by show (0 : Int) ≠ 3; decide, _, a3, rfl⟩
theorem ord_calls (hr : OrdOk r) : ∀ (rem : List Int) (E : List (Int × Int)) (n dep : Nat), ∃ dep', Steps (ordFs l p) (3 * rem.length) (r.at_ rem E n dep) (r.at_ [] (E ++ rem.map fun v => (1, v)) (n + 3 * rem.length) dep')
  | [], E, n, dep => ⟨dep, by simp; rfl⟩
  | v :: rem, E, n, dep => by
    obtain ⟨d2, h2⟩ := ord_calls hr rem (E ++ [(1, v)]) (n + 3) (max dep 2)
    refine ⟨d2, ?_⟩
    have h := (ord_call (l := l) (p := p) (rem := rem) (E := E) (n := n) (dep := dep) (v := v) hr).trans h2
    rw [show 3 + 3 * rem.length = 3 * (v :: rem).length by simp; omega, show n + 3 + 3 * rem.length = n + 3 * (v :: rem).length by simp; omega, List.append_assoc] at h
    exact h
end
theorem ord_all (l : List Int) (p : Bool) (hl : l.length ≤ 40) : ∃ n x, n ≤ 1000 ∧ Steps (ordFs l p) n (start (ordFs l p) []) x ∧ x.doing = 3 ∧ x.endk = (if p then 2 else 1) ∧ x.endv = (if p then 9 else 0) ∧ x.evs = l.reverse.map (fun v => (1, v)) ∧ x.defers = l.length := by
  have h0 := ord_down (l := l) (p := p) l.length (Nat.le_refl _)
  have e0 := ord_atE (l := l) (p := p) 0
  have e1 := ord_atE (l := l) (p := p) 1
  have hrl : (l.take l.length).reverse = l.reverse := by rw [List.take_length]
  have hll : l.reverse.length = l.length := List.length_reverse
  cases p
  · have hr : OrdOk ⟨2, 2 * l.length + 1, [], 1, 1, 0, 0, l.length⟩ := .inl ⟨rfl, rfl, rfl, rfl, rfl⟩
    have a1 : step (ordFs l false) (ordS l l.length) = some ((⟨2, 2 * l.length + 1, [], 1, 1, 0, 0, l.length⟩ : OrdR).at_ l.reverse [] (2 * l.length + 1) 1) := by
      unfold step
      simp only [ordS]
      rw [show ((2 * (l.length : Int)).toNat) = 2 * l.length + 0 by omega, e0]
      show (if (0 : Int) ≤ 2 * l.length then _ else none) = _
      rw [if_pos (by omega)]
      have hs := ord_settle (l := l) (p := false) (rem := l.reverse) (E := []) (n := 2 * l.length + 1) (dep := 1) (N := 3) hr (by decide)
      rw [hll] at hs
      rw [← hs]
      simp [exec, ordFs_0, Mc.top, OrdR.main, hrl]
    obtain ⟨d2, h2⟩ := ord_calls (l := l) (p := false) hr l.reverse [] (2 * l.length + 1) 1
    exact ⟨_, _, by rw [hll]; omega, h0.trans ((Steps.one (by show (0 : Int) ≠ 3; decide) a1).trans h2), rfl, rfl, rfl, by simp [OrdR.at_], rfl⟩
  · have hr : OrdOk ⟨3, 2 * l.length + 2, [(9, false)], 2, 2, 9, 1, l.length⟩ := .inr ⟨rfl, rfl, rfl, rfl, rfl⟩
    have a1 : step (ordFs l true) (ordS l l.length) = some ⟨[], [], [⟨0, 0, 2 * l.length + 1, 0, [9], ordD l.reverse, 0⟩], [], [], l.length, 0, 0, 0, 2 * l.length + 1, 1, l.length, 0⟩ :=
      step_plain (i := ⟨1, 0, 9⟩) rfl (by show (0 : Int) ≤ 2 * l.length; omega) (by show (fnOf (ordFs l true) 0).code[(2 * (l.length : Int)).toNat]? = _; rw [show (2 * (l.length : Int)).toNat = 2 * l.length + 0 by omega]; exact e0) (by simp [exec, ordS, Mc.top, Fr.push]) (by simp)
    have a2 : step (ordFs l true) ⟨[], [], [⟨0, 0, 2 * l.length + 1, 0, [9], ordD l.reverse, 0⟩], [], [], l.length, 0, 0, 0, 2 * l.length + 1, 1, l.length, 0⟩ = some ((⟨3, 2 * l.length + 2, [(9, false)], 2, 2, 9, 1, l.length⟩ : OrdR).at_ l.reverse [] (2 * l.length + 2) 1) := by
      unfold step
      simp only
      rw [show ((2 * (l.length : Int) + 1).toNat) = 2 * l.length + 1 by omega, e1]
      show (if (0 : Int) ≤ 2 * l.length + 1 then _ else none) = _
      rw [if_pos (by omega)]
      have hs := ord_settle (l := l) (p := true) (rem := l.reverse) (E := []) (n := 2 * l.length + 2) (dep := 1) (N := 3) hr (by decide)
      rw [hll] at hs
      rw [← hs]
      simp [exec, Mc.top, Mc.raise, OrdR.main]
      rfl
    obtain ⟨d2, h2⟩ := ord_calls (l := l) (p := true) hr l.reverse [] (2 * l.length + 2) 1
    exact ⟨_, _, by rw [hll]; omega, h0.trans ((Steps.one (by show (0 : Int) ≠ 3; decide) a1).trans ((Steps.one (by show (0 : Int) ≠ 3; decide) a2).trans h2)), rfl, rfl, rfl, by simp [OrdR.at_], rfl⟩
end Go.Proofs.Ytdoabcmfblmklaa

/-
  Package sem: a program of two functions, the first one's code built up; rows of words cut; an ending's call.
-/
namespace Go.Proofs.Ytdoabcmfblmklaa
set_option linter.unusedVariables false
set_option linter.unusedSimpArgs false
open Go.ChangeShapes Go.WideShapes Go.ChangeAt Go.RowKit

def twoRs (main cf : List Ins) (A : Option Addr) (c g : Nat) : List Raw := [⟨⟨0, [], false, -1, main⟩, none, 0, A, c⟩, ⟨⟨1, [0], false, -1, cf⟩, some ⟨g, 0, none⟩, 1, some ⟨g + 1, 0, none⟩, cf.length⟩]
def twoW (W : World) (cf : List Ins) (A : Option Addr) (N c m : Nat) : World :=
  ((W.alloc (.cells #[.int .u8 0] 47)).alloc (.cells (insc cf).toArray 43)).alloc (.cells #[.int .i64 0, .slice none 0 0, .bool false, .int .i64 (-1), .slice A N c, .int .i64 1, .slice (some ⟨W.heap.size, 0, none⟩) 1 1, .bool false, .int .i64 (-1), .slice (some ⟨W.heap.size + 1, 0, none⟩) m m] 46)
theorem twoW_size (W : World) (cf : List Ins) (A : Option Addr) (N c m : Nat) : (twoW W cf A N c m).heap.size = W.heap.size + 3 := by simp [twoW]
theorem twoW_below (W : World) (cf : List Ins) (A : Option Addr) (N c m : Nat) : Below W.heap.size W (twoW W cf A N c m) :=
  (((Below.refl _ _).alloc (Nat.le_refl _) _).alloc (by simp) _).alloc (by simp; omega) _
theorem lit_two2 (W : World) (main cf : List Ins) (A : Option Addr) (N c m : Nat) (hN : N = main.length) (hN1 : N ≤ 1000) (hm : m = cf.length) (hm1 : m ≤ 1000) (hR : Reads W W.heap.size 3 A N (insc main)) (hw : ∀ i ∈ main, WfI i) (hw2 : ∀ i ∈ cf, WfI i) :
    RdP (twoW W cf A N c m) (W.heap.size + 3) (some ⟨W.heap.size + 2, 0, none⟩) 2 (twoRs main cf A c W.heap.size) := by
  subst hN hm
  have hb := Blk.new ((W.alloc (.cells #[.int .u8 0] 47)).alloc (.cells (insc cf).toArray 43)) 46 (rawc (twoRs main cf A c W.heap.size)).toArray
  rw [show ((W.alloc (.cells #[.int .u8 0] 47)).alloc (.cells (insc cf).toArray 43)).heap.size = W.heap.size + 2 by simp] at hb
  have hb' : Blk (twoW W cf A main.length c cf.length) (W.heap.size + 2) 46 (rawc (twoRs main cf A c W.heap.size)).toArray := hb
  have h0 : Blk (twoW W cf A main.length c cf.length) W.heap.size 47 (u8c [0]).toArray := ((Blk.new W _ _).alloc _).alloc _
  have h1 : Blk (twoW W cf A main.length c cf.length) (W.heap.size + 1) 43 (insc cf).toArray := (blk_second _ _ _ _ _).alloc _
  have h2 : Reads (twoW W cf A main.length c cf.length) W.heap.size 3 A main.length (insc main) := hR.below (twoW_below W cf A main.length c cf.length)
  have h := lit_rs (n := 2) (rs := twoRs main cf A c W.heap.size) hb' rfl (by omega) (fun r hr => by
    simp only [twoRs, List.mem_cons, List.not_mem_nil, or_false] at hr
    rcases hr with rfl | rfl
    · exact ⟨Reads.none_, h2.more (by rw [twoW_size]; omega), Nat.le_refl _⟩
    · exact ⟨reads_blk h0 rfl, reads_blk h1 (length_insc _), Nat.le_refl _⟩) (fun r hr => by
    simp only [twoRs, List.mem_cons, List.not_mem_nil, or_false] at hr
    rcases hr with rfl | rfl
    · exact wff_0 hw hN1
    · exact wff_1 hw2 hm1)
  rw [twoW_size] at h
  exact h
theorem insc_app (a b : List Ins) : insc a ++ insc b = insc (a ++ b) := by simp [insc]
theorem lit_reads (W : World) (is : List Ins) (m : Nat) (hm : is.length = m) : Reads (W.alloc (.cells (insc is).toArray 43)) (W.heap.size + 1) 3 (some ⟨W.heap.size, 0, none⟩) m (insc is) := by
  have h := reads_blk (n := m) (size := 3) (Blk.new W 43 (insc is).toArray) (by rw [length_insc, hm])
  rw [show (W.alloc (.cells (insc is).toArray 43)).heap.size = W.heap.size + 1 by simp] at h
  exact h
theorem Reads.takeU {w : World} {B n m : Nat} {A : Option Addr} {l : List Int} (h : Reads w B 1 A n (u64c l)) (hm : m ≤ n) : Reads w B 1 A m (u64c (l.take m)) ∧ (l.take m).length = m := by
  have h1 := h.1
  have hl : (u64c l).length = l.length := by simp [u64c]
  rw [hl] at h1
  refine ⟨⟨by simp [u64c]; omega, fun h0 => ?_⟩, by rw [List.length_take]; omega⟩
  obtain ⟨ad, rfl, hb, hc⟩ := h.2 (by omega)
  refine ⟨ad, rfl, hb, fun j u hu => hc j u ?_⟩
  rw [← u64c_take, List.getElem?_take] at hu
  split at hu
  · exact hu
  · cases hu
theorem Reads.word {w : World} {B n : Nat} {A : Option Addr} {l : List Int} (h : Reads w B 1 A n (u64c l)) {k : Nat} (hk : k < n) : ∃ b off x, A = some ⟨b, off, none⟩ ∧ b < B ∧ Hid (l[k]? = some x) ∧ w.cell? ⟨b, off + k, none⟩ = some (.int .u64 x) := by
  obtain ⟨b, off, rfl, hb, hc⟩ := h.lit (by omega) (by omega)
  have h1 := h.1
  have hl : (u64c l).length = l.length := by simp [u64c]
  rw [hl] at h1
  have hkl : k < l.length := by omega
  exact ⟨b, off, l[k], rfl, hb, List.getElem?_eq_getElem hkl, hc _ _ (u64c_at (List.getElem?_eq_getElem hkl))⟩
end Go.Proofs.Ytdoabcmfblmklaa

/-
  SemOrder: the walk.
-/
namespace Go.Proofs.Ytdoabcmfblmklaa
set_option linter.unusedVariables false
set_option linter.unusedSimpArgs false
open Go.ChangeShapes Go.WideShapes Go.ChangeAt Go.RowKit

theorem wf_ord {l : List Int} {p : Bool} (hw : ∀ v ∈ l, isW v) : ∀ i ∈ ordC l ++ ordE p, WfI i := by
  intro i hi
  rcases List.mem_append.1 hi with hi | hi
  · rcases ordC_mem hi with ⟨v, hv, rfl⟩ | rfl
    · exact wf_const (hw v hv)
    · exact wf_small (by decide)
  · cases p
    · simp [ordE] at hi; subst hi; exact wf_small (by decide)
    · simp [ordE] at hi; rcases hi with rfl | rfl
      · exact wf_small (by decide)
      · exact wf_small (by decide)
theorem wf_ordF : ∀ i ∈ ordF, WfI i := by intro i hi; apply wf_small; simp [ordF] at hi; rcases hi with rfl | rfl | rfl <;> decide
theorem ordC_snoc {l : List Int} {j : Nat} {v : Int} (h : l[j]? = some v) : ordC (l.take (j + 1)) = ordC (l.take j) ++ [⟨1, 0, v⟩, ⟨25, 1, 0⟩] := by
  rw [List.take_add_one, h]
  simp [ordC]
theorem rev_ev {l : List Int} {m j : Nat} (hl : l.length = m) (hj : j < m) : (l.reverse.map fun v => ((1 : Int), v))[j]? = (l[m - 1 - j]?).map fun v => ((1 : Int), v) := by
  rw [List.getElem?_map, List.getElem?_reverse (by omega), hl]
/-- the run of such a program -/
def OrdPost (w1 : World) (l : List Int) (m : Nat) (ek ev : Int) (e : Ending) (w' : World) : Prop := ∃ A c d1 d2 s1, e = .returned (.tuple #[.agg #[.slice A m c, .int .i64 ek, .int .u64 ev, .int .i64 s1, .int .i64 d1, .int .i64 (m : Nat), .int .i64 d2], .int .i64 0]) ∧
  Hid (Reads w' w'.heap.size 2 A m (evc6 (l.reverse.map fun v => (1, v)))) ∧ Hid (Below w1.heap.size w1 w')
theorem ord_run (W : World) (l : List Int) (p : Bool) (m N c : Nat) (A : Option Addr) (hl : l.length = m) (hm : m ≤ 40) (hw : ∀ v ∈ l, isW v) (hN : N = (ordC l ++ ordE p).length) (hR : Reads W W.heap.size 3 A N (insc (ordC l ++ ordE p))) :
    Calls Try.prog 9 #[.agg #[.slice (some ⟨W.heap.size + 2, 0, none⟩) 2 2], .slice none 0 0, .int .i64 1000] (twoW W ordF A N c 3) (OrdPost W l m (if p then 2 else 1) (if p then 9 else 0)) := by
  have hN1 : N ≤ 1000 := by rw [hN, List.length_append, length_ordC]; cases p <;> simp [ordE] <;> omega
  have hL := lit_two2 W (ordC l ++ ordE p) ordF A N c 3 hN hN1 rfl (by decide) hR (wf_ord hw) wf_ordF
  refine (run_full (W.heap.size + 3) 2 2 _ _ none 0 0 [] 1000 _ hL (by rw [twoW_size]; omega) Reads.none_ (by omega) (fun v hv => by cases hv) (by omega)).mono ?_
  rintro e w' ⟨A', c', st, er, rfl, hra, hown, hb⟩
  obtain ⟨n, z, hn, q1, q2, q3, q4, q5, q6⟩ := ord_all l p (by omega)
  obtain ⟨rfl, rfl⟩ := hra.steps (verd_ord (by omega) hw) q1 q2 hn
  have hel : st.evs.length = m := by rw [q5]; simp [hl]
  refine ⟨A', c', st.depth, st.maxp, st.steps, ?_, ?_, Lib.hid ((twoW_below W ordF A N c 3).trans (hb.mono (by rw [twoW_size]; omega)))⟩
  · rw [q3, q4, q6, hel, hl]
  · have h := Reads.of_own hown
    rw [hel, q5] at h
    exact Lib.hid h
theorem u64c_len (l : List Int) : (u64c l).length = l.length := by simp [u64c]
set_option maxRecDepth 100000 in
set_option maxHeartbeats 12800000 in
theorem ord_walk_f (A0 : Option Addr) (n0 c0 : Nat) (tape : List Int) (w : World) (ht : Reads w w.heap.size 1 A0 n0 (u64c tape)) (hn0 : n0 ≤ c0) (hc0 : c0 * 8 ≤ 140737488351232) (htw : ∀ v ∈ tape, isW v) :
    Calls Try.prog 4 #[.slice A0 n0 c0, .bool false] w fun e w' => e = .returned (.bool true) ∧ Below w.heap.size w w' := by
  obtain ⟨m, hm, hm40, hmn⟩ : ∃ m : Nat, (if (40 : Int) < (n0 : Int) then (40 : Int) else (n0 : Int)) = (m : Int) ∧ m ≤ 40 ∧ m ≤ n0 := ⟨min n0 40, by split <;> omega, by omega, by omega⟩
  obtain ⟨hR, hll⟩ := ht.takeU hmn
  obtain ⟨l, hl⟩ : ∃ l, l = tape.take m := ⟨_, rfl⟩
  rw [← hl] at hR hll
  have HR := Lib.hid hR
  have HL := Lib.hid hll
  have HTW : Hid (∀ v ∈ l, isW v) := Lib.hid fun v hv => htw v (List.mem_of_mem_take (by rw [← hl]; exact hv))
  have HM := Lib.hid hm40
  clear ht htw hR hll hl
  go_enter Try.func4, Try.ntmps4
  go_wp2_with (go_at_call 8; refine (first6_any _).mono ?_; rintro e w1 ⟨rfl, hb1⟩; have HB1 := Lib.hid hb1; clear hb1; refine Hid.out ?_)
  refine Lib.hid ?_
  go_wp2
  go_loopw [6, 23] (fun s i wr => ∃ (j : Nat) (A : Option Addr) (c : Nat), j ≤ m ∧ s = .slice A (2 * j) c ∧ i = .int .i64 j ∧ Hid (wr.ownsRow w.heap.size 43 3 (.slice A (2 * j) c) (2 * j) (insc (ordC (l.take j)))) ∧ Hid (Below w.heap.size w wr)) (fun _ i _ => m - (intOf i).toNat)
  case atStart => exact ⟨0, none, 0, Nat.zero_le _, rfl, rfl, Lib.hid (own_none _ _ _ _), HB1⟩
  case round =>
    clear HB1
    obtain ⟨j, A, c, hj, rfl, rfl, HO, HW⟩ := hrel
    have hzr := HW.out.size
    by_cases hlt : j < m
    · obtain ⟨b, off, v, rfl, hb, HV, x1⟩ := (HR.out.below HW.out).word hlt
      have HOA := Lib.hid (own_al HO.out (.cells (insc [⟨1, 0, v⟩, ⟨25, 1, 0⟩]).toArray 43))
      have HRD := Lib.hid (lit_reads wr [⟨1, 0, v⟩, ⟨25, 1, 0⟩] 2 rfl)
      have HNX : Hid (ordC (l.take j) ++ [⟨1, 0, v⟩, ⟨25, 1, 0⟩] = ordC (l.take (j + 1))) := Lib.hid (ordC_snoc HV.out).symm
      have h2j : 2 * j + 2 = 2 * (j + 1) := by omega
      go_wp2_with (at_builtin; refine app_ins rfl _ _ rfl w.heap.size (.slice A (2 * j) c) (2 * j) (insc (ordC (l.take j))) rfl HOA.out (wr.heap.size + 1) (some ⟨wr.heap.size, 0, none⟩) 2 2 (insc [⟨1, 0, v⟩, ⟨25, 1, 0⟩]) rfl HRD.out (insc_one _) (by omega) (by simp; omega) ?_; intro v8 w8 hown hgr _; obtain ⟨A8, c8, rfl⟩ := own_slice hown; have hb8 : Below w.heap.size w w8 := (HW.out.alloc hzr (.cells (insc [⟨1, 0, v⟩, ⟨25, 1, 0⟩]).toArray 43)).grown hgr (by simp; omega) (fun q hq => (own_block_le HOA.out hq).1); have HB8 := Lib.hid hb8; rw [insc_app, HNX.out, h2j] at hown; have HO8 := Lib.hid hown; clear hown hgr hb8; rw [h2j]; refine Hid.out ?_)
      refine Lib.hid ?_
      clear h2j
      go_wp2
      go_roundw
      case rel => exact ⟨j + 1, A8, c8, by omega, rfl, by go_num, HO8, HB8⟩
      case measure => simp [intOf]; omega
    · obtain rfl : j = m := by omega
      clear hlt hj
      have hl2 : l.take j = l := List.take_of_length_le (by rw [HL.out]; omega)
      rw [hl2] at HO
      clear hl2
      have hs3 : (wr.alloc (.cells #[.int .i64 1, .int .u64 0] 32)).heap.size = wr.heap.size + 1 := by simp
      have HZ0 : Hid (Blk (wr.alloc (.cells #[.int .i64 1, .int .u64 0] 32)) wr.heap.size 32 #[.int .i64 1, .int .u64 0]) := Lib.hid (Blk.new wr _ _)
      have HB0 : Hid (Below w.heap.size w ((wr.alloc (.cells #[.int .i64 1, .int .u64 0] 32)).alloc (.cells (insc [⟨24, 0, 0⟩]).toArray 43))) := Lib.hid ((HW.out.alloc hzr _).alloc (by rw [hs3]; omega) _)
      have HZ1 : Hid (Blk ((wr.alloc (.cells #[.int .i64 1, .int .u64 0] 32)).alloc (.cells (insc [⟨24, 0, 0⟩]).toArray 43)) wr.heap.size 32 #[.int .i64 1, .int .u64 0]) := Lib.hid (HZ0.out.alloc _)
      have HOA := Lib.hid (own_al (own_al HO.out (.cells #[.int .i64 1, .int .u64 0] 32)) (.cells (insc [⟨24, 0, 0⟩]).toArray 43))
      have hrd := lit_reads (wr.alloc (.cells #[.int .i64 1, .int .u64 0] 32)) [⟨24, 0, 0⟩] 1 rfl
      rw [hs3] at hrd
      have HRD := Lib.hid hrd
      have HOE : Hid (∀ g, Value.ownBlock (.slice A (2 * j) c) = some g → g < wr.heap.size) := Lib.hid fun g hg => (own_block_le HO.out hg).2
      clear HO hrd hs3 HZ0
      go_wp2_with (at_builtin; go_loud (refine app_ins rfl _ _ rfl w.heap.size (.slice A (2 * j) c) (2 * j) (insc (ordC l)) rfl HOA.out (wr.heap.size + 1 + 1) (some ⟨wr.heap.size + 1, 0, none⟩) 1 1 (insc [⟨24, 0, 0⟩]) rfl HRD.out (insc_one _) (by omega) (by simp; omega) ?_; intro v8 w8 hown hgr _; obtain ⟨A8, c8, rfl⟩ := own_slice hown; have hb8 : Below w.heap.size w w8 := HB0.out.grown hgr (by simp; omega) (fun q hq => (own_block_le HOA.out hq).1); have hz8 := HZ1.out.grown hgr (fun hx => absurd (HOE.out _ hx.symm) (Nat.lt_irrefl _)); have HB8 := Lib.hid hb8; have HZ8 := Lib.hid hz8; rw [insc_app] at hown; have HO8 := Lib.hid hown; clear hown hgr hb8 hz8; refine Hid.out ?_))
      have HZ9 := HZ8
      have HB9 := HB8
      have HRUN := Lib.hid (ord_run w8 l false j (2 * j + 1) c8 A8 HL.out HM.out HTW.out (by rw [List.length_append, length_ordC, HL.out]; simp [ordE]; omega) (Reads.of_own HO8.out))
      refine Lib.hid ?_
      have hee : ∀ W, Sem.run Try.prog (Op.equalIn 10000 32 (.agg #[.int .i64 1, .int .u64 0]) (.agg #[.int .i64 1, .int .u64 0])) W = .ok true W := fun W => by
        have := equalIn_end (1, 0) (1, 0) W
        simpa using this
      clear HOA HRD HOE HZ1 HB0 HO8
      go_wp2_with (go_at_call 9; refine HRUN.out.mono ?_; rintro e w10 ⟨A2, c2, d1, d2, s1, rfl, HE10, HB10'⟩; have HZ10 := Lib.hid (HZ9.out.below HB10'.out HZ9.out.lt); have HB10 := Lib.hid (HB9.out.trans (HB10'.out.mono HB9.out.size)); refine Hid.out ?_)
      have z0 : w10.cell? ⟨wr.heap.size, 0, none⟩ = some (.int .i64 1) := HZ10.out.cell 0
      have z1 : w10.cell? ⟨wr.heap.size, 1, none⟩ = some (.int .u64 0) := HZ10.out.cell 1
      have hz10 : wr.heap.size < w10.heap.size := HZ10.out.lt
      refine Lib.hid ?_
      go_wp2
      have hzw : w.heap.size ≤ w10.heap.size := HB10.out.size
      obtain ⟨wo, hwo⟩ : ∃ wo, wo = wr := ⟨_, rfl⟩
      rw [← hwo] at z0 z1 hz10
      have HWO := Lib.hid hwo
      rw [← hwo]
      clear hwo HZ10 HZ9 HZ8
      go_loopw [86] (fun i wr2 => ∃ k : Nat, k ≤ j ∧ i = .int .i64 k ∧ Hid (Below w10.heap.size w10 wr2)) (fun i _ => j - (intOf i).toNat)
      case atStart => exact ⟨0, Nat.zero_le _, rfl, Lib.hid ((Below.refl _ _).alloc (Nat.le_refl _) _)⟩
      case round =>
        obtain ⟨k, hk, rfl, HWK⟩ := hrel
        by_cases hlt2 : k < j
        · obtain ⟨q, hq⟩ : ∃ q, q = j - 1 - k := ⟨_, rfl⟩
          obtain ⟨m1, hm1⟩ : ∃ m1 : Nat, (j : Int) - 1 = (m1 : Int) := ⟨j - 1, by omega⟩
          have hqq : (m1 : Int) - (k : Int) = (q : Int) := by omega
          have hqj : q < j := by omega
          obtain ⟨b, off, v, rfl, hb, HV, x1⟩ := (HR.out.below (HB10.out.trans (HWK.out.mono hzw))).word hqj
          obtain ⟨b2, o2, x, rfl, hb2, HX, y1, y2⟩ := (HE10.out.below HWK.out).ev (k := k) (by simp [HL.out]) hlt2
          have hxv : x = (1, v) := by
            have h1 := HX.out
            rw [rev_ev HL.out hlt2, ← hq, HV.out] at h1
            injection h1 with h1
            exact h1.symm
          subst hxv
          have he : ∀ W, Sem.run Try.prog (Op.equalIn 10000 50 (.agg #[.int .i64 1, .int .u64 v]) (.agg #[.int .i64 1, .int .u64 v])) W = .ok true W := fun W => by
            have := equalIn_ev (1, v) (1, v) W
            simpa using this
          have hz2 := HWK.out.size
          have x1' : ∀ o, (wr.alloc o).cell? ⟨b, off + q, none⟩ = some (.int .u64 v) := fun o => by rw [World.cell?_alloc_lt wr o _ (by show b < wr.heap.size; omega)]; exact x1
          clear hq
          go_wp2
          go_quiet (fail)
          go_wp2
          go_roundw
          case rel => exact ⟨k + 1, by omega, by go_num, Lib.hid (below_drewN (HWK.out.alloc hz2 _) _)⟩
          case measure => simp [intOf]; omega
        · obtain rfl : k = j := by omega
          go_wp2
          go_ret
          exact ⟨rfl, HB10.out.trans (HWK.out.mono hzw)⟩
set_option maxRecDepth 100000 in
set_option maxHeartbeats 12800000 in
theorem ord_walk_t (A0 : Option Addr) (n0 c0 : Nat) (tape : List Int) (w : World) (ht : Reads w w.heap.size 1 A0 n0 (u64c tape)) (hn0 : n0 ≤ c0) (hc0 : c0 * 8 ≤ 140737488351232) (htw : ∀ v ∈ tape, isW v) :
    Calls Try.prog 4 #[.slice A0 n0 c0, .bool true] w fun e w' => e = .returned (.bool true) ∧ Below w.heap.size w w' := by
  obtain ⟨m, hm, hm40, hmn⟩ : ∃ m : Nat, (if (40 : Int) < (n0 : Int) then (40 : Int) else (n0 : Int)) = (m : Int) ∧ m ≤ 40 ∧ m ≤ n0 := ⟨min n0 40, by split <;> omega, by omega, by omega⟩
  obtain ⟨hR, hll⟩ := ht.takeU hmn
  obtain ⟨l, hl⟩ : ∃ l, l = tape.take m := ⟨_, rfl⟩
  rw [← hl] at hR hll
  have HR := Lib.hid hR
  have HL := Lib.hid hll
  have HTW : Hid (∀ v ∈ l, isW v) := Lib.hid fun v hv => htw v (List.mem_of_mem_take (by rw [← hl]; exact hv))
  have HM := Lib.hid hm40
  clear ht htw hR hll hl
  go_enter Try.func4, Try.ntmps4
  go_wp2_with (go_at_call 8; refine (first6_any _).mono ?_; rintro e w1 ⟨rfl, hb1⟩; have HB1 := Lib.hid hb1; clear hb1; refine Hid.out ?_)
  refine Lib.hid ?_
  go_wp2
  go_loopw [6, 23] (fun s i wr => ∃ (j : Nat) (A : Option Addr) (c : Nat), j ≤ m ∧ s = .slice A (2 * j) c ∧ i = .int .i64 j ∧ Hid (wr.ownsRow w.heap.size 43 3 (.slice A (2 * j) c) (2 * j) (insc (ordC (l.take j)))) ∧ Hid (Below w.heap.size w wr)) (fun _ i _ => m - (intOf i).toNat)
  case atStart => exact ⟨0, none, 0, Nat.zero_le _, rfl, rfl, Lib.hid (own_none _ _ _ _), HB1⟩
  case round =>
    clear HB1
    obtain ⟨j, A, c, hj, rfl, rfl, HO, HW⟩ := hrel
    have hzr := HW.out.size
    by_cases hlt : j < m
    · obtain ⟨b, off, v, rfl, hb, HV, x1⟩ := (HR.out.below HW.out).word hlt
      have HOA := Lib.hid (own_al HO.out (.cells (insc [⟨1, 0, v⟩, ⟨25, 1, 0⟩]).toArray 43))
      have HRD := Lib.hid (lit_reads wr [⟨1, 0, v⟩, ⟨25, 1, 0⟩] 2 rfl)
      have HNX : Hid (ordC (l.take j) ++ [⟨1, 0, v⟩, ⟨25, 1, 0⟩] = ordC (l.take (j + 1))) := Lib.hid (ordC_snoc HV.out).symm
      have h2j : 2 * j + 2 = 2 * (j + 1) := by omega
      go_wp2_with (at_builtin; refine app_ins rfl _ _ rfl w.heap.size (.slice A (2 * j) c) (2 * j) (insc (ordC (l.take j))) rfl HOA.out (wr.heap.size + 1) (some ⟨wr.heap.size, 0, none⟩) 2 2 (insc [⟨1, 0, v⟩, ⟨25, 1, 0⟩]) rfl HRD.out (insc_one _) (by omega) (by simp; omega) ?_; intro v8 w8 hown hgr _; obtain ⟨A8, c8, rfl⟩ := own_slice hown; have hb8 : Below w.heap.size w w8 := (HW.out.alloc hzr (.cells (insc [⟨1, 0, v⟩, ⟨25, 1, 0⟩]).toArray 43)).grown hgr (by simp; omega) (fun q hq => (own_block_le HOA.out hq).1); have HB8 := Lib.hid hb8; rw [insc_app, HNX.out, h2j] at hown; have HO8 := Lib.hid hown; clear hown hgr hb8; rw [h2j]; refine Hid.out ?_)
      refine Lib.hid ?_
      clear h2j
      go_wp2
      go_roundw
      case rel => exact ⟨j + 1, A8, c8, by omega, rfl, by go_num, HO8, HB8⟩
      case measure => simp [intOf]; omega
    · obtain rfl : j = m := by omega
      clear hlt hj
      have hl2 : l.take j = l := List.take_of_length_le (by rw [HL.out]; omega)
      rw [hl2] at HO
      clear hl2
      have hs3 : (wr.alloc (.cells #[.int .i64 1, .int .u64 0] 32)).heap.size = wr.heap.size + 1 := by simp
      have HZ0 : Hid (Blk (wr.alloc (.cells #[.int .i64 1, .int .u64 0] 32)) wr.heap.size 32 #[.int .i64 1, .int .u64 0]) := Lib.hid (Blk.new wr _ _)
      have HB0 : Hid (Below w.heap.size w ((wr.alloc (.cells #[.int .i64 1, .int .u64 0] 32)).alloc (.cells (insc [⟨1, 0, 9⟩, ⟨26, 0, 0⟩]).toArray 43))) := Lib.hid ((HW.out.alloc hzr _).alloc (by rw [hs3]; omega) _)
      have HZ1 : Hid (Blk ((wr.alloc (.cells #[.int .i64 1, .int .u64 0] 32)).alloc (.cells (insc [⟨1, 0, 9⟩, ⟨26, 0, 0⟩]).toArray 43)) wr.heap.size 32 #[.int .i64 1, .int .u64 0]) := Lib.hid (HZ0.out.alloc _)
      have HOA := Lib.hid (own_al (own_al HO.out (.cells #[.int .i64 1, .int .u64 0] 32)) (.cells (insc [⟨1, 0, 9⟩, ⟨26, 0, 0⟩]).toArray 43))
      have hrd := lit_reads (wr.alloc (.cells #[.int .i64 1, .int .u64 0] 32)) [⟨1, 0, 9⟩, ⟨26, 0, 0⟩] 2 rfl
      rw [hs3] at hrd
      have HRD := Lib.hid hrd
      have HOE : Hid (∀ g, Value.ownBlock (.slice A (2 * j) c) = some g → g < wr.heap.size) := Lib.hid fun g hg => (own_block_le HO.out hg).2
      clear HO hrd hs3 HZ0
      go_wp2_with (at_builtin; go_loud (refine app_ins rfl _ _ rfl w.heap.size (.slice A (2 * j) c) (2 * j) (insc (ordC l)) rfl HOA.out (wr.heap.size + 1 + 1) (some ⟨wr.heap.size + 1, 0, none⟩) 2 2 (insc [⟨1, 0, 9⟩, ⟨26, 0, 0⟩]) rfl HRD.out (insc_one _) (by omega) (by simp; omega) ?_; intro v8 w8 hown hgr _; obtain ⟨A8, c8, rfl⟩ := own_slice hown; have hb8 : Below w.heap.size w w8 := HB0.out.grown hgr (by simp; omega) (fun q hq => (own_block_le HOA.out hq).1); have hz8 := HZ1.out.grown hgr (fun hx => absurd (HOE.out _ hx.symm) (Nat.lt_irrefl _)); have HB8 := Lib.hid hb8; have HZ8 := Lib.hid hz8; rw [insc_app] at hown; have HO8 := Lib.hid hown; clear hown hgr hb8 hz8; refine Hid.out ?_))
      have z0 : w8.cell? ⟨wr.heap.size, 0, none⟩ = some (.int .i64 1) := HZ8.out.cell 0
      have z1 : w8.cell? ⟨wr.heap.size, 1, none⟩ = some (.int .u64 0) := HZ8.out.cell 1
      have zf : ∀ i, w8.frozen? ⟨wr.heap.size, i, none⟩ = false := fun i => HZ8.out.frozen i
      have HZ9 : Hid (Blk ((w8.setCell ⟨wr.heap.size, 0, none⟩ (.int .i64 2)).setCell ⟨wr.heap.size, 1, none⟩ (.int .u64 9)) wr.heap.size 32 #[.int .i64 2, .int .u64 9]) := Lib.hid ((HZ8.out.set_ 0 (.int .i64 2)).set_ 1 (.int .u64 9))
      have HB9 : Hid (Below w.heap.size w ((w8.setCell ⟨wr.heap.size, 0, none⟩ (.int .i64 2)).setCell ⟨wr.heap.size, 1, none⟩ (.int .u64 9))) := Lib.hid ((HB8.out.setCell (p := ⟨wr.heap.size, 0, none⟩) hzr _).setCell (p := ⟨wr.heap.size, 1, none⟩) hzr _)
      have HO9 : Hid (World.ownsRow ((w8.setCell ⟨wr.heap.size, 0, none⟩ (.int .i64 2)).setCell ⟨wr.heap.size, 1, none⟩ (.int .u64 9)) w.heap.size 43 3 (.slice A8 (2 * j + 2) c8) (2 * j + 2) (insc (ordC l ++ [⟨1, 0, 9⟩, ⟨26, 0, 0⟩]))) := Lib.hid (own_far (own_far HO8.out HZ8.out (by decide) _ _) (HZ8.out.set_ 0 (.int .i64 2)) (by decide) _ _)
      obtain ⟨w9, hw9⟩ : ∃ W, W = (w8.setCell ⟨wr.heap.size, 0, none⟩ (.int .i64 2)).setCell ⟨wr.heap.size, 1, none⟩ (.int .u64 9) := ⟨_, rfl⟩
      rw [← hw9] at HZ9 HB9 HO9
      have HW9 := Lib.hid hw9
      have HRUN := Lib.hid (ord_run w9 l true j (2 * j + 2) c8 A8 HL.out HM.out HTW.out (by rw [List.length_append, length_ordC, HL.out]; simp [ordE]; omega) (Reads.of_own HO9.out))
      have hsz : ((w8.setCell ⟨wr.heap.size, 0, none⟩ (.int .i64 2)).setCell ⟨wr.heap.size, 1, none⟩ (.int .u64 9)).heap.size = w8.heap.size := by simp
      have hrun := HRUN.out
      rw [hw9] at hrun
      unfold twoW at hrun
      rw [hsz] at hrun
      have HRUN2 := Lib.hid hrun
      clear hrun hsz HRUN
      clear hw9
      refine Lib.hid ?_
      have hee : ∀ W, Sem.run Try.prog (Op.equalIn 10000 32 (.agg #[.int .i64 2, .int .u64 9]) (.agg #[.int .i64 2, .int .u64 9])) W = .ok true W := fun W => by
        have := equalIn_end (2, 9) (2, 9) W
        simpa using this
      clear HOA HRD HOE HZ1 HB0 HO8
      go_wp2_with (go_at_call 9; refine HRUN2.out.mono ?_; rintro e w10 ⟨A2, c2, d1, d2, s1, rfl, HE10, HB10'⟩; rw [← HW9.out] at HB10'; have HZ10 := Lib.hid (HZ9.out.below HB10'.out HZ9.out.lt); have HB10 := Lib.hid (HB9.out.trans (HB10'.out.mono HB9.out.size)); refine Hid.out ?_)
      have z0 : w10.cell? ⟨wr.heap.size, 0, none⟩ = some (.int .i64 2) := HZ10.out.cell 0
      have z1 : w10.cell? ⟨wr.heap.size, 1, none⟩ = some (.int .u64 9) := HZ10.out.cell 1
      have hz10 : wr.heap.size < w10.heap.size := HZ10.out.lt
      refine Lib.hid ?_
      go_wp2
      have hzw : w.heap.size ≤ w10.heap.size := HB10.out.size
      obtain ⟨wo, hwo⟩ : ∃ wo, wo = wr := ⟨_, rfl⟩
      rw [← hwo] at z0 z1 hz10
      have HWO := Lib.hid hwo
      rw [← hwo]
      clear hwo HZ10 HZ9 HZ8
      go_loopw [86] (fun i wr2 => ∃ k : Nat, k ≤ j ∧ i = .int .i64 k ∧ Hid (Below w10.heap.size w10 wr2)) (fun i _ => j - (intOf i).toNat)
      case atStart => exact ⟨0, Nat.zero_le _, rfl, Lib.hid ((Below.refl _ _).alloc (Nat.le_refl _) _)⟩
      case round =>
        obtain ⟨k, hk, rfl, HWK⟩ := hrel
        by_cases hlt2 : k < j
        · obtain ⟨q, hq⟩ : ∃ q, q = j - 1 - k := ⟨_, rfl⟩
          obtain ⟨m1, hm1⟩ : ∃ m1 : Nat, (j : Int) - 1 = (m1 : Int) := ⟨j - 1, by omega⟩
          have hqq : (m1 : Int) - (k : Int) = (q : Int) := by omega
          have hqj : q < j := by omega
          obtain ⟨b, off, v, rfl, hb, HV, x1⟩ := (HR.out.below (HB10.out.trans (HWK.out.mono hzw))).word hqj
          obtain ⟨b2, o2, x, rfl, hb2, HX, y1, y2⟩ := (HE10.out.below HWK.out).ev (k := k) (by simp [HL.out]) hlt2
          have hxv : x = (1, v) := by
            have h1 := HX.out
            rw [rev_ev HL.out hlt2, ← hq, HV.out] at h1
            injection h1 with h1
            exact h1.symm
          subst hxv
          have he : ∀ W, Sem.run Try.prog (Op.equalIn 10000 50 (.agg #[.int .i64 1, .int .u64 v]) (.agg #[.int .i64 1, .int .u64 v])) W = .ok true W := fun W => by
            have := equalIn_ev (1, v) (1, v) W
            simpa using this
          have hz2 := HWK.out.size
          have x1' : ∀ o, (wr.alloc o).cell? ⟨b, off + q, none⟩ = some (.int .u64 v) := fun o => by rw [World.cell?_alloc_lt wr o _ (by show b < wr.heap.size; omega)]; exact x1
          clear hq
          go_wp2
          go_quiet (fail)
          go_wp2
          go_roundw
          case rel => exact ⟨k + 1, by omega, by go_num, Lib.hid (below_drewN (HWK.out.alloc hz2 _) _)⟩
          case measure => simp [intOf]; omega
        · obtain rfl : k = j := by omega
          go_wp2
          go_ret
          exact ⟨rfl, HB10.out.trans (HWK.out.mono hzw)⟩
theorem ord_walk (A0 : Option Addr) (n0 c0 : Nat) (tape : List Int) (p : Bool) (w : World) (ht : Reads w w.heap.size 1 A0 n0 (u64c tape)) (hn0 : n0 ≤ c0) (hc0 : c0 * 8 ≤ 140737488351232) (htw : ∀ v ∈ tape, isW v) :
    Calls Try.prog 4 #[.slice A0 n0 c0, .bool p] w fun e w' => e = .returned (.bool true) ∧ Below w.heap.size w w' := by
  cases p
  · exact ord_walk_f A0 n0 c0 tape w ht hn0 hc0 htw
  · exact ord_walk_t A0 n0 c0 tape w ht hn0 hc0 htw
end Go.Proofs.Ytdoabcmfblmklaa

/-
  SemOrder is true for all numbers, with a panic or without: deferred calls are called last first; no condition.
-/
namespace Go.Proofs.Ytdoabcmfblmklaa.semOrder
open Go.ChangeShapes Go.WideShapes Go.ChangeAt Go.RowKit
set_option linter.unusedVariables false

theorem own : ownKnob Try.prog.godebug = none := by kernel_rfl
theorem laidOut : laidOutB Try.prog = true := by kernel_rfl

set_option maxRecDepth 100000 in
theorem lifted (os : Os) (started : os.Started) (H : Type) (enc : TypeId × Value → H) :
    ReturnsInHanded {} Try.checked os 4 .any (Rows.semOrderSpec.pre6 enc Try.prog Try.f4 Rows.semOrderRow.domain false) (Rows.semOrderSpec.post enc Try.prog Try.f4 false true false false) := by
  refine returnsInHanded_of_change_sized (C := Try.checked) own started (by kernel_rfl) Try.func4
    (ChangeSpec.witness6 (enc := enc) (C := Try.checked) false ⟨#[], #[.slice none 0 0, .bool false], []⟩ 8 (by kernel_rfl) (by kernel_rfl) (by kernel_rfl) (by kernel_rfl)) ?_
  intro W base args ds gs before hval0 hW hcnd hsz0 _
  have hval : ∀ (j : Nat) t v, Try.f4.params[j]? = some t → args[j]? = some v → Value.okWide Try.prog W .any base t v := hval0
  have hsz : (DataW.weightsEach Try.prog (Try.f4.params.toList ++ Rows.semOrderSpec.plain.varTypes Try.prog) (ds ++ gs)).all (· ≤ reachBytes) = true := hsz0
  clear hsz0
  have hW' := hW
  obtain ⟨p, q, hA0, hV, rfl, hfz, hnd⟩ := hW
  have hA : DataW.TrodAll enc Try.prog W 0 (fun _ => true) true Try.f4.params.toList args.toList ds p := hA0
  rw [Try.params4] at hA hval hsz
  obtain ⟨v0, vs0, d0, ds0, p0, q0, hargs, rfl, rfl, h0, r0⟩ := trodAll_cons hA
  obtain ⟨v1, vs1, d1, ds1, p1, q1, rfl, rfl, rfl, h1, r1⟩ := trodAll_cons r0
  obtain ⟨rfl, rfl, rfl⟩ := trodAll_nil r1
  obtain rfl : args = #[v0, v1] := by cases args; simp_all
  obtain ⟨rfl, rfl⟩ := trodVars_none hV
  have k0 := h0
  have lt0 : ∀ x ∈ p0, x.block < W.heap.size := by obtain ⟨m, hm⟩ := k0; exact DataW.trod_lt m _ _ _ hm
  have sm0 : Small 25 d0 := fun x hx => by simpa using List.all_eq_true.1 hsz x (DataW.weights_mem_each (j := 0) rfl rfl x hx)
  obtain ⟨a0, n0, c0, l0, rfl, r0', ln0, nc0, iw0, dd0⟩ := open_words (hval 0 25 v0 rfl rfl) h0
  have b0 : c0 * 8 ≤ 140737488351232 := by
    rcases dd0 with ⟨_, hc⟩ | ⟨elems, spare, hd, hc⟩
    · omega
    · rw [hd] at sm0
      have := small_slice sm0 Try.underlying25 (show Try.prog.bytesOf 30 = 8 by kernel_rfl)
      omega
  have k1 := h1
  have lt1 : ∀ x ∈ p1, x.block < W.heap.size := by obtain ⟨m, hm⟩ := k1; exact DataW.trod_lt m _ _ _ hm
  have sm1 : Small 4 d1 := fun x hx => by simpa using List.all_eq_true.1 hsz x (DataW.weights_mem_each (j := 1) rfl rfl x hx)
  obtain ⟨x1, rfl, _, _⟩ := open_bool Try.underlying4 (hval 1 4 v1 rfl rfl) h1
  clear hA0 hval0
  refine (ord_walk _ _ _ _ x1 W r0' nc0 b0 iw0).mono fun e W' ⟨he, bel⟩ => ?_
  subst he
  exact ⟨_, rfl, _, _, _, [], _, [], hW', trodAll_mk1 (shut_bool Try.underlying4 _), (trodAll_cons_mk (Below.trod laidOut (by kernel_rfl) (of_decide_eq_true (by kernel_rfl)) k0 bel lt0) (trodAll_cons_mk (Below.trod laidOut (by kernel_rfl) (of_decide_eq_true (by kernel_rfl)) k1 bel lt1) trodAll_mk0)), rfl, bel.frame _, fun h => by cases h⟩

theorem over : Rows.semOrderRow.holds Try.pinned (OpenSpec.ofChange Rows.semOrderSpec) :=
  OpenClaim.holds_of_wide 4 Try.f4 rfl rfl rfl rfl rfl rfl rfl ⟨rfl, rfl, rfl, rfl, rfl⟩ rfl rfl rfl rfl rfl (by kernel_rfl) Try.func4 (by kernel_rfl)
    (of_decide_eq_true (by kernel_rfl)) (by unfold Func.isWrapper; first | (rw [if_pos (by decide +kernel)]; kernel_rfl) | (rw [if_neg (by decide +kernel)]; exact ⟨rfl, rfl⟩))
    (fun os started H enc _ => lifted os started H enc)

theorem proved : Rows.SemOrderSaid := over
end Go.Proofs.Ytdoabcmfblmklaa.semOrder
