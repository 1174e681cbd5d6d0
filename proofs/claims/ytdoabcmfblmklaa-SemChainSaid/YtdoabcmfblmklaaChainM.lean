/-
  SemChain is true for all numbers: of panics that begin in deferred calls, one out of the other, the last one is what the run ends with, two of them in the list at a time; no condition.
-/
import Derived.BigRegion
import Derived.Test.YtdoabcmfblmklaaRows
import Derived.WalkKit
import Derived.ProofKit
import Derived.OpenShut
import Derived.ShutString
import Derived.ChangeOld
import Derived.Below
import Derived.SizedLaws
import Derived.Test.YtdoabcmfblmklaaMA10

/-
  Package sem: runs of programs with letters in them: the verdict by stacks that are named, the run step by step on the plain machine.
-/
namespace Go.Proofs.Ytdoabcmfblmklaa
set_option linter.unusedVariables false
set_option linter.unusedSimpArgs false

theorem wff_0 {c : List Ins} (hc : ∀ i ∈ c, WfI i) (h2 : c.length ≤ 1000) : WfF ⟨0, [], false, -1, c⟩ :=
  wff_of (f := ⟨0, [], false, -1, c⟩) ⟨Int.le_refl _, by show (0 : Int) ≤ 100; omega⟩ ⟨Int.le_refl _, by show (-1 : Int) ≤ 100; omega⟩ Byt.nil hc (Nat.zero_le _) h2
theorem wff_1 {c : List Ins} (hc : ∀ i ∈ c, WfI i) (h2 : c.length ≤ 1000) : WfF ⟨1, [0], false, -1, c⟩ :=
  wff_of (f := ⟨1, [0], false, -1, c⟩) ⟨by show (0 : Int) ≤ 1; omega, by show (1 : Int) ≤ 100; omega⟩ ⟨Int.le_refl _, by show (-1 : Int) ≤ 100; omega⟩ (by intro b hb; simp at hb; subst hb; decide) hc (by show 1 ≤ 1000; omega) h2
theorem wf_const {m : Int} (h : isW m) : WfI ⟨1, 0, m⟩ := by
  unfold isW at h
  exact ⟨by show (0 : Int) ≤ 1; omega, by show (1 : Int) ≤ 255; omega, by show (-9223372036854775808 : Int) ≤ 0; omega, by show (0 : Int) ≤ 9223372036854775807; omega, h.1, by show m ≤ _; omega⟩
section
variable {fs : List Fn} {f : Fn} {rs : List Raw} {st st1 st2 x a : Mc} {n m : Nat}
/-- the stacks are named: all is well -/
theorem fine_of (A : Nat → Option Stk) (h0 : A 0 = some []) (hc : ∀ a s, A a = some s → ∃ i s', f.code[a]? = some i ∧ afterK fs f i s = some s' ∧ ∀ b ∈ succK a i, A b = some s') : Fine fs f ∧ ∀ a s, Reach fs f a s → A a = some s := by
  have hall : ∀ a s, Reach fs f a s → A a = some s := by
    intro a s hr
    induction hr with
    | base => exact h0
    | step _ hcd hs hb ih =>
      obtain ⟨i, s', h1, h2, h3⟩ := hc _ _ ih
      rw [hcd] at h1
      injection h1 with h1
      subst h1
      rw [hs] at h2
      injection h2 with h2
      subst h2
      exact h3 _ hb
  refine ⟨fun a s hr => ⟨?_, fun s2 hr2 => ?_⟩, hall⟩
  · obtain ⟨i, s', h1, h2, _⟩ := hc a s (hall a s hr)
    exact ⟨i, s', h1, h2⟩
  · have h1 := hall a s hr
    rw [hall a s2 hr2] at h1
    injection h1
theorem verd_of (h1 : okP fs = true) (h2 : bnd fs = true) (h3 : refB fs = true) (h4 : ∀ f ∈ fs, ∃ A : Nat → Option Stk, A 0 = some [] ∧ (∀ a s, A a = some s → s.length ≤ 16 ∧ ∃ i s', f.code[a]? = some i ∧ afterK fs f i s = some s' ∧ ∀ b ∈ succK a i, A b = some s')) : verd fs = 0 := by
  have hf : ∀ f ∈ fs, Fine fs f ∧ ∀ a s, Reach fs f a s → s.length ≤ 16 := fun f hf => by
    obtain ⟨A, a0, a1⟩ := h4 f hf
    obtain ⟨b0, b1⟩ := fine_of A a0 fun a s h => (a1 a s h).2
    exact ⟨b0, fun a s hr => (a1 a s (b1 a s hr)).1⟩
  unfold verd
  rw [if_neg (by simp [h1]), if_neg (by simp [h2]), if_neg (by simp [h3]), if_neg (fun hn => hn fun f h => (hf f h).1), if_neg]
  rintro ⟨f, h, a, s, hr, hs⟩
  have := (hf f h).2 a s hr
  omega
/-- so many steps -/
def Steps (fs : List Fn) : Nat → Mc → Mc → Prop
  | 0, st, x => x = st
  | n + 1, st, x => st.doing ≠ 3 ∧ ∃ st2, step fs st = some st2 ∧ Steps fs n st2 x
theorem Steps.one (hd : st.doing ≠ 3) (h : step fs st = some x) : Steps fs 1 st x := ⟨hd, x, h, rfl⟩
theorem Steps.trans : ∀ {n m : Nat} {st x a : Mc}, Steps fs n st x → Steps fs m x a → Steps fs (n + m) st a
  | 0, m, st, x, a, h1, h2 => by
    have : x = st := h1
    subst this
    rw [Nat.zero_add]
    exact h2
  | n + 1, m, st, x, a, ⟨hd, y, hs, h1⟩, h2 => by
    rw [show n + 1 + m = (n + m) + 1 by omega]
    exact ⟨hd, y, hs, h1.trans h2⟩
theorem StepB.step (h : StepB rs st st2) (hs : step (fns rs) st = some x) : st2 = x := by
  obtain ⟨t, bl, r, i, k, s1, N, a1, a2, a3, a4, a5, a6, a7, a8, a9, a10, a11, a12, a13⟩ := h
  have hfn := fnOf_at a2
  unfold Go.Proofs.Ytdoabcmfblmklaa.step at hs
  rw [a1] at hs a8
  simp only [hfn] at hs
  rw [a3, Int.toNat_natCast, a4] at hs
  simp only at hs
  rw [if_pos (by omega), ← a3, a8] at hs
  exact settle_one a10 hs
theorem RunB.steps : ∀ {n m : Nat} {st x a : Mc}, RunB rs (n + m) st a → Steps (fns rs) n st x → RunB rs m x a
  | 0, m, st, x, a, h1, h2 => by
    have : x = st := h2
    subst this
    rw [Nat.zero_add] at h1
    exact h1
  | n + 1, m, st, x, a, h1, ⟨hd, y, hs, h2⟩ => by
    rw [show n + 1 + m = (n + m) + 1 by omega] at h1
    unfold RunB at h1
    rw [if_neg hd] at h1
    obtain ⟨z, e1, e2⟩ := h1
    obtain rfl := e1.step hs
    exact RunB.steps e2 h2
/-- a run that comes to its end -/
theorem RunAns.steps {tape : List Int} {fuel : Nat} {er : Int} (h : RunAns rs tape fuel er st) (hv : verd (fns rs) = 0) (hs : Steps (fns rs) n (start (fns rs) tape) x) (h3 : x.doing = 3) (hn : n ≤ fuel) : er = 0 ∧ st = x := by
  obtain ⟨h1, _⟩ | ⟨_, h2, stF, h5, _, _, h4⟩ := h
  · exact absurd hv h1
  · have h6 := RunB.steps (m := fuel - n) (by rw [show n + (fuel - n) = fuel by omega]; exact h5) hs
    have h7 := h6.over h3
    subst h7
    rw [if_pos h3] at h4
    exact ⟨h2, h4⟩
/-- a step that ends nothing -/
theorem step_plain {t : Fr} {bl : List Fr} {i : Ins} (hf : st.frames = t :: bl) (h0 : 0 ≤ t.next) (hc : (fnOf fs t.f).code[t.next.toNat]? = some i) (hx : exec fs { st with steps := st.steps + 1 } { t with next := t.next + 1 } bl i = some x) (hd : ¬ (x.doing = 1 ∨ x.doing = 2)) : step fs st = some x := by
  unfold Go.Proofs.Ytdoabcmfblmklaa.step
  rw [hf] at hx ⊢
  simp only
  rw [hc]
  simp only
  rw [if_pos h0, hx]
  show settle fs ((t :: bl).length + 1 + 1) x = some x
  unfold settle
  rw [if_neg hd]
/-- a step that ends something -/
theorem step_settle {t : Fr} {bl : List Fr} {i : Ins} (hf : st.frames = t :: bl) (h0 : 0 ≤ t.next) (hc : (fnOf fs t.f).code[t.next.toNat]? = some i) (hx : exec fs { st with steps := st.steps + 1 } { t with next := t.next + 1 } bl i = some st1) (hs : settle fs (bl.length + 3) st1 = some x) : step fs st = some x := by
  unfold Go.Proofs.Ytdoabcmfblmklaa.step
  rw [hf] at hx ⊢
  simp only
  rw [hc]
  simp only
  rw [if_pos h0, hx]
  exact hs
end
end Go.Proofs.Ytdoabcmfblmklaa

/-
  SemOrder: the mathematics: deferred calls, the last first, at a frame's end and in a panic.
-/
namespace Go.Proofs.Ytdoabcmfblmklaa
set_option linter.unusedVariables false
set_option linter.unusedSimpArgs false

def ordC (l : List Int) : List Ins := l.flatMap fun v => [⟨1, 0, v⟩, ⟨25, 1, 0⟩]
def ordE (p : Bool) : List Ins := if p then [⟨1, 0, 9⟩, ⟨26, 0, 0⟩] else [⟨24, 0, 0⟩]
def ordF : List Ins := [⟨2, 0, 0⟩, ⟨29, 0, 0⟩, ⟨24, 0, 0⟩]
def ordFs (l : List Int) (p : Bool) : List Fn := [⟨0, [], false, -1, ordC l ++ ordE p⟩, ⟨1, [0], false, -1, ordF⟩]
theorem ordFs_0 (l : List Int) (p : Bool) : fnOf (ordFs l p) 0 = ⟨0, [], false, -1, ordC l ++ ordE p⟩ := rfl
theorem ordFs_1 (l : List Int) (p : Bool) : fnOf (ordFs l p) 1 = ⟨1, [0], false, -1, ordF⟩ := rfl
theorem length_ordC (l : List Int) : (ordC l).length = l.length * 2 := by
  induction l with
  | nil => rfl
  | cons v l ih => unfold ordC at *; rw [List.flatMap_cons, List.length_append, ih]; simp; omega
theorem ordC_at : ∀ (l : List Int) (j : Nat) (v : Int), l[j]? = some v → (ordC l)[2 * j]? = some ⟨1, 0, v⟩ ∧ (ordC l)[2 * j + 1]? = some ⟨25, 1, 0⟩
  | [], j, v, h => by simp at h
  | x :: l, 0, v, h => by simp at h; subst h; exact ⟨rfl, rfl⟩
  | x :: l, j + 1, v, h => by
    have e : ordC (x :: l) = ⟨1, 0, x⟩ :: ⟨25, 1, 0⟩ :: ordC l := rfl
    rw [e, show 2 * (j + 1) = 2 * j + 1 + 1 by omega]
    simp only [List.getElem?_cons_succ]
    exact ordC_at l j v (by simpa using h)
theorem ordC_mem {l : List Int} {i : Ins} (h : i ∈ ordC l) : (∃ v ∈ l, i = ⟨1, 0, v⟩) ∨ i = ⟨25, 1, 0⟩ := by
  unfold ordC at h
  obtain ⟨v, hv, h⟩ := List.mem_flatMap.1 h
  simp at h
  rcases h with rfl | rfl
  · exact .inl ⟨v, hv, rfl⟩
  · exact .inr rfl
theorem ord_at0 {l : List Int} {p : Bool} {j : Nat} {v : Int} (h : l[j]? = some v) : (fnOf (ordFs l p) 0).code[2 * j]? = some ⟨1, 0, v⟩ ∧ (fnOf (ordFs l p) 0).code[2 * j + 1]? = some ⟨25, 1, 0⟩ := by
  obtain ⟨h1, h2⟩ := ordC_at l j v h
  rw [ordFs_0]
  exact ⟨by rw [List.getElem?_append_left (List.getElem?_eq_some_iff.1 h1).1]; exact h1, by rw [List.getElem?_append_left (List.getElem?_eq_some_iff.1 h2).1]; exact h2⟩
theorem ord_atE {l : List Int} {p : Bool} (j : Nat) : (fnOf (ordFs l p) 0).code[2 * l.length + j]? = (ordE p)[j]? := by
  rw [ordFs_0, List.getElem?_append_right (by rw [length_ordC]; omega), length_ordC]
  congr 1
  omega
/-- the stacks of the first function -/
def ordA (n e a : Nat) : Option Stk := if a < 2 * n + e then (if a % 2 = 0 then some [] else some [0]) else none
theorem ordA_even {n e a : Nat} (h : a < 2 * n + e) (h2 : a % 2 = 0) : ordA n e a = some [] := by unfold ordA; rw [if_pos h, if_pos h2]
theorem ordA_odd {n e a : Nat} (h : a < 2 * n + e) (h2 : a % 2 = 1) : ordA n e a = some [0] := by unfold ordA; rw [if_pos h, if_neg (by omega)]
theorem ordA_some {n e a : Nat} {s : Stk} (h : ordA n e a = some s) : a < 2 * n + e ∧ (a % 2 = 0 ∧ s = [] ∨ a % 2 = 1 ∧ s = [0]) := by
  unfold ordA at h
  by_cases h1 : a < 2 * n + e
  · rw [if_pos h1] at h
    by_cases h2 : a % 2 = 0
    · rw [if_pos h2] at h
      injection h with h
      exact ⟨h1, .inl ⟨h2, h.symm⟩⟩
    · rw [if_neg h2] at h
      injection h with h
      exact ⟨h1, .inr ⟨by omega, h.symm⟩⟩
  · rw [if_neg h1] at h
    cases h
def ordA1 : Nat → Option Stk
  | 0 => some []
  | 1 => some [0]
  | 2 => some []
  | _ => none
theorem okI_const {v : Int} (h : isW v) : okI ⟨1, 0, v⟩ = true := by
  unfold isW at h
  simp [okI, opB, argW, immW, fitB]
  exact h
theorem verd_ord {l : List Int} {p : Bool} (hl : l.length ≤ 40) (hw : ∀ v ∈ l, isW v) : verd (ordFs l p) = 0 := by
  have hlen : (ordC l ++ ordE p).length ≤ 82 := by rw [List.length_append, length_ordC]; cases p <;> simp [ordE] <;> omega
  have hok : ∀ i ∈ ordC l ++ ordE p, okI i = true ∧ insRef (ordFs l p) ⟨0, [], false, -1, ordC l ++ ordE p⟩ i = true := by
    intro i hi
    rcases List.mem_append.1 hi with hi | hi
    · rcases ordC_mem hi with ⟨v, hv, rfl⟩ | rfl
      · exact ⟨okI_const (hw v hv), rfl⟩
      · exact ⟨by decide, rfl⟩
    · cases p
      · simp [ordE] at hi; subst hi; exact ⟨by decide, rfl⟩
      · simp [ordE] at hi; rcases hi with rfl | rfl
        · exact ⟨by decide, rfl⟩
        · exact ⟨by decide, rfl⟩
  have hall : (ordC l ++ ordE p).all okI = true := List.all_eq_true.2 fun i hi => (hok i hi).1
  have hallr : (ordC l ++ ordE p).all (insRef (ordFs l p) ⟨0, [], false, -1, ordC l ++ ordE p⟩) = true := List.all_eq_true.2 fun i hi => (hok i hi).2
  have h2f : ordFs l p = [⟨0, [], false, -1, ordC l ++ ordE p⟩, ⟨1, [0], false, -1, ordF⟩] := rfl
  refine verd_of ?_ ?_ ?_ ?_
  · simp only [okP, h2f, List.all_cons, List.all_nil, okF, hall]
    simp only [List.length_cons, List.length_nil, List.all_nil, List.all_cons, Bool.and_true, Bool.and_eq_true, decide_eq_true_eq]
    refine ⟨⟨by omega, by omega⟩, ⟨⟨⟨⟨⟨by omega, by omega⟩, by omega⟩, by omega⟩, by omega⟩, by omega⟩, by decide⟩
  · simp only [bnd, h2f, List.all_cons, List.all_nil, bndF, Bool.and_true, Bool.and_eq_true, decide_eq_true_eq]
    refine ⟨by show 2 ≤ 16; omega, ⟨⟨by omega, by simp⟩, by omega⟩, by decide⟩
  · rw [refB, Bool.and_eq_true]
    refine ⟨rfl, ?_⟩
    have hf0 : fnRef (ordFs l p) ⟨0, [], false, -1, ordC l ++ ordE p⟩ = true := by
      unfold fnRef
      rw [hallr]
      rfl
    show (fnRef (ordFs l p) ⟨0, [], false, -1, ordC l ++ ordE p⟩ && (fnRef (ordFs l p) ⟨1, [0], false, -1, ordF⟩ && true)) = true
    rw [hf0]
    rfl
  · intro f hf
    simp only [ordFs, List.mem_cons, List.not_mem_nil, or_false] at hf
    rcases hf with rfl | rfl
    · have hlt : ∀ j, j < l.length → ∀ e s', 1 ≤ e → (ordA l.length e (2 * j) = some s' → s' = []) ∧ (ordA l.length e (2 * j + 1) = some s' → s' = [0]) := fun j hj e s' he => by
        rw [ordA_even (by omega) (by omega), ordA_odd (by omega) (by omega)]
        exact ⟨fun h => by injection h with h; exact h.symm, fun h => by injection h with h; exact h.symm⟩
      have low : ∀ e, 1 ≤ e → ∀ a s, a < 2 * l.length → ordA l.length e a = some s → s.length ≤ 16 ∧ ∃ i s', (ordC l ++ ordE p)[a]? = some i ∧ afterK (ordFs l p) ⟨0, [], false, -1, ordC l ++ ordE p⟩ i s = some s' ∧ ∀ b ∈ succK a i, ordA l.length e b = some s' := by
        intro e he a s ha h
        obtain ⟨_, ⟨h2, rfl⟩ | ⟨h2, rfl⟩⟩ := ordA_some h
        · obtain ⟨j, rfl⟩ : ∃ j, a = 2 * j := ⟨a / 2, by omega⟩
          obtain ⟨h1, _⟩ := ord_at0 (p := p) (List.getElem?_eq_getElem (show j < l.length by omega))
          refine ⟨by decide, _, [0], h1, rfl, fun b hb => ?_⟩
          simp [succK] at hb
          subst hb
          exact ordA_odd (by omega) (by omega)
        · obtain ⟨j, rfl⟩ : ∃ j, a = 2 * j + 1 := ⟨a / 2, by omega⟩
          obtain ⟨_, h1⟩ := ord_at0 (p := p) (List.getElem?_eq_getElem (show j < l.length by omega))
          refine ⟨by decide, _, [], h1, rfl, fun b hb => ?_⟩
          simp [succK] at hb
          subst hb
          exact ordA_even (by omega) (by omega)
      have e0 := ord_atE (l := l) (p := p) 0
      have e1 := ord_atE (l := l) (p := p) 1
      clear hlt
      cases p
      · refine ⟨ordA l.length 1, ordA_even (by omega) rfl, fun a s h => ?_⟩
        rcases Nat.lt_or_ge a (2 * l.length) with ha | ha
        · exact low 1 (by decide) a s ha h
        · obtain ⟨h1, h2⟩ := ordA_some h
          obtain rfl : a = 2 * l.length := by omega
          obtain rfl : s = [] := by
            rcases h2 with ⟨_, h2⟩ | ⟨h2, _⟩
            · exact h2
            · omega
          refine ⟨by decide, _, [], e0, rfl, fun b hb => ?_⟩
          simp [succK] at hb
      · refine ⟨ordA l.length 2, ordA_even (by omega) rfl, fun a s h => ?_⟩
        rcases Nat.lt_or_ge a (2 * l.length) with ha | ha
        · exact low 2 (by decide) a s ha h
        · obtain ⟨h1, ⟨h2, rfl⟩ | ⟨h2, rfl⟩⟩ := ordA_some h
          · obtain rfl : a = 2 * l.length := by omega
            refine ⟨by decide, _, [0], e0, rfl, fun b hb => ?_⟩
            simp [succK] at hb
            subst hb
            exact ordA_odd (by omega) (by omega)
          · obtain rfl : a = 2 * l.length + 1 := by omega
            refine ⟨by decide, _, [], e1, rfl, fun b hb => ?_⟩
            simp [succK] at hb
    · refine ⟨ordA1, rfl, fun a s h => ?_⟩
      rcases a with _ | _ | _ | a
      · injection h with h; subst h; exact ⟨by decide, _, _, rfl, rfl, fun b hb => by simp [succK] at hb; subst hb; rfl⟩
      · injection h with h; subst h; exact ⟨by decide, _, _, rfl, rfl, fun b hb => by simp [succK] at hb; subst hb; rfl⟩
      · injection h with h; subst h; exact ⟨by decide, _, _, rfl, rfl, fun b hb => by simp [succK] at hb⟩
      · cases h
/-! the run -/
def ordD (l : List Int) : List Df := l.map fun v => ⟨1, [v]⟩
/-- behind j pairs -/
def ordS (l : List Int) (j : Nat) : Mc := ⟨[], [], [⟨0, 0, 2 * j, 0, [], ordD (l.take j).reverse, 0⟩], [], [], j, 0, 0, 0, 2 * j, 1, j, 0⟩
theorem ord_pair {l : List Int} {p : Bool} {j : Nat} (hj : j < l.length) : Steps (ordFs l p) 2 (ordS l j) (ordS l (j + 1)) := by
  obtain ⟨h1, h2⟩ := ord_at0 (p := p) (List.getElem?_eq_getElem hj)
  have a1 : step (ordFs l p) (ordS l j) = some ⟨[], [], [⟨0, 0, 2 * j + 1, 0, [l[j]], ordD (l.take j).reverse, 0⟩], [], [], j, 0, 0, 0, 2 * j + 1, 1, j, 0⟩ :=
    step_plain (i := ⟨1, 0, l[j]⟩) rfl (by show (0 : Int) ≤ 2 * j; omega) (by show (fnOf (ordFs l p) 0).code[(2 * (j : Int)).toNat]? = _; rw [show (2 * (j : Int)).toNat = 2 * j by omega]; exact h1) (by simp [exec, ordS, Mc.top, Fr.push]) (by simp)
  have a2 : step (ordFs l p) ⟨[], [], [⟨0, 0, 2 * j + 1, 0, [l[j]], ordD (l.take j).reverse, 0⟩], [], [], j, 0, 0, 0, 2 * j + 1, 1, j, 0⟩ = some (ordS l (j + 1)) :=
    step_plain (i := ⟨25, 1, 0⟩) rfl (by show (0 : Int) ≤ 2 * j + 1; omega) (by show (fnOf (ordFs l p) 0).code[(2 * (j : Int) + 1).toNat]? = _; rw [show (2 * (j : Int) + 1).toNat = 2 * j + 1 by omega]; exact h2) (by
      have ht : (l.take (j + 1)).reverse = l[j] :: (l.take j).reverse := by rw [List.take_add_one, List.getElem?_eq_getElem hj]; simp
      simp only [exec]
      rw [if_neg (by decide), if_neg (by decide), if_neg (by decide), if_neg (by decide), if_neg (by decide), if_neg (by decide), if_neg (by decide), if_neg (by decide), if_neg (by decide), if_neg (by decide), if_pos trivial]
      show (if (1 : Int).toNat ≤ 1 ∧ (1 : Int).toNat < 2 then _ else _) = _
      rw [if_pos (by decide)]
      simp only [ordS, ht]
      simp [Mc.top, Fr.cut, argsOf, ordFs_1, ordD]
      omega) (by simp [ordS])
  exact ⟨by show (0 : Int) ≠ 3; decide, _, a1, by show (0 : Int) ≠ 3; decide, _, a2, rfl⟩
theorem ord_down {l : List Int} {p : Bool} : ∀ j, j ≤ l.length → Steps (ordFs l p) (2 * j) (start (ordFs l p) []) (ordS l j)
  | 0, _ => rfl
  | j + 1, hj => (ord_down j (by omega)).trans (ord_pair (by omega))
/-- the deferred calls' run: how they are called, what is over then -/
structure OrdR where
  w : Nat
  pc : Int
  ps : List (Int × Bool)
  d : Int
  ek : Int
  ev : Int
  mp : Nat
  L : Nat
def OrdR.main (r : OrdR) (rem : List Int) : Fr := ⟨0, 0, r.pc, 0, [], ordD rem, 0⟩
def OrdR.at_ (r : OrdR) (rem : List Int) (E : List (Int × Int)) (n dep : Nat) : Mc := match rem with
  | [] => ⟨[], E, [], [], r.ps, 0, 3, r.ek, r.ev, n, dep, r.L, r.mp⟩
  | v :: rem => ⟨[], E, [⟨r.w, 1, 0, 0, [], [], 0⟩, r.main rem], [v], r.ps, rem.length, 0, 0, 0, n, max dep 2, r.L, r.mp⟩
/-- the two ways -/
def OrdOk (r : OrdR) : Prop := (r.w = 2 ∧ r.d = 1 ∧ r.ps = [] ∧ r.ek = 1 ∧ r.ev = 0) ∨ (r.w = 3 ∧ r.d = 2 ∧ r.ps = [(9, false)] ∧ r.ek = 2 ∧ r.ev = 9)
section
variable {l rem : List Int} {p : Bool} {r : OrdR} {E : List (Int × Int)} {n dep N : Nat} {v : Int}
theorem ord_settle (hr : OrdOk r) (hN : 2 ≤ N) : settle (ordFs l p) N ⟨[], E, [r.main rem], [], r.ps, rem.length, r.d, 0, 0, n, dep, r.L, r.mp⟩ = some (r.at_ rem E n dep) := by
  obtain ⟨N, rfl⟩ : ∃ M, N = M + 2 := ⟨N - 2, by omega⟩
  obtain ⟨w, pc, ps, d, ek, ev, mp, L⟩ := r
  rcases hr with ⟨rfl, rfl, rfl, rfl, rfl⟩ | ⟨rfl, rfl, rfl, rfl, rfl⟩
  · cases rem with
    | nil => simp [settle, settle1, OrdR.main, OrdR.at_, ordD, Mc.over]
    | cons v rem => simp [settle, settle1, OrdR.main, OrdR.at_, ordD, Mc.begin, Mc.top, locals, ordFs, fnOf]
  · cases rem with
    | nil => simp [settle, settle1, OrdR.main, OrdR.at_, ordD, Mc.over]
    | cons v rem => simp [settle, settle1, OrdR.main, OrdR.at_, ordD, Mc.begin, Mc.top, locals, ordFs, fnOf]
theorem ord_call (hr : OrdOk r) : Steps (ordFs l p) 3 (r.at_ (v :: rem) E n dep) (r.at_ rem (E ++ [(1, v)]) (n + 3) (max dep 2)) := by
  have a1 : step (ordFs l p) (r.at_ (v :: rem) E n dep) = some ⟨[], E, [⟨r.w, 1, 1, 0, [v], [], 0⟩, r.main rem], [v], r.ps, rem.length, 0, 0, 0, n + 1, max dep 2, r.L, r.mp⟩ :=
    step_plain (i := ⟨2, 0, 0⟩) rfl (by show (0 : Int) ≤ 0; omega) rfl (by simp [exec, OrdR.at_, Mc.top, Fr.push]) (by simp)
  have a2 : step (ordFs l p) ⟨[], E, [⟨r.w, 1, 1, 0, [v], [], 0⟩, r.main rem], [v], r.ps, rem.length, 0, 0, 0, n + 1, max dep 2, r.L, r.mp⟩ = some ⟨[], E ++ [(1, v)], [⟨r.w, 1, 2, 0, [], [], 0⟩, r.main rem], [v], r.ps, rem.length, 0, 0, 0, n + 2, max dep 2, r.L, r.mp⟩ :=
    step_plain (i := ⟨29, 0, 0⟩) rfl (by show (0 : Int) ≤ 1; omega) rfl (by simp [exec, Mc.top]) (by simp)
  have a3 : step (ordFs l p) ⟨[], E ++ [(1, v)], [⟨r.w, 1, 2, 0, [], [], 0⟩, r.main rem], [v], r.ps, rem.length, 0, 0, 0, n + 2, max dep 2, r.L, r.mp⟩ = some (r.at_ rem (E ++ [(1, v)]) (n + 3) (max dep 2)) := by
    have hx : exec (ordFs l p) ⟨[], E ++ [(1, v)], [⟨r.w, 1, 2, 0, [], [], 0⟩, r.main rem], [v], r.ps, rem.length, 0, 0, 0, n + 2 + 1, max dep 2, r.L, r.mp⟩ ⟨r.w, 1, 2 + 1, 0, [], [], 0⟩ [r.main rem] ⟨24, 0, 0⟩ = some ⟨[], E ++ [(1, v)], [⟨r.w, 1, 3, 0, [], [], 0⟩, r.main rem], [v], r.ps, rem.length, 1, 0, 0, n + 3, max dep 2, r.L, r.mp⟩ := by
      simp [exec, ordFs_1, Mc.top]
    have hs : settle1 (ordFs l p) ⟨[], E ++ [(1, v)], [⟨r.w, 1, 3, 0, [], [], 0⟩, r.main rem], [v], r.ps, rem.length, 1, 0, 0, n + 3, max dep 2, r.L, r.mp⟩ = some ⟨[], E ++ [(1, v)], [r.main rem], [], r.ps, rem.length, r.d, 0, 0, n + 3, max dep 2, r.L, r.mp⟩ := by
      obtain ⟨w, pc, ps, d, ek, ev, mp, L⟩ := r
      rcases hr with ⟨rfl, rfl, rfl, rfl, rfl⟩ | ⟨rfl, rfl, rfl, rfl, rfl⟩
      · simp [settle1]
      · simp [settle1, OrdR.main]
    refine step_settle (i := ⟨24, 0, 0⟩) rfl (by show (0 : Int) ≤ 2; omega) rfl hx ?_
    show settle (ordFs l p) (3 + 1) _ = _
    unfold settle
    rw [if_pos (.inl rfl), hs]
    exact ord_settle hr (by decide)
  exact ⟨by show (0 : Int) ≠ 3; decide, _, a1, by show (0 : Int) ≠ 3; decide, _, a2, by show (0 : Int) ≠ 3; decide, _, a3, rfl⟩
theorem ord_calls (hr : OrdOk r) : ∀ (rem : List Int) (E : List (Int × Int)) (n dep : Nat), ∃ dep', Steps (ordFs l p) (3 * rem.length) (r.at_ rem E n dep) (r.at_ [] (E ++ rem.map fun v => (1, v)) (n + 3 * rem.length) dep')
  | [], E, n, dep => ⟨dep, by simp; rfl⟩
  | v :: rem, E, n, dep => by
    obtain ⟨d2, h2⟩ := ord_calls hr rem (E ++ [(1, v)]) (n + 3) (max dep 2)
    refine ⟨d2, ?_⟩
    have h := (ord_call (l := l) (p := p) (rem := rem) (E := E) (n := n) (dep := dep) (v := v) hr).trans h2
    rw [show 3 + 3 * rem.length = 3 * (v :: rem).length by simp; omega, show n + 3 + 3 * rem.length = n + 3 * (v :: rem).length by simp; omega, List.append_assoc] at h
    exact h
end
theorem ord_all (l : List Int) (p : Bool) (hl : l.length ≤ 40) : ∃ n x, n ≤ 1000 ∧ Steps (ordFs l p) n (start (ordFs l p) []) x ∧ x.doing = 3 ∧ x.endk = (if p then 2 else 1) ∧ x.endv = (if p then 9 else 0) ∧ x.evs = l.reverse.map (fun v => (1, v)) ∧ x.defers = l.length := by
  have h0 := ord_down (l := l) (p := p) l.length (Nat.le_refl _)
  have e0 := ord_atE (l := l) (p := p) 0
  have e1 := ord_atE (l := l) (p := p) 1
  have hrl : (l.take l.length).reverse = l.reverse := by rw [List.take_length]
  have hll : l.reverse.length = l.length := List.length_reverse
  cases p
  · have hr : OrdOk ⟨2, 2 * l.length + 1, [], 1, 1, 0, 0, l.length⟩ := .inl ⟨rfl, rfl, rfl, rfl, rfl⟩
    have a1 : step (ordFs l false) (ordS l l.length) = some ((⟨2, 2 * l.length + 1, [], 1, 1, 0, 0, l.length⟩ : OrdR).at_ l.reverse [] (2 * l.length + 1) 1) := by
      unfold step
      simp only [ordS]
      rw [show ((2 * (l.length : Int)).toNat) = 2 * l.length + 0 by omega, e0]
      show (if (0 : Int) ≤ 2 * l.length then _ else none) = _
      rw [if_pos (by omega)]
      have hs := ord_settle (l := l) (p := false) (rem := l.reverse) (E := []) (n := 2 * l.length + 1) (dep := 1) (N := 3) hr (by decide)
      rw [hll] at hs
      rw [← hs]
      simp [exec, ordFs_0, Mc.top, OrdR.main, hrl]
    obtain ⟨d2, h2⟩ := ord_calls (l := l) (p := false) hr l.reverse [] (2 * l.length + 1) 1
    exact ⟨_, _, by rw [hll]; omega, h0.trans ((Steps.one (by show (0 : Int) ≠ 3; decide) a1).trans h2), rfl, rfl, rfl, by simp [OrdR.at_], rfl⟩
  · have hr : OrdOk ⟨3, 2 * l.length + 2, [(9, false)], 2, 2, 9, 1, l.length⟩ := .inr ⟨rfl, rfl, rfl, rfl, rfl⟩
    have a1 : step (ordFs l true) (ordS l l.length) = some ⟨[], [], [⟨0, 0, 2 * l.length + 1, 0, [9], ordD l.reverse, 0⟩], [], [], l.length, 0, 0, 0, 2 * l.length + 1, 1, l.length, 0⟩ :=
      step_plain (i := ⟨1, 0, 9⟩) rfl (by show (0 : Int) ≤ 2 * l.length; omega) (by show (fnOf (ordFs l true) 0).code[(2 * (l.length : Int)).toNat]? = _; rw [show (2 * (l.length : Int)).toNat = 2 * l.length + 0 by omega]; exact e0) (by simp [exec, ordS, Mc.top, Fr.push]) (by simp)
    have a2 : step (ordFs l true) ⟨[], [], [⟨0, 0, 2 * l.length + 1, 0, [9], ordD l.reverse, 0⟩], [], [], l.length, 0, 0, 0, 2 * l.length + 1, 1, l.length, 0⟩ = some ((⟨3, 2 * l.length + 2, [(9, false)], 2, 2, 9, 1, l.length⟩ : OrdR).at_ l.reverse [] (2 * l.length + 2) 1) := by
      unfold step
      simp only
      rw [show ((2 * (l.length : Int) + 1).toNat) = 2 * l.length + 1 by omega, e1]
      show (if (0 : Int) ≤ 2 * l.length + 1 then _ else none) = _
      rw [if_pos (by omega)]
      have hs := ord_settle (l := l) (p := true) (rem := l.reverse) (E := []) (n := 2 * l.length + 2) (dep := 1) (N := 3) hr (by decide)
      rw [hll] at hs
      rw [← hs]
      simp [exec, Mc.top, Mc.raise, OrdR.main]
      rfl
    obtain ⟨d2, h2⟩ := ord_calls (l := l) (p := true) hr l.reverse [] (2 * l.length + 2) 1
    exact ⟨_, _, by rw [hll]; omega, h0.trans ((Steps.one (by show (0 : Int) ≠ 3; decide) a1).trans ((Steps.one (by show (0 : Int) ≠ 3; decide) a2).trans h2)), rfl, rfl, rfl, by simp [OrdR.at_], rfl⟩
end Go.Proofs.Ytdoabcmfblmklaa

/-
  SemChain: the mathematics: panics out of deferred calls, one out of the other.
-/
namespace Go.Proofs.Ytdoabcmfblmklaa
set_option linter.unusedVariables false
set_option linter.unusedSimpArgs false

def chnE (v : Int) : List Ins := [⟨1, 0, v⟩, ⟨26, 0, 0⟩]
def chnF : List Ins := [⟨2, 0, 0⟩, ⟨26, 0, 0⟩]
def chnFs (r : List Int) (v : Int) : List Fn := [⟨0, [], false, -1, ordC r ++ chnE v⟩, ⟨1, [0], false, -1, chnF⟩]
theorem chnFs_0 (r : List Int) (v : Int) : fnOf (chnFs r v) 0 = ⟨0, [], false, -1, ordC r ++ chnE v⟩ := rfl
theorem chnFs_1 (r : List Int) (v : Int) : fnOf (chnFs r v) 1 = ⟨1, [0], false, -1, chnF⟩ := rfl
section
variable {r rem : List Int} {v0 v cur : Int} {n dep mp L N : Nat} {pc : Int}
theorem chn_at0 {j : Nat} {v : Int} (h : r[j]? = some v) : (fnOf (chnFs r v0) 0).code[2 * j]? = some ⟨1, 0, v⟩ ∧ (fnOf (chnFs r v0) 0).code[2 * j + 1]? = some ⟨25, 1, 0⟩ := by
  obtain ⟨h1, h2⟩ := ordC_at r j v h
  rw [chnFs_0]
  exact ⟨by rw [List.getElem?_append_left (List.getElem?_eq_some_iff.1 h1).1]; exact h1, by rw [List.getElem?_append_left (List.getElem?_eq_some_iff.1 h2).1]; exact h2⟩
theorem chn_atE (j : Nat) : (fnOf (chnFs r v0) 0).code[2 * r.length + j]? = (chnE v0)[j]? := by
  rw [chnFs_0, List.getElem?_append_right (by rw [length_ordC]; omega), length_ordC]
  congr 1
  omega
def chnA1 : Nat → Option Stk
  | 0 => some []
  | 1 => some [0]
  | _ => none
theorem verd_chn (hl : r.length ≤ 40) (hw : ∀ v ∈ r, isW v) (hv : isW v0) : verd (chnFs r v0) = 0 := by
  have hlen : (ordC r ++ chnE v0).length ≤ 82 := by rw [List.length_append, length_ordC]; simp [chnE]; omega
  have hok : ∀ i ∈ ordC r ++ chnE v0, okI i = true ∧ insRef (chnFs r v0) ⟨0, [], false, -1, ordC r ++ chnE v0⟩ i = true := by
    intro i hi
    rcases List.mem_append.1 hi with hi | hi
    · rcases ordC_mem hi with ⟨v, hv, rfl⟩ | rfl
      · exact ⟨okI_const (hw v hv), rfl⟩
      · exact ⟨by decide, rfl⟩
    · simp [chnE] at hi
      rcases hi with rfl | rfl
      · exact ⟨okI_const hv, rfl⟩
      · exact ⟨by decide, rfl⟩
  have hall : (ordC r ++ chnE v0).all okI = true := List.all_eq_true.2 fun i hi => (hok i hi).1
  have hallr : (ordC r ++ chnE v0).all (insRef (chnFs r v0) ⟨0, [], false, -1, ordC r ++ chnE v0⟩) = true := List.all_eq_true.2 fun i hi => (hok i hi).2
  have h2f : chnFs r v0 = [⟨0, [], false, -1, ordC r ++ chnE v0⟩, ⟨1, [0], false, -1, chnF⟩] := rfl
  refine verd_of ?_ ?_ ?_ ?_
  · simp only [okP, h2f, List.all_cons, List.all_nil, okF, hall]
    simp only [List.length_cons, List.length_nil, List.all_nil, List.all_cons, Bool.and_true, Bool.and_eq_true, decide_eq_true_eq]
    refine ⟨⟨by omega, by omega⟩, ⟨⟨⟨⟨⟨by omega, by omega⟩, by omega⟩, by omega⟩, by omega⟩, by omega⟩, by decide⟩
  · simp only [bnd, h2f, List.all_cons, List.all_nil, bndF, Bool.and_true, Bool.and_eq_true, decide_eq_true_eq]
    refine ⟨by show 2 ≤ 16; omega, ⟨⟨by omega, by simp⟩, by omega⟩, by decide⟩
  · rw [refB, Bool.and_eq_true]
    refine ⟨rfl, ?_⟩
    have hf0 : fnRef (chnFs r v0) ⟨0, [], false, -1, ordC r ++ chnE v0⟩ = true := by
      unfold fnRef
      rw [hallr]
      rfl
    show (fnRef (chnFs r v0) ⟨0, [], false, -1, ordC r ++ chnE v0⟩ && (fnRef (chnFs r v0) ⟨1, [0], false, -1, chnF⟩ && true)) = true
    rw [hf0]
    rfl
  · intro f hf
    simp only [chnFs, List.mem_cons, List.not_mem_nil, or_false] at hf
    rcases hf with rfl | rfl
    · have e0 := chn_atE (r := r) (v0 := v0) 0
      have e1 := chn_atE (r := r) (v0 := v0) 1
      refine ⟨ordA r.length 2, ordA_even (by omega) rfl, fun a s h => ?_⟩
      obtain ⟨hlt, ⟨h2, rfl⟩ | ⟨h2, rfl⟩⟩ := ordA_some h
      · rcases Nat.lt_or_ge a (2 * r.length) with ha | ha
        · obtain ⟨j, rfl⟩ : ∃ j, a = 2 * j := ⟨a / 2, by omega⟩
          obtain ⟨h1, _⟩ := chn_at0 (v0 := v0) (List.getElem?_eq_getElem (show j < r.length by omega))
          refine ⟨by decide, _, [0], h1, rfl, fun b hb => ?_⟩
          simp [succK] at hb
          subst hb
          exact ordA_odd (by omega) (by omega)
        · obtain rfl : a = 2 * r.length := by omega
          refine ⟨by decide, _, [0], e0, rfl, fun b hb => ?_⟩
          simp [succK] at hb
          subst hb
          exact ordA_odd (by omega) (by omega)
      · rcases Nat.lt_or_ge a (2 * r.length) with ha | ha
        · obtain ⟨j, rfl⟩ : ∃ j, a = 2 * j + 1 := ⟨a / 2, by omega⟩
          obtain ⟨_, h1⟩ := chn_at0 (v0 := v0) (List.getElem?_eq_getElem (show j < r.length by omega))
          refine ⟨by decide, _, [], h1, rfl, fun b hb => ?_⟩
          simp [succK] at hb
          subst hb
          exact ordA_even (by omega) (by omega)
        · obtain rfl : a = 2 * r.length + 1 := by omega
          refine ⟨by decide, _, [], e1, rfl, fun b hb => ?_⟩
          simp [succK] at hb
    · refine ⟨chnA1, rfl, fun a s h => ?_⟩
      rcases a with _ | _ | a
      · injection h with h; subst h; exact ⟨by decide, _, _, rfl, rfl, fun b hb => by simp [succK] at hb; subst hb; rfl⟩
      · injection h with h; subst h; exact ⟨by decide, _, _, rfl, rfl, fun b hb => by simp [succK] at hb⟩
      · cases h
theorem chn_pair {j : Nat} (hj : j < r.length) : Steps (chnFs r v0) 2 (ordS r j) (ordS r (j + 1)) := by
  obtain ⟨h1, h2⟩ := chn_at0 (v0 := v0) (List.getElem?_eq_getElem hj)
  have a1 : step (chnFs r v0) (ordS r j) = some ⟨[], [], [⟨0, 0, 2 * j + 1, 0, [r[j]], ordD (r.take j).reverse, 0⟩], [], [], j, 0, 0, 0, 2 * j + 1, 1, j, 0⟩ :=
    step_plain (i := ⟨1, 0, r[j]⟩) rfl (by show (0 : Int) ≤ 2 * j; omega) (by show (fnOf (chnFs r v0) 0).code[(2 * (j : Int)).toNat]? = _; rw [show (2 * (j : Int)).toNat = 2 * j by omega]; exact h1) (by simp [exec, ordS, Mc.top, Fr.push]) (by simp)
  have a2 : step (chnFs r v0) ⟨[], [], [⟨0, 0, 2 * j + 1, 0, [r[j]], ordD (r.take j).reverse, 0⟩], [], [], j, 0, 0, 0, 2 * j + 1, 1, j, 0⟩ = some (ordS r (j + 1)) :=
    step_plain (i := ⟨25, 1, 0⟩) rfl (by show (0 : Int) ≤ 2 * j + 1; omega) (by show (fnOf (chnFs r v0) 0).code[(2 * (j : Int) + 1).toNat]? = _; rw [show (2 * (j : Int) + 1).toNat = 2 * j + 1 by omega]; exact h2) (by
      have ht : (r.take (j + 1)).reverse = r[j] :: (r.take j).reverse := by rw [List.take_add_one, List.getElem?_eq_getElem hj]; simp
      simp only [exec]
      rw [if_neg (by decide), if_neg (by decide), if_neg (by decide), if_neg (by decide), if_neg (by decide), if_neg (by decide), if_neg (by decide), if_neg (by decide), if_neg (by decide), if_neg (by decide), if_pos trivial]
      show (if (1 : Int).toNat ≤ 1 ∧ (1 : Int).toNat < 2 then _ else _) = _
      rw [if_pos (by decide)]
      simp only [ordS, ht]
      simp [Mc.top, Fr.cut, argsOf, chnFs_1, ordD]
      omega) (by simp [ordS])
  exact ⟨by show (0 : Int) ≠ 3; decide, _, a1, by show (0 : Int) ≠ 3; decide, _, a2, rfl⟩
theorem chn_down : ∀ j, j ≤ r.length → Steps (chnFs r v0) (2 * j) (start (chnFs r v0) []) (ordS r j)
  | 0, _ => rfl
  | j + 1, hj => (chn_down j (by omega)).trans (chn_pair (by omega))
/-- a panic goes on, these calls wait -/
def chnT (pc : Int) (L : Nat) (rem : List Int) (cur : Int) (n dep mp : Nat) : Mc := match rem with
  | [] => ⟨[], [], [], [], [(cur, false)], 0, 3, 2, cur, n, dep, L, mp⟩
  | v :: rem => ⟨[], [], [⟨3, 1, 0, 0, [], [], 0⟩, ⟨0, 0, pc, 0, [], ordD rem, 0⟩], [v], [(cur, false)], rem.length, 0, 0, 0, n, max dep 2, L, mp⟩
theorem chn_settle (hN : 2 ≤ N) : settle (chnFs r v0) N ⟨[], [], [⟨0, 0, pc, 0, [], ordD rem, 0⟩], [], [(cur, false)], rem.length, 2, 0, 0, n, dep, L, mp⟩ = some (chnT pc L rem cur n dep mp) := by
  obtain ⟨N, rfl⟩ : ∃ M, N = M + 2 := ⟨N - 2, by omega⟩
  cases rem with
  | nil => simp [settle, settle1, chnT, ordD, Mc.over]
  | cons v rem => simp [settle, settle1, chnT, ordD, Mc.begin, Mc.top, locals, chnFs, fnOf]
theorem chn_call : Steps (chnFs r v0) 2 (chnT pc L (v :: rem) cur n dep mp) (chnT pc L rem v (n + 2) (max dep 2) (max mp 2)) := by
  have a1 : step (chnFs r v0) (chnT pc L (v :: rem) cur n dep mp) = some ⟨[], [], [⟨3, 1, 1, 0, [v], [], 0⟩, ⟨0, 0, pc, 0, [], ordD rem, 0⟩], [v], [(cur, false)], rem.length, 0, 0, 0, n + 1, max dep 2, L, mp⟩ :=
    step_plain (i := ⟨2, 0, 0⟩) rfl (by show (0 : Int) ≤ 0; omega) rfl (by simp [exec, chnT, Mc.top, Fr.push]) (by simp)
  have a2 : step (chnFs r v0) ⟨[], [], [⟨3, 1, 1, 0, [v], [], 0⟩, ⟨0, 0, pc, 0, [], ordD rem, 0⟩], [v], [(cur, false)], rem.length, 0, 0, 0, n + 1, max dep 2, L, mp⟩ = some (chnT pc L rem v (n + 2) (max dep 2) (max mp 2)) := by
    have hx : exec (chnFs r v0) ⟨[], [], [⟨3, 1, 1, 0, [v], [], 0⟩, ⟨0, 0, pc, 0, [], ordD rem, 0⟩], [v], [(cur, false)], rem.length, 0, 0, 0, n + 1 + 1, max dep 2, L, mp⟩ ⟨3, 1, 1 + 1, 0, [v], [], 0⟩ [⟨0, 0, pc, 0, [], ordD rem, 0⟩] ⟨26, 0, 0⟩ = some ⟨[], [], [⟨3, 1, 2, 0, [], [], 0⟩, ⟨0, 0, pc, 0, [], ordD rem, 0⟩], [v], [(v, false), (cur, false)], rem.length, 2, 0, 0, n + 2, max dep 2, L, max mp 2⟩ := by
      simp [exec, Mc.top, Mc.raise]
    have hs : settle1 (chnFs r v0) ⟨[], [], [⟨3, 1, 2, 0, [], [], 0⟩, ⟨0, 0, pc, 0, [], ordD rem, 0⟩], [v], [(v, false), (cur, false)], rem.length, 2, 0, 0, n + 2, max dep 2, L, max mp 2⟩ = some ⟨[], [], [⟨0, 0, pc, 0, [], ordD rem, 0⟩], [], [(v, false)], rem.length, 2, 0, 0, n + 2, max dep 2, L, max mp 2⟩ := by
      simp [settle1]
    refine step_settle (i := ⟨26, 0, 0⟩) rfl (by show (0 : Int) ≤ 1; omega) rfl hx ?_
    show settle (chnFs r v0) (3 + 1) _ = _
    unfold settle
    rw [if_pos (.inr rfl), hs]
    exact chn_settle (by decide)
  exact ⟨by show (0 : Int) ≠ 3; decide, _, a1, by show (0 : Int) ≠ 3; decide, _, a2, rfl⟩
theorem chn_calls : ∀ (rem : List Int) (cur : Int) (n dep mp : Nat), ∃ dep', Steps (chnFs r v0) (2 * rem.length) (chnT pc L rem cur n dep mp) (chnT pc L [] ((cur :: rem).getLast (by simp)) (n + 2 * rem.length) dep' (if rem = [] then mp else max mp 2))
  | [], cur, n, dep, mp => ⟨dep, rfl⟩
  | v :: rem, cur, n, dep, mp => by
    obtain ⟨d2, h2⟩ := chn_calls rem v (n + 2) (max dep 2) (max mp 2)
    refine ⟨d2, ?_⟩
    have h := (chn_call (r := r) (v0 := v0) (rem := rem) (cur := cur) (n := n) (dep := dep) (mp := mp) (v := v) (pc := pc) (L := L)).trans h2
    rw [show 2 + 2 * rem.length = 2 * (v :: rem).length by simp; omega, show n + 2 + 2 * rem.length = n + 2 * (v :: rem).length by simp; omega] at h
    rw [if_neg (by simp), List.getLast_cons (by simp)]
    have hm : (if rem = [] then max mp 2 else max (max mp 2) 2) = max mp 2 := by split <;> omega
    rw [hm] at h
    exact h
end
theorem chn_all (v0 : Int) (tl : List Int) (hl : tl.length ≤ 40) : ∃ n x, n ≤ 1000 ∧ Steps (chnFs tl.reverse v0) n (start (chnFs tl.reverse v0) []) x ∧ x.doing = 3 ∧ x.endk = 2 ∧ x.endv = (v0 :: tl).getLast (by simp) ∧ x.maxp = (if tl = [] then 1 else 2) ∧ x.defers = tl.length ∧ x.evs = [] := by
  have h0 := chn_down (r := tl.reverse) (v0 := v0) tl.reverse.length (Nat.le_refl _)
  have e0 := chn_atE (r := tl.reverse) (v0 := v0) 0
  have e1 := chn_atE (r := tl.reverse) (v0 := v0) 1
  have hll : tl.reverse.length = tl.length := List.length_reverse
  have hrl : (List.take tl.length tl.reverse).reverse = tl := by rw [← hll, List.take_length, List.reverse_reverse]
  have a1 : step (chnFs tl.reverse v0) (ordS tl.reverse tl.reverse.length) = some ⟨[], [], [⟨0, 0, 2 * tl.reverse.length + 1, 0, [v0], ordD tl, 0⟩], [], [], tl.length, 0, 0, 0, 2 * tl.length + 1, 1, tl.length, 0⟩ :=
    step_plain (i := ⟨1, 0, v0⟩) rfl (by show (0 : Int) ≤ 2 * tl.reverse.length; omega) (by show (fnOf (chnFs tl.reverse v0) 0).code[(2 * (tl.reverse.length : Int)).toNat]? = _; rw [show (2 * (tl.reverse.length : Int)).toNat = 2 * tl.reverse.length + 0 by omega]; exact e0) (by simp [exec, ordS, Mc.top, Fr.push, hrl]) (by simp)
  have a2 : step (chnFs tl.reverse v0) ⟨[], [], [⟨0, 0, 2 * tl.reverse.length + 1, 0, [v0], ordD tl, 0⟩], [], [], tl.length, 0, 0, 0, 2 * tl.length + 1, 1, tl.length, 0⟩ = some (chnT (2 * tl.reverse.length + 2) tl.length tl v0 (2 * tl.length + 2) 1 1) := by
    refine step_settle (i := ⟨26, 0, 0⟩) (st1 := ⟨[], [], [⟨0, 0, 2 * tl.reverse.length + 2, 0, [], ordD tl, 0⟩], [], [(v0, false)], tl.length, 2, 0, 0, 2 * tl.length + 2, 1, tl.length, 1⟩) rfl (by show (0 : Int) ≤ 2 * tl.reverse.length + 1; omega) (by show (fnOf (chnFs tl.reverse v0) 0).code[(2 * (tl.reverse.length : Int) + 1).toNat]? = _; rw [show (2 * (tl.reverse.length : Int) + 1).toNat = 2 * tl.reverse.length + 1 by omega]; exact e1) ?_ (chn_settle (by show 2 ≤ 0 + 3; decide))
    simp [exec, Mc.top, Mc.raise]
    omega
  obtain ⟨d2, h2⟩ := chn_calls (r := tl.reverse) (v0 := v0) (pc := 2 * tl.reverse.length + 2) (L := tl.length) tl v0 (2 * tl.length + 2) 1 1
  exact ⟨_, _, by rw [hll]; omega, h0.trans ((Steps.one (by show (0 : Int) ≠ 3; decide) a1).trans ((Steps.one (by show (0 : Int) ≠ 3; decide) a2).trans h2)), rfl, rfl, rfl, by show (if tl = [] then 1 else max 1 2) = _; split <;> rfl, rfl, rfl⟩
end Go.Proofs.Ytdoabcmfblmklaa

/-
  Package sem: a program of two functions, the first one's code built up; rows of words cut; an ending's call.
-/
namespace Go.Proofs.Ytdoabcmfblmklaa
set_option linter.unusedVariables false
set_option linter.unusedSimpArgs false
open Go.ChangeShapes Go.WideShapes Go.ChangeAt Go.RowKit

def twoRs (main cf : List Ins) (A : Option Addr) (c g : Nat) : List Raw := [⟨⟨0, [], false, -1, main⟩, none, 0, A, c⟩, ⟨⟨1, [0], false, -1, cf⟩, some ⟨g, 0, none⟩, 1, some ⟨g + 1, 0, none⟩, cf.length⟩]
def twoW (W : World) (cf : List Ins) (A : Option Addr) (N c m : Nat) : World :=
  ((W.alloc (.cells #[.int .u8 0] 47)).alloc (.cells (insc cf).toArray 43)).alloc (.cells #[.int .i64 0, .slice none 0 0, .bool false, .int .i64 (-1), .slice A N c, .int .i64 1, .slice (some ⟨W.heap.size, 0, none⟩) 1 1, .bool false, .int .i64 (-1), .slice (some ⟨W.heap.size + 1, 0, none⟩) m m] 46)
theorem twoW_size (W : World) (cf : List Ins) (A : Option Addr) (N c m : Nat) : (twoW W cf A N c m).heap.size = W.heap.size + 3 := by simp [twoW]
theorem twoW_below (W : World) (cf : List Ins) (A : Option Addr) (N c m : Nat) : Below W.heap.size W (twoW W cf A N c m) :=
  (((Below.refl _ _).alloc (Nat.le_refl _) _).alloc (by simp) _).alloc (by simp; omega) _
theorem lit_two2 (W : World) (main cf : List Ins) (A : Option Addr) (N c m : Nat) (hN : N = main.length) (hN1 : N ≤ 1000) (hm : m = cf.length) (hm1 : m ≤ 1000) (hR : Reads W W.heap.size 3 A N (insc main)) (hw : ∀ i ∈ main, WfI i) (hw2 : ∀ i ∈ cf, WfI i) :
    RdP (twoW W cf A N c m) (W.heap.size + 3) (some ⟨W.heap.size + 2, 0, none⟩) 2 (twoRs main cf A c W.heap.size) := by
  subst hN hm
  have hb := Blk.new ((W.alloc (.cells #[.int .u8 0] 47)).alloc (.cells (insc cf).toArray 43)) 46 (rawc (twoRs main cf A c W.heap.size)).toArray
  rw [show ((W.alloc (.cells #[.int .u8 0] 47)).alloc (.cells (insc cf).toArray 43)).heap.size = W.heap.size + 2 by simp] at hb
  have hb' : Blk (twoW W cf A main.length c cf.length) (W.heap.size + 2) 46 (rawc (twoRs main cf A c W.heap.size)).toArray := hb
  have h0 : Blk (twoW W cf A main.length c cf.length) W.heap.size 47 (u8c [0]).toArray := ((Blk.new W _ _).alloc _).alloc _
  have h1 : Blk (twoW W cf A main.length c cf.length) (W.heap.size + 1) 43 (insc cf).toArray := (blk_second _ _ _ _ _).alloc _
  have h2 : Reads (twoW W cf A main.length c cf.length) W.heap.size 3 A main.length (insc main) := hR.below (twoW_below W cf A main.length c cf.length)
  have h := lit_rs (n := 2) (rs := twoRs main cf A c W.heap.size) hb' rfl (by omega) (fun r hr => by
    simp only [twoRs, List.mem_cons, List.not_mem_nil, or_false] at hr
    rcases hr with rfl | rfl
    · exact ⟨Reads.none_, h2.more (by rw [twoW_size]; omega), Nat.le_refl _⟩
    · exact ⟨reads_blk h0 rfl, reads_blk h1 (length_insc _), Nat.le_refl _⟩) (fun r hr => by
    simp only [twoRs, List.mem_cons, List.not_mem_nil, or_false] at hr
    rcases hr with rfl | rfl
    · exact wff_0 hw hN1
    · exact wff_1 hw2 hm1)
  rw [twoW_size] at h
  exact h
theorem insc_app (a b : List Ins) : insc a ++ insc b = insc (a ++ b) := by simp [insc]
theorem lit_reads (W : World) (is : List Ins) (m : Nat) (hm : is.length = m) : Reads (W.alloc (.cells (insc is).toArray 43)) (W.heap.size + 1) 3 (some ⟨W.heap.size, 0, none⟩) m (insc is) := by
  have h := reads_blk (n := m) (size := 3) (Blk.new W 43 (insc is).toArray) (by rw [length_insc, hm])
  rw [show (W.alloc (.cells (insc is).toArray 43)).heap.size = W.heap.size + 1 by simp] at h
  exact h
theorem Reads.takeU {w : World} {B n m : Nat} {A : Option Addr} {l : List Int} (h : Reads w B 1 A n (u64c l)) (hm : m ≤ n) : Reads w B 1 A m (u64c (l.take m)) ∧ (l.take m).length = m := by
  have h1 := h.1
  have hl : (u64c l).length = l.length := by simp [u64c]
  rw [hl] at h1
  refine ⟨⟨by simp [u64c]; omega, fun h0 => ?_⟩, by rw [List.length_take]; omega⟩
  obtain ⟨ad, rfl, hb, hc⟩ := h.2 (by omega)
  refine ⟨ad, rfl, hb, fun j u hu => hc j u ?_⟩
  rw [← u64c_take, List.getElem?_take] at hu
  split at hu
  · exact hu
  · cases hu
theorem Reads.word {w : World} {B n : Nat} {A : Option Addr} {l : List Int} (h : Reads w B 1 A n (u64c l)) {k : Nat} (hk : k < n) : ∃ b off x, A = some ⟨b, off, none⟩ ∧ b < B ∧ Hid (l[k]? = some x) ∧ w.cell? ⟨b, off + k, none⟩ = some (.int .u64 x) := by
  obtain ⟨b, off, rfl, hb, hc⟩ := h.lit (by omega) (by omega)
  have h1 := h.1
  have hl : (u64c l).length = l.length := by simp [u64c]
  rw [hl] at h1
  have hkl : k < l.length := by omega
  exact ⟨b, off, l[k], rfl, hb, List.getElem?_eq_getElem hkl, hc _ _ (u64c_at (List.getElem?_eq_getElem hkl))⟩
end Go.Proofs.Ytdoabcmfblmklaa

/-
  SemChain: the walk.
-/
namespace Go.Proofs.Ytdoabcmfblmklaa
set_option linter.unusedVariables false
set_option linter.unusedSimpArgs false
open Go.ChangeShapes Go.WideShapes Go.ChangeAt Go.RowKit

theorem wf_chn {r : List Int} {v0 : Int} (hw : ∀ v ∈ r, isW v) (hv : isW v0) : ∀ i ∈ ordC r ++ chnE v0, WfI i := by
  intro i hi
  rcases List.mem_append.1 hi with hi | hi
  · rcases ordC_mem hi with ⟨v, hv, rfl⟩ | rfl
    · exact wf_const (hw v hv)
    · exact wf_small (by decide)
  · simp [chnE] at hi
    rcases hi with rfl | rfl
    · exact wf_const hv
    · exact wf_small (by decide)
theorem wf_chnF : ∀ i ∈ chnF, WfI i := by intro i hi; apply wf_small; simp [chnF] at hi; rcases hi with rfl | rfl <;> decide
theorem ordC_more {r : List Int} {j : Nat} {v : Int} (h : r[j]? = some v) : ordC (r.take (j + 1)) = ordC (r.take j) ++ [⟨1, 0, v⟩, ⟨25, 1, 0⟩] := by
  rw [List.take_add_one, h]
  simp [ordC]
theorem rev_tl {v0 : Int} {tl : List Int} {i j : Nat} (h : i + j + 1 = tl.length + 1) (hi : 0 < i) : tl.reverse[j]? = (v0 :: tl)[i]? := by
  rw [List.getElem?_reverse (by omega)]
  obtain ⟨i, rfl⟩ : ∃ k, i = k + 1 := ⟨i - 1, by omega⟩
  rw [List.getElem?_cons_succ]
  congr 1
  omega
theorem last_at {v0 : Int} {tl : List Int} : (v0 :: tl)[tl.length]? = some ((v0 :: tl).getLast (by simp)) := by
  rw [List.getLast_eq_getElem, List.getElem?_eq_getElem (by simp)]
  rfl
def ChnPost (w1 : World) (last : Int) (m1 P : Nat) (e : Ending) (w' : World) : Prop := ∃ A c d1 s1, e = .returned (.tuple #[.agg #[.slice A 0 c, .int .i64 2, .int .u64 last, .int .i64 s1, .int .i64 d1, .int .i64 (m1 : Nat), .int .i64 (P : Nat)], .int .i64 0]) ∧ Hid (Below w1.heap.size w1 w')
theorem chn_run (W : World) (v0 : Int) (tl : List Int) (m1 N c : Nat) (A : Option Addr) (hl : tl.length = m1) (hm : m1 ≤ 40) (hw : ∀ v ∈ tl, isW v) (hv : isW v0) (hN : N = (ordC tl.reverse ++ chnE v0).length) (hR : Reads W W.heap.size 3 A N (insc (ordC tl.reverse ++ chnE v0))) :
    Calls Try.prog 9 #[.agg #[.slice (some ⟨W.heap.size + 2, 0, none⟩) 2 2], .slice none 0 0, .int .i64 1000] (twoW W chnF A N c 2) (ChnPost W ((v0 :: tl).getLast (by simp)) m1 (if tl = [] then 1 else 2)) := by
  have hwr : ∀ v ∈ tl.reverse, isW v := fun v h => hw v (List.mem_reverse.1 h)
  have hN1 : N ≤ 1000 := by rw [hN, List.length_append, length_ordC, List.length_reverse]; simp [chnE]; omega
  have hL := lit_two2 W (ordC tl.reverse ++ chnE v0) chnF A N c 2 hN hN1 rfl (by decide) hR (wf_chn hwr hv) wf_chnF
  refine (run_full (W.heap.size + 3) 2 2 _ _ none 0 0 [] 1000 _ hL (by rw [twoW_size]; omega) Reads.none_ (by omega) (fun v hv => by cases hv) (by omega)).mono ?_
  rintro e w' ⟨A', c', st, er, rfl, hra, hown, hb⟩
  obtain ⟨n, z, hn, q1, q2, q3, q4, q5, q6, q7⟩ := chn_all v0 tl (by omega)
  obtain ⟨rfl, rfl⟩ := hra.steps (verd_chn (by rw [List.length_reverse]; omega) hwr hv) q1 q2 hn
  refine ⟨A', c', st.depth, st.steps, ?_, Lib.hid ((twoW_below W chnF A N c 2).trans (hb.mono (by rw [twoW_size]; omega)))⟩
  rw [q3, q4, q5, q6, q7, hl]
  rfl
set_option maxRecDepth 100000 in
set_option maxHeartbeats 12800000 in
theorem chn_walk (A0 : Option Addr) (n0 c0 : Nat) (tape : List Int) (w : World) (ht : Reads w w.heap.size 1 A0 n0 (u64c tape)) (hn0 : n0 ≤ c0) (hc0 : c0 * 8 ≤ 140737488351232) (htw : ∀ v ∈ tape, isW v) :
    Calls Try.prog 7 #[.slice A0 n0 c0] w fun e w' => e = .returned (.bool true) ∧ Below w.heap.size w w' := by
  obtain ⟨m, hm, hm40, hmn⟩ : ∃ m : Nat, (if (30 : Int) < (n0 : Int) then (30 : Int) else (n0 : Int)) = (m : Int) ∧ m ≤ 30 ∧ m ≤ n0 := ⟨min n0 30, by split <;> omega, by omega, by omega⟩
  obtain ⟨hR, hll⟩ := ht.takeU hmn
  obtain ⟨l, hl⟩ : ∃ l, l = tape.take m := ⟨_, rfl⟩
  rw [← hl] at hR hll
  have HR := Lib.hid hR
  have HTW : Hid (∀ v ∈ l, isW v) := Lib.hid fun v hv => htw v (List.mem_of_mem_take (by rw [← hl]; exact hv))
  clear ht htw hR hl
  cases l with
  | nil =>
    obtain rfl : m = 0 := by simpa using hll.symm
    clear hll
    go_enter Try.func7, Try.ntmps7
    go_wp2_with (go_at_call 8; refine (first6_any _).mono ?_; rintro e w1 ⟨rfl, hb1⟩; have HB1 := Lib.hid hb1; clear hb1; refine Hid.out ?_)
    refine Lib.hid ?_
    go_wp2
    go_ret
    exact ⟨rfl, HB1.out⟩
  | cons v0 tl =>
    obtain ⟨m1, rfl⟩ : ∃ k, m = k + 1 := ⟨tl.length, by simpa using hll.symm⟩
    have htl : tl.length = m1 := by simpa using hll
    have HTL := Lib.hid htl
    have HM := Lib.hid hm40
    obtain ⟨m, hmm⟩ : ∃ m, m = m1 + 1 := ⟨_, rfl⟩
    have hm1i : (m : Int) - 1 = (m1 : Int) := by omega
    rw [← hmm] at hm HR
    have hne : ((m : Int) == 0) = false := by simp; omega
    have hne2 : (m == 0) = false := by simp; omega
    have HMM := Lib.hid hmm
    obtain ⟨P, hP, hPP⟩ : ∃ P : Nat, (if (2 : Int) < (m : Int) then (2 : Int) else (m : Int)) = (P : Int) ∧ P = (if tl = [] then 1 else 2) := by
      refine ⟨min m 2, by split <;> omega, ?_⟩
      by_cases h0 : tl = []
      · rw [if_pos h0]
        subst h0
        simp at htl
        omega
      · rw [if_neg h0]
        have : 0 < tl.length := List.length_pos_iff.2 h0
        omega
    have HP := Lib.hid hPP
    clear hPP hll htl hmm hm40 hmn
    go_enter Try.func7, Try.ntmps7
    go_wp2_with (go_at_call 8; refine (first6_any _).mono ?_; rintro e w1 ⟨rfl, hb1⟩; have HB1 := Lib.hid hb1; clear hb1; refine Hid.out ?_)
    refine Lib.hid ?_
    go_wp2
    go_loopw [4, 5] (fun s i wr => ∃ (j k : Nat) (A : Option Addr) (c : Nat), k + j = m1 ∧ s = .slice A (2 * j) c ∧ i = .int .i64 k ∧ Hid (wr.ownsRow w.heap.size 43 3 (.slice A (2 * j) c) (2 * j) (insc (ordC (tl.reverse.take j)))) ∧ Hid (Below w.heap.size w wr)) (fun _ i _ => (intOf i).toNat)
    case atStart => exact ⟨0, m1, none, 0, rfl, rfl, rfl, Lib.hid (own_none _ _ _ _), HB1⟩
    case round =>
      clear HB1
      obtain ⟨j, k, A, c, hjk, rfl, rfl, HO, HW⟩ := hrel
      have HJK : Hid (k + j + 1 = m1 + 1) := Lib.hid (by omega)
      have hk30 : k ≤ 30 := by have := HM.out; omega
      have hj30 : j ≤ 30 := by have := HM.out; omega
      clear hjk
      have hzr := HW.out.size
      by_cases hlt : 0 < k
      · have hkm : k < m := by have := HJK.out; have := HMM.out; omega
        obtain ⟨b, off, v, rfl, hb, HV, x1⟩ := (HR.out.below HW.out).word hkm
        have hgt : decide ((k : Int) > 0) = true := by simp; omega
        obtain ⟨k1, hk1⟩ : ∃ k1 : Nat, (k : Int) - 1 = (k1 : Int) := ⟨k - 1, by omega⟩
        have hj29 : j < 30 := by have := HJK.out; have := HM.out; omega
        have HJK2 : Hid (k1 + (j + 1) + 1 = m1 + 1) := Lib.hid (by have := HJK.out; omega)
        have HOA := Lib.hid (own_al HO.out (.cells (insc [⟨1, 0, v⟩, ⟨25, 1, 0⟩]).toArray 43))
        have HRD := Lib.hid (lit_reads wr [⟨1, 0, v⟩, ⟨25, 1, 0⟩] 2 rfl)
        have HNX : Hid (ordC (tl.reverse.take j) ++ [⟨1, 0, v⟩, ⟨25, 1, 0⟩] = ordC (tl.reverse.take (j + 1))) := Lib.hid (ordC_more (by rw [rev_tl (v0 := v0) (i := k) (by rw [HTL.out]; exact HJK.out) hlt]; exact HV.out)).symm
        have h2j : 2 * j + 2 = 2 * (j + 1) := by omega
        go_wp2_with (at_builtin; refine app_ins rfl _ _ rfl w.heap.size (.slice A (2 * j) c) (2 * j) (insc (ordC (tl.reverse.take j))) rfl HOA.out (wr.heap.size + 1) (some ⟨wr.heap.size, 0, none⟩) 2 2 (insc [⟨1, 0, v⟩, ⟨25, 1, 0⟩]) rfl HRD.out (insc_one _) (by omega) (by simp; omega) ?_; intro v8 w8 hown hgr _; obtain ⟨A8, c8, rfl⟩ := own_slice hown; have hb8 : Below w.heap.size w w8 := (HW.out.alloc hzr (.cells (insc [⟨1, 0, v⟩, ⟨25, 1, 0⟩]).toArray 43)).grown hgr (by simp; omega) (fun q hq => (own_block_le HOA.out hq).1); have HB8 := Lib.hid hb8; rw [insc_app, HNX.out, h2j] at hown; have HO8 := Lib.hid hown; clear hown hgr hb8; rw [h2j]; refine Hid.out ?_)
        refine Lib.hid ?_
        clear h2j
        go_wp2
        go_roundw
        case rel => exact ⟨j + 1, k1, A8, c8, by have := HJK2.out; omega, rfl, by go_num, HO8, HB8⟩
        case measure => simp [intOf]; omega
      · obtain rfl : k = 0 := by omega
        clear hlt
        obtain rfl : j = m1 := by have := HJK.out; omega
        have hl2 : tl.reverse.take j = tl.reverse := List.take_of_length_le (by rw [List.length_reverse, HTL.out]; omega)
        rw [hl2] at HO
        clear hl2 HJK
        obtain ⟨b, off, v, hA0, hb, HV, x1⟩ := (HR.out.below HW.out).word (k := 0) (by have := HMM.out; omega)
        subst hA0
        have hv0 : v = v0 := by have := HV.out; simpa using this.symm
        subst hv0
        obtain ⟨b', off', u, hA1, hb', HU, x2⟩ := HR.out.word (k := j) (by have := HMM.out; omega)
        injection hA1 with hA1
        injection hA1 with hA1 hA2
        subst hA1 hA2
        have hu : u = (v :: tl).getLast (by simp) := by
          have h1 := HU.out
          rw [← HTL.out, last_at] at h1
          injection h1 with h1
          exact h1.symm
        have HUU := Lib.hid hu
        clear hu
        rw [Nat.add_zero] at x1
        have HOA := Lib.hid (own_al HO.out (.cells (insc [⟨1, 0, v⟩, ⟨26, 0, 0⟩]).toArray 43))
        have HRD := Lib.hid (lit_reads wr [⟨1, 0, v⟩, ⟨26, 0, 0⟩] 2 rfl)
        go_wp2_with (at_builtin; refine app_ins rfl _ _ rfl w.heap.size (.slice A (2 * j) c) (2 * j) (insc (ordC tl.reverse)) rfl HOA.out (wr.heap.size + 1) (some ⟨wr.heap.size, 0, none⟩) 2 2 (insc [⟨1, 0, v⟩, ⟨26, 0, 0⟩]) rfl HRD.out (insc_one _) (by omega) (by simp; omega) ?_; intro v8 w8 hown hgr _; obtain ⟨A8, c8, rfl⟩ := own_slice hown; have hb8 : Below w.heap.size w w8 := (HW.out.alloc hzr (.cells (insc [⟨1, 0, v⟩, ⟨26, 0, 0⟩]).toArray 43)).grown hgr (by simp; omega) (fun q hq => (own_block_le HOA.out hq).1); have HB8 := Lib.hid hb8; rw [insc_app] at hown; have HO8 := Lib.hid hown; clear hown hgr hb8; refine Hid.out ?_)
        have HRUN := Lib.hid (chn_run w8 v tl j (2 * j + 2) c8 A8 HTL.out (by have := HM.out; omega) (fun x hx => HTW.out x (by simp [hx])) (HTW.out v (by simp)) (by rw [List.length_append, length_ordC, List.length_reverse, HTL.out]; simp [chnE]; omega) (Reads.of_own HO8.out))
        rw [← HP.out, ← HUU.out] at HRUN
        have hee : ∀ W, Sem.run Try.prog (Op.equalIn 10000 32 (.agg #[.int .i64 2, .int .u64 u]) (.agg #[.int .i64 2, .int .u64 u])) W = .ok true W := fun W => by
          have := equalIn_end (2, u) (2, u) W
          simpa using this
        refine Lib.hid ?_
        clear HOA HRD HO8 x1
        go_wp2_with (go_at_call 9; refine HRUN.out.mono ?_; rintro e w10 ⟨A2, c2, d1, s1, rfl, HB10'⟩; have HB10 := Lib.hid (HB8.out.trans (HB10'.out.mono HB8.out.size)); refine Hid.out ?_)
        have y1 : w10.cell? ⟨b, off + j, none⟩ = some (.int .u64 u) := (HB10.out.cell (p := ⟨b, off + j, none⟩) hb').trans x2
        refine Lib.hid ?_
        go_wp2
        have hr0 := Blk.new w10 34 #[.slice A2 0 c2, .int .i64 2, .int .u64 u, .int .i64 s1, .int .i64 d1, .int .i64 j, .int .i64 P]
        have hbA : Below w.heap.size w (w10.alloc (.cells #[.slice A2 0 c2, .int .i64 2, .int .u64 u, .int .i64 s1, .int .i64 d1, .int .i64 j, .int .i64 P] 34)) := HB10.out.alloc HB10.out.size _
        have y2 : (w10.alloc (.cells #[.slice A2 0 c2, .int .i64 2, .int .u64 u, .int .i64 s1, .int .i64 d1, .int .i64 j, .int .i64 P] 34)).cell? ⟨b, off + j, none⟩ = some (.int .u64 u) := by rw [World.cell?_alloc_lt w10 _ _ (by show b < w10.heap.size; have := HB10.out.size; omega)]; exact y1
        obtain ⟨wA, hwA⟩ : ∃ W, W = w10.alloc (.cells #[.slice A2 0 c2, .int .i64 2, .int .u64 u, .int .i64 s1, .int .i64 d1, .int .i64 j, .int .i64 P] 34) := ⟨_, rfl⟩
        rw [← hwA] at hr0 hbA y2 ⊢
        have HBA := Lib.hid hbA
        have z1 := hr0.cell 1
        have z2 := hr0.cell 2
        have z4 := hr0.cell 5
        have z5 := hr0.cell 6
        simp only [List.getElem?_toArray, List.getElem?_cons_succ, List.getElem?_cons_zero] at z1 z2 z4 z5
        clear hwA hr0 hbA y1 x2
        go_region
        all_goals
          go_wp2
          go_ret
          first
          | exact ⟨rfl, HBA.out⟩
          | exact ⟨rfl, below_drewN HBA.out _⟩
          | exact ⟨rfl, HBA.out.drew⟩
end Go.Proofs.Ytdoabcmfblmklaa

/-
  SemChain is true for all numbers: of panics that begin in deferred calls, one out of the other, the last one is what the run ends with, two of them in the list at a time; no condition.
-/
namespace Go.Proofs.Ytdoabcmfblmklaa.semChain
open Go.ChangeShapes Go.WideShapes Go.ChangeAt Go.RowKit
set_option linter.unusedVariables false

theorem own : ownKnob Try.prog.godebug = none := by kernel_rfl
theorem laidOut : laidOutB Try.prog = true := by kernel_rfl

set_option maxRecDepth 100000 in
theorem lifted (os : Os) (started : os.Started) (H : Type) (enc : TypeId × Value → H) :
    ReturnsInHanded {} Try.checked os 7 .any (Rows.semChainSpec.pre6 enc Try.prog Try.f7 Rows.semChainRow.domain false) (Rows.semChainSpec.post enc Try.prog Try.f7 false true false false) := by
  refine returnsInHanded_of_change_sized (C := Try.checked) own started (by kernel_rfl) Try.func7
    (ChangeSpec.witness6 (enc := enc) (C := Try.checked) false ⟨#[], #[.slice none 0 0], []⟩ 8 (by kernel_rfl) (by kernel_rfl) (by kernel_rfl) (by kernel_rfl)) ?_
  intro W base args ds gs before hval0 hW hcnd hsz0 _
  have hval : ∀ (j : Nat) t v, Try.f7.params[j]? = some t → args[j]? = some v → Value.okWide Try.prog W .any base t v := hval0
  have hsz : (DataW.weightsEach Try.prog (Try.f7.params.toList ++ Rows.semChainSpec.plain.varTypes Try.prog) (ds ++ gs)).all (· ≤ reachBytes) = true := hsz0
  clear hsz0
  have hW' := hW
  obtain ⟨p, q, hA0, hV, rfl, hfz, hnd⟩ := hW
  have hA : DataW.TrodAll enc Try.prog W 0 (fun _ => true) true Try.f7.params.toList args.toList ds p := hA0
  rw [Try.params7] at hA hval hsz
  obtain ⟨v0, vs0, d0, ds0, p0, q0, hargs, rfl, rfl, h0, r0⟩ := trodAll_cons hA
  obtain ⟨rfl, rfl, rfl⟩ := trodAll_nil r0
  obtain rfl : args = #[v0] := by cases args; simp_all
  obtain ⟨rfl, rfl⟩ := trodVars_none hV
  have k0 := h0
  have lt0 : ∀ x ∈ p0, x.block < W.heap.size := by obtain ⟨m, hm⟩ := k0; exact DataW.trod_lt m _ _ _ hm
  have sm0 : Small 25 d0 := fun x hx => by simpa using List.all_eq_true.1 hsz x (DataW.weights_mem_each (j := 0) rfl rfl x hx)
  obtain ⟨a0, n0, c0, l0, rfl, r0', ln0, nc0, iw0, dd0⟩ := open_words (hval 0 25 v0 rfl rfl) h0
  have b0 : c0 * 8 ≤ 140737488351232 := by
    rcases dd0 with ⟨_, hc⟩ | ⟨elems, spare, hd, hc⟩
    · omega
    · rw [hd] at sm0
      have := small_slice sm0 Try.underlying25 (show Try.prog.bytesOf 30 = 8 by kernel_rfl)
      omega
  clear hA0 hval0
  refine (chn_walk _ _ _ _ W r0' nc0 b0 iw0).mono fun e W' ⟨he, bel⟩ => ?_
  subst he
  exact ⟨_, rfl, _, _, _, [], _, [], hW', trodAll_mk1 (shut_bool Try.underlying4 _), (trodAll_cons_mk (Below.trod laidOut (by kernel_rfl) (of_decide_eq_true (by kernel_rfl)) k0 bel lt0) trodAll_mk0), rfl, bel.frame _, fun h => by cases h⟩

theorem over : Rows.semChainRow.holds Try.pinned (OpenSpec.ofChange Rows.semChainSpec) :=
  OpenClaim.holds_of_wide 7 Try.f7 rfl rfl rfl rfl rfl rfl rfl ⟨rfl, rfl, rfl, rfl, rfl⟩ rfl rfl rfl rfl rfl (by kernel_rfl) Try.func7 (by kernel_rfl)
    (of_decide_eq_true (by kernel_rfl)) (by unfold Func.isWrapper; first | (rw [if_pos (by decide +kernel)]; kernel_rfl) | (rw [if_neg (by decide +kernel)]; exact ⟨rfl, rfl⟩))
    (fun os started H enc _ => lifted os started H enc)

theorem proved : Rows.SemChainSaid := over
end Go.Proofs.Ytdoabcmfblmklaa.semChain
