/-
  SemSums is true for all numbers and choices: a program that adds, turns and multiplies numbers that come in says what Go does; no condition.
-/
import Derived.Test.YtdoabcmfblmklaaRows
import Derived.WalkKit
import Derived.ProofKit
import Derived.OpenShut
import Derived.ShutString
import Derived.ChangeOld
import Derived.Below
import Derived.SizedLaws
import Derived.Test.YtdoabcmfblmklaaMA10

/-
  Package sem: runs of programs with letters in them: the verdict by stacks that are named, the run step by step on the plain machine.
-/
namespace Go.Proofs.Ytdoabcmfblmklaa
set_option linter.unusedVariables false
set_option linter.unusedSimpArgs false

theorem wff_0 {c : List Ins} (hc : ∀ i ∈ c, WfI i) (h2 : c.length ≤ 1000) : WfF ⟨0, [], false, -1, c⟩ :=
  wff_of (f := ⟨0, [], false, -1, c⟩) ⟨Int.le_refl _, by show (0 : Int) ≤ 100; omega⟩ ⟨Int.le_refl _, by show (-1 : Int) ≤ 100; omega⟩ Byt.nil hc (Nat.zero_le _) h2
theorem wff_1 {c : List Ins} (hc : ∀ i ∈ c, WfI i) (h2 : c.length ≤ 1000) : WfF ⟨1, [0], false, -1, c⟩ :=
  wff_of (f := ⟨1, [0], false, -1, c⟩) ⟨by show (0 : Int) ≤ 1; omega, by show (1 : Int) ≤ 100; omega⟩ ⟨Int.le_refl _, by show (-1 : Int) ≤ 100; omega⟩ (by intro b hb; simp at hb; subst hb; decide) hc (by show 1 ≤ 1000; omega) h2
theorem wf_const {m : Int} (h : isW m) : WfI ⟨1, 0, m⟩ := by
  unfold isW at h
  exact ⟨by show (0 : Int) ≤ 1; omega, by show (1 : Int) ≤ 255; omega, by show (-9223372036854775808 : Int) ≤ 0; omega, by show (0 : Int) ≤ 9223372036854775807; omega, h.1, by show m ≤ _; omega⟩
section
variable {fs : List Fn} {f : Fn} {rs : List Raw} {st st1 st2 x a : Mc} {n m : Nat}
/-- the stacks are named: all is well -/
theorem fine_of (A : Nat → Option Stk) (h0 : A 0 = some []) (hc : ∀ a s, A a = some s → ∃ i s', f.code[a]? = some i ∧ afterK fs f i s = some s' ∧ ∀ b ∈ succK a i, A b = some s') : Fine fs f ∧ ∀ a s, Reach fs f a s → A a = some s := by
  have hall : ∀ a s, Reach fs f a s → A a = some s := by
    intro a s hr
    induction hr with
    | base => exact h0
    | step _ hcd hs hb ih =>
      obtain ⟨i, s', h1, h2, h3⟩ := hc _ _ ih
      rw [hcd] at h1
      injection h1 with h1
      subst h1
      rw [hs] at h2
      injection h2 with h2
      subst h2
      exact h3 _ hb
  refine ⟨fun a s hr => ⟨?_, fun s2 hr2 => ?_⟩, hall⟩
  · obtain ⟨i, s', h1, h2, _⟩ := hc a s (hall a s hr)
    exact ⟨i, s', h1, h2⟩
  · have h1 := hall a s hr
    rw [hall a s2 hr2] at h1
    injection h1
theorem verd_of (h1 : okP fs = true) (h2 : bnd fs = true) (h3 : refB fs = true) (h4 : ∀ f ∈ fs, ∃ A : Nat → Option Stk, A 0 = some [] ∧ (∀ a s, A a = some s → s.length ≤ 16 ∧ ∃ i s', f.code[a]? = some i ∧ afterK fs f i s = some s' ∧ ∀ b ∈ succK a i, A b = some s')) : verd fs = 0 := by
  have hf : ∀ f ∈ fs, Fine fs f ∧ ∀ a s, Reach fs f a s → s.length ≤ 16 := fun f hf => by
    obtain ⟨A, a0, a1⟩ := h4 f hf
    obtain ⟨b0, b1⟩ := fine_of A a0 fun a s h => (a1 a s h).2
    exact ⟨b0, fun a s hr => (a1 a s (b1 a s hr)).1⟩
  unfold verd
  rw [if_neg (by simp [h1]), if_neg (by simp [h2]), if_neg (by simp [h3]), if_neg (fun hn => hn fun f h => (hf f h).1), if_neg]
  rintro ⟨f, h, a, s, hr, hs⟩
  have := (hf f h).2 a s hr
  omega
/-- so many steps -/
def Steps (fs : List Fn) : Nat → Mc → Mc → Prop
  | 0, st, x => x = st
  | n + 1, st, x => st.doing ≠ 3 ∧ ∃ st2, step fs st = some st2 ∧ Steps fs n st2 x
theorem Steps.one (hd : st.doing ≠ 3) (h : step fs st = some x) : Steps fs 1 st x := ⟨hd, x, h, rfl⟩
theorem Steps.trans : ∀ {n m : Nat} {st x a : Mc}, Steps fs n st x → Steps fs m x a → Steps fs (n + m) st a
  | 0, m, st, x, a, h1, h2 => by
    have : x = st := h1
    subst this
    rw [Nat.zero_add]
    exact h2
  | n + 1, m, st, x, a, ⟨hd, y, hs, h1⟩, h2 => by
    rw [show n + 1 + m = (n + m) + 1 by omega]
    exact ⟨hd, y, hs, h1.trans h2⟩
theorem StepB.step (h : StepB rs st st2) (hs : step (fns rs) st = some x) : st2 = x := by
  obtain ⟨t, bl, r, i, k, s1, N, a1, a2, a3, a4, a5, a6, a7, a8, a9, a10, a11, a12, a13⟩ := h
  have hfn := fnOf_at a2
  unfold Go.Proofs.Ytdoabcmfblmklaa.step at hs
  rw [a1] at hs a8
  simp only [hfn] at hs
  rw [a3, Int.toNat_natCast, a4] at hs
  simp only at hs
  rw [if_pos (by omega), ← a3, a8] at hs
  exact settle_one a10 hs
theorem RunB.steps : ∀ {n m : Nat} {st x a : Mc}, RunB rs (n + m) st a → Steps (fns rs) n st x → RunB rs m x a
  | 0, m, st, x, a, h1, h2 => by
    have : x = st := h2
    subst this
    rw [Nat.zero_add] at h1
    exact h1
  | n + 1, m, st, x, a, h1, ⟨hd, y, hs, h2⟩ => by
    rw [show n + 1 + m = (n + m) + 1 by omega] at h1
    unfold RunB at h1
    rw [if_neg hd] at h1
    obtain ⟨z, e1, e2⟩ := h1
    obtain rfl := e1.step hs
    exact RunB.steps e2 h2
/-- a run that comes to its end -/
theorem RunAns.steps {tape : List Int} {fuel : Nat} {er : Int} (h : RunAns rs tape fuel er st) (hv : verd (fns rs) = 0) (hs : Steps (fns rs) n (start (fns rs) tape) x) (h3 : x.doing = 3) (hn : n ≤ fuel) : er = 0 ∧ st = x := by
  obtain ⟨h1, _⟩ | ⟨_, h2, stF, h5, _, _, h4⟩ := h
  · exact absurd hv h1
  · have h6 := RunB.steps (m := fuel - n) (by rw [show n + (fuel - n) = fuel by omega]; exact h5) hs
    have h7 := h6.over h3
    subst h7
    rw [if_pos h3] at h4
    exact ⟨h2, h4⟩
/-- a step that ends nothing -/
theorem step_plain {t : Fr} {bl : List Fr} {i : Ins} (hf : st.frames = t :: bl) (h0 : 0 ≤ t.next) (hc : (fnOf fs t.f).code[t.next.toNat]? = some i) (hx : exec fs { st with steps := st.steps + 1 } { t with next := t.next + 1 } bl i = some x) (hd : ¬ (x.doing = 1 ∨ x.doing = 2)) : step fs st = some x := by
  unfold Go.Proofs.Ytdoabcmfblmklaa.step
  rw [hf] at hx ⊢
  simp only
  rw [hc]
  simp only
  rw [if_pos h0, hx]
  show settle fs ((t :: bl).length + 1 + 1) x = some x
  unfold settle
  rw [if_neg hd]
/-- a step that ends something -/
theorem step_settle {t : Fr} {bl : List Fr} {i : Ins} (hf : st.frames = t :: bl) (h0 : 0 ≤ t.next) (hc : (fnOf fs t.f).code[t.next.toNat]? = some i) (hx : exec fs { st with steps := st.steps + 1 } { t with next := t.next + 1 } bl i = some st1) (hs : settle fs (bl.length + 3) st1 = some x) : step fs st = some x := by
  unfold Go.Proofs.Ytdoabcmfblmklaa.step
  rw [hf] at hx ⊢
  simp only
  rw [hc]
  simp only
  rw [if_pos h0, hx]
  exact hs
end
end Go.Proofs.Ytdoabcmfblmklaa

/-
  SemSums: the mathematics: numbers that come in, reckoned.
-/
namespace Go.Proofs.Ytdoabcmfblmklaa
set_option linter.unusedVariables false
set_option linter.unusedSimpArgs false

def sumB (os : List Int) : List Ins := ⟨1, 0, 0⟩ :: os.flatMap fun o => [⟨28, 0, 0⟩, ⟨o, 0, 0⟩]
def sumI (os : List Int) : List Ins := sumB os ++ [⟨30, 0, 0⟩]
def sumFs (os : List Int) : List Fn := [⟨0, [], false, -1, sumI os⟩]
def sumO (o : Int) : Prop := o = 7 ∨ o = 14 ∨ o = 9 ∨ o = 8
/-- what is reckoned of the first j -/
def sumV (tape os : List Int) : Nat → Int
  | 0 => 0
  | j + 1 => doV (os.getD j 0) (sumV tape os j) (tape.getD j 0)
theorem sumFs_0 (os : List Int) : fnOf (sumFs os) 0 = ⟨0, [], false, -1, sumI os⟩ := rfl
theorem length_sumB (os : List Int) : (sumB os).length = 1 + 2 * os.length := by
  unfold sumB
  rw [List.length_cons]
  have : (os.flatMap fun o => ([⟨28, 0, 0⟩, ⟨o, 0, 0⟩] : List Ins)).length = 2 * os.length := by
    induction os with
    | nil => rfl
    | cons o os ih => rw [List.flatMap_cons, List.length_append, ih]; simp; omega
  omega
theorem flat_at2 : ∀ (os : List Int) (j : Nat) (o : Int), os[j]? = some o → (os.flatMap fun o => ([⟨28, 0, 0⟩, ⟨o, 0, 0⟩] : List Ins))[2 * j]? = some ⟨28, 0, 0⟩ ∧ (os.flatMap fun o => ([⟨28, 0, 0⟩, ⟨o, 0, 0⟩] : List Ins))[2 * j + 1]? = some ⟨o, 0, 0⟩
  | [], j, o, h => by simp at h
  | x :: l, 0, o, h => by simp at h; subst h; exact ⟨rfl, rfl⟩
  | x :: l, j + 1, o, h => by
    rw [List.flatMap_cons, show 2 * (j + 1) = 2 * j + 1 + 1 by omega]
    simp only [List.cons_append, List.nil_append, List.getElem?_cons_succ]
    exact flat_at2 l j o (by simpa using h)
theorem sum_at {os : List Int} {j : Nat} {o : Int} (h : os[j]? = some o) : (sumI os)[1 + 2 * j]? = some ⟨28, 0, 0⟩ ∧ (sumI os)[2 + 2 * j]? = some ⟨o, 0, 0⟩ := by
  obtain ⟨h1, h2⟩ := flat_at2 os j o h
  have hj := (List.getElem?_eq_some_iff.1 h).1
  unfold sumI
  rw [List.getElem?_append_left (by rw [length_sumB]; omega), List.getElem?_append_left (by rw [length_sumB]; omega)]
  unfold sumB
  rw [show 1 + 2 * j = 2 * j + 1 by omega, show 2 + 2 * j = 2 * j + 1 + 1 by omega, List.getElem?_cons_succ, List.getElem?_cons_succ]
  exact ⟨h1, h2⟩
theorem sum_last (os : List Int) : (sumI os)[1 + 2 * os.length]? = some ⟨30, 0, 0⟩ := by
  unfold sumI
  rw [List.getElem?_append_right (by rw [length_sumB]; omega), length_sumB, Nat.sub_self]
  rfl
theorem sum_mem {os : List Int} {i : Ins} (h : i ∈ sumI os) : i = ⟨1, 0, 0⟩ ∨ i = ⟨28, 0, 0⟩ ∨ i = ⟨30, 0, 0⟩ ∨ ∃ o ∈ os, i = ⟨o, 0, 0⟩ := by
  unfold sumI sumB at h
  rcases List.mem_append.1 h with h | h
  · rcases List.mem_cons.1 h with h | h
    · exact .inl h
    · obtain ⟨o, ho, h⟩ := List.mem_flatMap.1 h
      simp at h
      rcases h with h | h
      · exact .inr (.inl h)
      · exact .inr (.inr (.inr ⟨o, ho, h⟩))
  · exact .inr (.inr (.inl (by simpa using h)))
def sumA (k a : Nat) : Option Stk := if a = 0 then some [] else if a ≤ 2 * k + 1 then (if a % 2 = 1 then some [0] else some [0, 0]) else none
theorem sumA_odd {k a : Nat} (h : a ≤ 2 * k + 1) (h2 : a % 2 = 1) : sumA k a = some [0] := by unfold sumA; rw [if_neg (by omega), if_pos h, if_pos h2]
theorem sumA_even {k a : Nat} (h : a ≤ 2 * k + 1) (h2 : a % 2 = 0) (h0 : a ≠ 0) : sumA k a = some [0, 0] := by unfold sumA; rw [if_neg h0, if_pos h, if_neg (by omega)]
theorem sumA_some {k a : Nat} {s : Stk} (h : sumA k a = some s) : (a = 0 ∧ s = []) ∨ (a ≠ 0 ∧ a ≤ 2 * k + 1 ∧ (a % 2 = 1 ∧ s = [0] ∨ a % 2 = 0 ∧ s = [0, 0])) := by
  unfold sumA at h
  by_cases h0 : a = 0
  · rw [if_pos h0] at h
    injection h with h
    exact .inl ⟨h0, h.symm⟩
  · rw [if_neg h0] at h
    by_cases h1 : a ≤ 2 * k + 1
    · rw [if_pos h1] at h
      by_cases h2 : a % 2 = 1
      · rw [if_pos h2] at h
        injection h with h
        exact .inr ⟨h0, h1, .inl ⟨h2, h.symm⟩⟩
      · rw [if_neg h2] at h
        injection h with h
        exact .inr ⟨h0, h1, .inr ⟨by omega, h.symm⟩⟩
    · rw [if_neg h1] at h
      cases h
theorem verd_sum {os : List Int} (hl : os.length ≤ 60) (ho : ∀ o ∈ os, sumO o) : verd (sumFs os) = 0 := by
  have hlen : (sumI os).length ≤ 122 := by unfold sumI; rw [List.length_append, length_sumB]; simp; omega
  have hok : ∀ i ∈ sumI os, okI i = true ∧ insRef (sumFs os) ⟨0, [], false, -1, sumI os⟩ i = true := by
    intro i hi
    rcases sum_mem hi with rfl | rfl | rfl | ⟨o, h1, rfl⟩
    · exact ⟨by decide, rfl⟩
    · exact ⟨by decide, rfl⟩
    · exact ⟨by decide, rfl⟩
    · rcases ho o h1 with rfl | rfl | rfl | rfl
      · exact ⟨by decide, rfl⟩
      · exact ⟨by decide, rfl⟩
      · exact ⟨by decide, rfl⟩
      · exact ⟨by decide, rfl⟩
  have hall : (sumI os).all okI = true := List.all_eq_true.2 fun i hi => (hok i hi).1
  have hallr : (sumI os).all (insRef (sumFs os) ⟨0, [], false, -1, sumI os⟩) = true := List.all_eq_true.2 fun i hi => (hok i hi).2
  have h2f : sumFs os = [⟨0, [], false, -1, sumI os⟩] := rfl
  refine verd_of ?_ ?_ ?_ ?_
  · simp only [okP, h2f, List.all_cons, List.all_nil, okF, hall]
    simp only [List.length_cons, List.length_nil, List.all_nil, Bool.and_true, Bool.and_eq_true, decide_eq_true_eq]
    refine ⟨⟨by omega, by omega⟩, ⟨⟨⟨⟨by omega, by omega⟩, by omega⟩, by omega⟩, by omega⟩, by omega⟩
  · simp only [bnd, h2f, List.all_cons, List.all_nil, bndF, Bool.and_true, Bool.and_eq_true, decide_eq_true_eq]
    refine ⟨by show 1 ≤ 16; omega, ⟨⟨by omega, by simp⟩, by omega⟩⟩
  · rw [refB, Bool.and_eq_true]
    refine ⟨rfl, ?_⟩
    have hf0 : fnRef (sumFs os) ⟨0, [], false, -1, sumI os⟩ = true := by
      unfold fnRef
      rw [hallr]
      rfl
    show (fnRef (sumFs os) ⟨0, [], false, -1, sumI os⟩ && true) = true
    rw [hf0]
    rfl
  · intro f hf
    simp only [sumFs, List.mem_cons, List.not_mem_nil, or_false] at hf
    subst hf
    refine ⟨sumA os.length, rfl, fun a s h => ?_⟩
    rcases sumA_some h with ⟨rfl, rfl⟩ | ⟨h0, h1, ⟨h2, rfl⟩ | ⟨h2, rfl⟩⟩
    · refine ⟨by decide, ⟨1, 0, 0⟩, [0], rfl, rfl, fun b hb => ?_⟩
      simp [succK] at hb
      subst hb
      exact sumA_odd (by omega) rfl
    · obtain ⟨j, rfl⟩ : ∃ j, a = 1 + 2 * j := ⟨a / 2, by omega⟩
      rcases Nat.lt_or_ge j os.length with hj | hj
      · obtain ⟨e1, _⟩ := sum_at (List.getElem?_eq_getElem hj)
        refine ⟨by decide, _, [0, 0], e1, rfl, fun b hb => ?_⟩
        simp [succK] at hb
        subst hb
        exact sumA_even (by omega) (by omega) (by omega)
      · obtain rfl : j = os.length := by omega
        refine ⟨by decide, _, [], sum_last os, rfl, fun b hb => ?_⟩
        simp [succK] at hb
    · obtain ⟨j, rfl⟩ : ∃ j, a = 2 + 2 * j := ⟨a / 2 - 1, by omega⟩
      have hj : j < os.length := by omega
      obtain ⟨_, e1⟩ := sum_at (List.getElem?_eq_getElem hj)
      have hoo := ho os[j] (List.getElem_mem hj)
      obtain ⟨o, hoe⟩ : ∃ o, os[j] = o := ⟨_, rfl⟩
      rw [hoe] at e1 hoo
      refine ⟨by decide, _, [0], e1, ?_, fun b hb => ?_⟩
      · rcases hoo with rfl | rfl | rfl | rfl <;> rfl
      · have hb' : b = 2 + 2 * j + 1 := by
          rcases hoo with rfl | rfl | rfl | rfl <;> simpa [succK] using hb
        subst hb'
        exact sumA_odd (by omega) (by omega)
section
variable {os tape : List Int} {E : List (Int × Int)} {j : Nat}
def sumS (os tape : List Int) (j : Nat) (E : List (Int × Int)) : Mc := ⟨tape.drop j, E, [⟨0, 0, 1 + 2 * j, 0, [sumV tape os j], [], 0⟩], [], [], 0, 0, 0, 0, 1 + 2 * j, 1, 0, 0⟩
theorem sum_pair (hj : j < os.length) (ho : ∀ o ∈ os, sumO o) : ∃ E', Steps (sumFs os) 2 (sumS os tape j E) (sumS os tape (j + 1) E') := by
  obtain ⟨h1, h2⟩ := sum_at (List.getElem?_eq_getElem hj)
  have hoo := ho os[j] (List.getElem_mem hj)
  have hg : os.getD j 0 = os[j] := by rw [List.getD_eq_getElem?_getD, List.getElem?_eq_getElem hj]; rfl
  have ht : (tape.drop j).headD 0 = tape.getD j 0 := by rw [List.headD_eq_head?_getD, List.head?_drop, List.getD_eq_getElem?_getD]
  have htl : (tape.drop j).tail = tape.drop (j + 1) := by rw [List.tail_drop]
  have hv : sumV tape os (j + 1) = doV os[j] (sumV tape os j) (tape.getD j 0) := by rw [sumV, hg]
  obtain ⟨o, hoe⟩ : ∃ o, os[j] = o := ⟨_, rfl⟩
  obtain ⟨v, hve⟩ : ∃ v, tape.getD j 0 = v := ⟨_, rfl⟩
  rw [hve] at ht hv
  rw [hoe] at h2 hoo hv
  have a1 : step (sumFs os) (sumS os tape j E) = some ⟨tape.drop (j + 1), E ++ [(2, v)], [⟨0, 0, 2 + 2 * j, 0, [v, sumV tape os j], [], 0⟩], [], [], 0, 0, 0, 0, 2 + 2 * j, 1, 0, 0⟩ :=
    step_plain (i := ⟨28, 0, 0⟩) rfl (by show (0 : Int) ≤ 1 + 2 * j; omega) (by show (sumI os)[(1 + 2 * (j : Int)).toNat]? = _; rw [show (1 + 2 * (j : Int)).toNat = 1 + 2 * j by omega]; exact h1) (by
      simp only [exec, sumS, ht, htl]
      rw [if_neg (by decide), if_neg (by decide), if_neg (by decide), if_neg (by decide), if_neg (by decide), if_neg (by decide), if_neg (by decide), if_neg (by decide), if_neg (by decide), if_neg (by decide), if_neg (by decide), if_neg (by decide), if_neg (by decide), if_pos trivial]
      simp only [Mc.top, Fr.push]
      rw [show (1 : Int) + 2 * (j : Int) + 1 = 2 + 2 * j by omega, show 1 + 2 * j + 1 = 2 + 2 * j by omega]) (by simp)
  have a2 : step (sumFs os) ⟨tape.drop (j + 1), E ++ [(2, v)], [⟨0, 0, 2 + 2 * j, 0, [v, sumV tape os j], [], 0⟩], [], [], 0, 0, 0, 0, 2 + 2 * j, 1, 0, 0⟩ = some (sumS os tape (j + 1) (E ++ [(2, v)])) :=
    step_plain (i := ⟨o, 0, 0⟩) rfl (by show (0 : Int) ≤ 2 + 2 * j; omega) (by show (sumI os)[(2 + 2 * (j : Int)).toNat]? = _; rw [show (2 + 2 * (j : Int)).toNat = 2 + 2 * j by omega]; exact h2) (by
      have hE : doE o v = 0 := by unfold doE; rw [if_neg (by rcases hoo with rfl | rfl | rfl | rfl <;> omega)]
      have h7 : 7 ≤ o ∧ o ≤ 20 := by rcases hoo with rfl | rfl | rfl | rfl <;> omega
      simp only [exec, sumS, hv]
      rw [if_neg (by omega), if_neg (by omega), if_neg (by omega), if_neg (by omega), if_neg (by omega), if_neg (by omega), if_neg (by omega), if_neg (by omega), if_neg (by omega), if_neg (by omega), if_neg (by omega), if_neg (by omega), if_neg (by omega), if_neg (by omega), if_neg (by omega), if_neg (by omega), if_neg (by omega), if_neg (by omega), if_pos h7, if_pos hE]
      simp only [Mc.top]
      rw [show (2 : Int) + 2 * (j : Int) + 1 = 1 + 2 * ((j + 1 : Nat) : Int) by omega, show 2 + 2 * j + 1 = 1 + 2 * (j + 1) by omega]) (by simp [sumS])
  exact ⟨_, by show (0 : Int) ≠ 3; decide, _, a1, by show (0 : Int) ≠ 3; decide, _, a2, rfl⟩
theorem sum_down (ho : ∀ o ∈ os, sumO o) : ∀ j, j ≤ os.length → ∃ E, Steps (sumFs os) (1 + 2 * j) (start (sumFs os) tape) (sumS os tape j E)
  | 0, _ => by
    have h0 : step (sumFs os) (start (sumFs os) tape) = some (sumS os tape 0 []) :=
      step_plain (i := ⟨1, 0, 0⟩) rfl (by show (0 : Int) ≤ 0; decide) rfl (by simp [exec, start, Mc.begin, Mc.top, Fr.push, locals, sumFs_0, sumS, sumV]) (by simp [sumS])
    exact ⟨[], Steps.one (by show (0 : Int) ≠ 3; decide) h0⟩
  | j + 1, hj => by
    obtain ⟨E, h⟩ := sum_down ho j (by omega)
    obtain ⟨E', h'⟩ := sum_pair (tape := tape) (E := E) (show j < os.length by omega) ho
    exact ⟨E', h.trans h'⟩
theorem sum_all (ho : ∀ o ∈ os, sumO o) : ∃ x, Steps (sumFs os) (2 * os.length + 2) (start (sumFs os) tape) x ∧ x.doing = 3 ∧ x.endk = 1 ∧ x.endv = sumV tape os os.length ∧ x.steps = 2 * os.length + 2 := by
  obtain ⟨E, h⟩ := sum_down (tape := tape) ho os.length (Nat.le_refl _)
  have h1 : step (sumFs os) (sumS os tape os.length E) = some ⟨tape.drop os.length, E, [⟨0, 0, 2 + 2 * os.length, 0, [], [], 0⟩], [], [], 0, 3, 1, sumV tape os os.length, 2 * os.length + 2, 1, 0, 0⟩ :=
    step_plain (i := ⟨30, 0, 0⟩) rfl (by show (0 : Int) ≤ 1 + 2 * os.length; omega) (by show (sumI os)[(1 + 2 * (os.length : Int)).toNat]? = _; rw [show (1 + 2 * (os.length : Int)).toNat = 1 + 2 * os.length by omega]; exact sum_last os) (by
      simp only [exec, sumS]
      rw [if_neg (by decide), if_neg (by decide), if_neg (by decide), if_neg (by decide), if_neg (by decide), if_neg (by decide), if_neg (by decide), if_neg (by decide), if_neg (by decide), if_neg (by decide), if_neg (by decide), if_neg (by decide), if_neg (by decide), if_neg (by decide), if_neg (by decide), if_pos trivial]
      simp only [Mc.top, Mc.over]
      rw [show (1 : Int) + 2 * (os.length : Int) + 1 = 2 + 2 * os.length by omega, show 1 + 2 * os.length + 1 = 2 * os.length + 2 by omega]) (by simp)
  refine ⟨_, by rw [show 2 * os.length + 2 = 1 + 2 * os.length + 1 by omega]; exact h.trans (Steps.one (by show (0 : Int) ≠ 3; decide) h1), rfl, rfl, rfl, rfl⟩
end
end Go.Proofs.Ytdoabcmfblmklaa

/-
  Package sem: a program of two functions, the first one's code built up; rows of words cut; an ending's call.
-/
namespace Go.Proofs.Ytdoabcmfblmklaa
set_option linter.unusedVariables false
set_option linter.unusedSimpArgs false
open Go.ChangeShapes Go.WideShapes Go.ChangeAt Go.RowKit

def twoRs (main cf : List Ins) (A : Option Addr) (c g : Nat) : List Raw := [⟨⟨0, [], false, -1, main⟩, none, 0, A, c⟩, ⟨⟨1, [0], false, -1, cf⟩, some ⟨g, 0, none⟩, 1, some ⟨g + 1, 0, none⟩, cf.length⟩]
def twoW (W : World) (cf : List Ins) (A : Option Addr) (N c m : Nat) : World :=
  ((W.alloc (.cells #[.int .u8 0] 47)).alloc (.cells (insc cf).toArray 43)).alloc (.cells #[.int .i64 0, .slice none 0 0, .bool false, .int .i64 (-1), .slice A N c, .int .i64 1, .slice (some ⟨W.heap.size, 0, none⟩) 1 1, .bool false, .int .i64 (-1), .slice (some ⟨W.heap.size + 1, 0, none⟩) m m] 46)
theorem twoW_size (W : World) (cf : List Ins) (A : Option Addr) (N c m : Nat) : (twoW W cf A N c m).heap.size = W.heap.size + 3 := by simp [twoW]
theorem twoW_below (W : World) (cf : List Ins) (A : Option Addr) (N c m : Nat) : Below W.heap.size W (twoW W cf A N c m) :=
  (((Below.refl _ _).alloc (Nat.le_refl _) _).alloc (by simp) _).alloc (by simp; omega) _
theorem lit_two2 (W : World) (main cf : List Ins) (A : Option Addr) (N c m : Nat) (hN : N = main.length) (hN1 : N ≤ 1000) (hm : m = cf.length) (hm1 : m ≤ 1000) (hR : Reads W W.heap.size 3 A N (insc main)) (hw : ∀ i ∈ main, WfI i) (hw2 : ∀ i ∈ cf, WfI i) :
    RdP (twoW W cf A N c m) (W.heap.size + 3) (some ⟨W.heap.size + 2, 0, none⟩) 2 (twoRs main cf A c W.heap.size) := by
  subst hN hm
  have hb := Blk.new ((W.alloc (.cells #[.int .u8 0] 47)).alloc (.cells (insc cf).toArray 43)) 46 (rawc (twoRs main cf A c W.heap.size)).toArray
  rw [show ((W.alloc (.cells #[.int .u8 0] 47)).alloc (.cells (insc cf).toArray 43)).heap.size = W.heap.size + 2 by simp] at hb
  have hb' : Blk (twoW W cf A main.length c cf.length) (W.heap.size + 2) 46 (rawc (twoRs main cf A c W.heap.size)).toArray := hb
  have h0 : Blk (twoW W cf A main.length c cf.length) W.heap.size 47 (u8c [0]).toArray := ((Blk.new W _ _).alloc _).alloc _
  have h1 : Blk (twoW W cf A main.length c cf.length) (W.heap.size + 1) 43 (insc cf).toArray := (blk_second _ _ _ _ _).alloc _
  have h2 : Reads (twoW W cf A main.length c cf.length) W.heap.size 3 A main.length (insc main) := hR.below (twoW_below W cf A main.length c cf.length)
  have h := lit_rs (n := 2) (rs := twoRs main cf A c W.heap.size) hb' rfl (by omega) (fun r hr => by
    simp only [twoRs, List.mem_cons, List.not_mem_nil, or_false] at hr
    rcases hr with rfl | rfl
    · exact ⟨Reads.none_, h2.more (by rw [twoW_size]; omega), Nat.le_refl _⟩
    · exact ⟨reads_blk h0 rfl, reads_blk h1 (length_insc _), Nat.le_refl _⟩) (fun r hr => by
    simp only [twoRs, List.mem_cons, List.not_mem_nil, or_false] at hr
    rcases hr with rfl | rfl
    · exact wff_0 hw hN1
    · exact wff_1 hw2 hm1)
  rw [twoW_size] at h
  exact h
theorem insc_app (a b : List Ins) : insc a ++ insc b = insc (a ++ b) := by simp [insc]
theorem lit_reads (W : World) (is : List Ins) (m : Nat) (hm : is.length = m) : Reads (W.alloc (.cells (insc is).toArray 43)) (W.heap.size + 1) 3 (some ⟨W.heap.size, 0, none⟩) m (insc is) := by
  have h := reads_blk (n := m) (size := 3) (Blk.new W 43 (insc is).toArray) (by rw [length_insc, hm])
  rw [show (W.alloc (.cells (insc is).toArray 43)).heap.size = W.heap.size + 1 by simp] at h
  exact h
theorem Reads.takeU {w : World} {B n m : Nat} {A : Option Addr} {l : List Int} (h : Reads w B 1 A n (u64c l)) (hm : m ≤ n) : Reads w B 1 A m (u64c (l.take m)) ∧ (l.take m).length = m := by
  have h1 := h.1
  have hl : (u64c l).length = l.length := by simp [u64c]
  rw [hl] at h1
  refine ⟨⟨by simp [u64c]; omega, fun h0 => ?_⟩, by rw [List.length_take]; omega⟩
  obtain ⟨ad, rfl, hb, hc⟩ := h.2 (by omega)
  refine ⟨ad, rfl, hb, fun j u hu => hc j u ?_⟩
  rw [← u64c_take, List.getElem?_take] at hu
  split at hu
  · exact hu
  · cases hu
theorem Reads.word {w : World} {B n : Nat} {A : Option Addr} {l : List Int} (h : Reads w B 1 A n (u64c l)) {k : Nat} (hk : k < n) : ∃ b off x, A = some ⟨b, off, none⟩ ∧ b < B ∧ Hid (l[k]? = some x) ∧ w.cell? ⟨b, off + k, none⟩ = some (.int .u64 x) := by
  obtain ⟨b, off, rfl, hb, hc⟩ := h.lit (by omega) (by omega)
  have h1 := h.1
  have hl : (u64c l).length = l.length := by simp [u64c]
  rw [hl] at h1
  have hkl : k < l.length := by omega
  exact ⟨b, off, l[k], rfl, hb, List.getElem?_eq_getElem hkl, hc _ _ (u64c_at (List.getElem?_eq_getElem hkl))⟩
end Go.Proofs.Ytdoabcmfblmklaa

/-
  SemSums: the walk.
-/
namespace Go.Proofs.Ytdoabcmfblmklaa
set_option linter.unusedVariables false
set_option linter.unusedSimpArgs false
open Go.ChangeShapes Go.WideShapes Go.ChangeAt Go.RowKit

theorem sumV_app (tape os l : List Int) : ∀ k, k ≤ os.length → sumV tape (os ++ l) k = sumV tape os k
  | 0, _ => rfl
  | k + 1, hk => by
    have hg : (os ++ l).getD k 0 = os.getD k 0 := by
      simp only [List.getD_eq_getElem?_getD]
      rw [List.getElem?_append_left (by omega)]
    rw [sumV, sumV, sumV_app tape os l k (by omega), hg]
theorem sumV_more (tape os : List Int) (o : Int) {j : Nat} (hl : os.length = j) : sumV tape (os ++ [o]) (j + 1) = doV o (sumV tape os j) (tape.getD j 0) := by
  subst hl
  rw [sumV, sumV_app _ _ _ _ (Nat.le_refl _)]
  congr 1
  rw [List.getD_eq_getElem?_getD, List.getElem?_append_right (Nat.le_refl _), Nat.sub_self]
  rfl
theorem sumB_more (os : List Int) (o : Int) : insc (sumB os) ++ insc [⟨28, 0, 0⟩, ⟨o, 0, 0⟩] = insc (sumB (os ++ [o])) := by
  rw [insc_app]
  congr 1
  simp [sumB]
theorem os_more {os : List Int} {j N : Nat} {o : Int} (h : os.length = j ∧ (∀ o ∈ os, sumO o) ∧ j ≤ 60 ∧ N = 1 + 2 * j) (hj : j < 60) (ho : sumO o) : (os ++ [o]).length = j + 1 ∧ (∀ x ∈ os ++ [o], sumO x) ∧ j + 1 ≤ 60 ∧ N + 2 = 1 + 2 * (j + 1) := by
  obtain ⟨h1, h2, h3, h4⟩ := h
  refine ⟨by rw [List.length_append, h1]; rfl, fun x hx => ?_, by omega, by omega⟩
  rcases List.mem_append.1 hx with hx | hx
  · exact h2 x hx
  · rw [List.mem_singleton.1 hx]
    exact ho
theorem wf_sum {os : List Int} (ho : ∀ o ∈ os, sumO o) : ∀ i ∈ sumI os, WfI i := by
  intro i hi
  rcases sum_mem hi with rfl | rfl | rfl | ⟨o, h1, rfl⟩
  · exact wf_small (by decide)
  · exact wf_small (by decide)
  · exact wf_small (by decide)
  · rcases ho o h1 with rfl | rfl | rfl | rfl <;> exact wf_small (by decide)
def oneRs (main : List Ins) (A : Option Addr) (c : Nat) : List Raw := [⟨⟨0, [], false, -1, main⟩, none, 0, A, c⟩]
theorem lit_one (W : World) (main : List Ins) (A : Option Addr) (N c : Nat) (hN : N = main.length) (hN1 : N ≤ 1000) (hR : Reads W W.heap.size 3 A N (insc main)) (hw : ∀ i ∈ main, WfI i) :
    RdP (W.alloc (.cells #[.int .i64 0, .slice none 0 0, .bool false, .int .i64 (-1), .slice A N c] 46)) (W.heap.size + 1) (some ⟨W.heap.size, 0, none⟩) 1 (oneRs main A c) := by
  subst hN
  have hb := Blk.new W 46 (rawc (oneRs main A c)).toArray
  have h := lit_rs (n := 1) (rs := oneRs main A c) hb rfl (by omega) (fun r hr => by
    simp only [oneRs, List.mem_cons, List.not_mem_nil, or_false] at hr
    subst hr
    exact ⟨Reads.none_, (hR.alloc (Nat.le_refl _) _).more (by simp), Nat.le_refl _⟩) (fun r hr => by
    simp only [oneRs, List.mem_cons, List.not_mem_nil, or_false] at hr
    subst hr
    exact wff_0 hw hN1)
  rw [show (W.alloc (.cells (rawc (oneRs main A c)).toArray 46)).heap.size = W.heap.size + 1 by simp] at h
  exact h
def SumPost (w1 : World) (z : Int) (s : Nat) (e : Ending) (w' : World) : Prop := ∃ A n c d1 d2 d3, e = .returned (.tuple #[.agg #[.slice A n c, .int .i64 1, .int .u64 z, .int .i64 (s : Nat), .int .i64 d1, .int .i64 d2, .int .i64 d3], .int .i64 0]) ∧ Hid (Below w1.heap.size w1 w')
theorem sum_run (W : World) (os tape : List Int) (j N c n0 c0 s : Nat) (A A0 : Option Addr) (hl : os.length = j) (hj : j ≤ 60) (ho : ∀ o ∈ os, sumO o) (hN : N = (sumI os).length) (hR : Reads W W.heap.size 3 A N (insc (sumI os))) (ht : Reads W W.heap.size 1 A0 n0 (u64c tape)) (hn0 : n0 * 8 ≤ 140737488351232) (htw : ∀ v ∈ tape, isW v) (hs : s = 2 * j + 2) :
    Calls Try.prog 9 #[.agg #[.slice (some ⟨W.heap.size, 0, none⟩) 1 1], .slice A0 n0 c0, .int .i64 1000] (W.alloc (.cells #[.int .i64 0, .slice none 0 0, .bool false, .int .i64 (-1), .slice A N c] 46)) (SumPost W (sumV tape os j) s) := by
  subst hl
  have hN1 : N ≤ 1000 := by rw [hN, sumI, List.length_append, length_sumB]; simp; omega
  have hL := lit_one W (sumI os) A N c hN hN1 hR (wf_sum ho)
  refine (run_full (W.heap.size + 1) 1 1 _ _ A0 n0 c0 tape 1000 _ hL (by simp) ((ht.alloc (Nat.le_refl _) _).more (by omega)) hn0 htw (by omega)).mono ?_
  rintro e w' ⟨A', c', st, er, rfl, hra, hown, hb⟩
  obtain ⟨z, q1, q2, q3, q4, q5⟩ := sum_all (tape := tape) ho
  obtain ⟨rfl, rfl⟩ := hra.steps (verd_sum hj ho) q1 q2 (by omega)
  refine ⟨A', st.evs.length, c', st.depth, st.defers, st.maxp, ?_, Lib.hid (((Below.refl _ _).alloc (Nat.le_refl _) _).trans (hb.mono (by simp)))⟩
  rw [q3, q4, q5, hs]
set_option maxRecDepth 100000 in
set_option maxHeartbeats 25600000 in
theorem sum_walk (A0 : Option Addr) (n0 c0 : Nat) (tape : List Int) (A1 : Option Addr) (c1 : Nat) (bl : List Int) (w : World) (ht : Reads w w.heap.size 1 A0 n0 (u64c tape)) (hln : tape.length = n0) (hn0 : n0 ≤ c0) (hc0 : c0 * 8 ≤ 140737488351232) (htw : ∀ v ∈ tape, isW v) (hb1 : Reads w w.heap.size 1 A1 bl.length (u8c bl)) (hby : Byt bl) (hbl : bl.length ≤ 140737488351232) :
    Calls Try.prog 5 #[.slice A0 n0 c0, .slice A1 bl.length c1] w fun e w' => e = .returned (.bool true) ∧ Below w.heap.size w w' := by
  have HR := Lib.hid ht
  have HTW := Lib.hid htw
  have HLN := Lib.hid hln
  have HB := Lib.hid hb1
  have HBY := Lib.hid hby
  obtain ⟨n1, hn1⟩ : ∃ n1, n1 = bl.length := ⟨_, rfl⟩
  rw [← hn1] at HB hbl ⊢
  have HN1 := Lib.hid hn1
  have HNC : Hid (n0 * 8 ≤ 140737488351232) := Lib.hid (by omega)
  clear ht htw hln hb1 hby hn1
  go_enter Try.func5, Try.ntmps5
  go_wp2_with (go_at_call 8; refine (first6_any _).mono ?_; rintro e w1 ⟨rfl, hb1⟩; have HB1 := Lib.hid hb1; clear hb1; refine Hid.out ?_)
  have HO1 : Hid ((w1.alloc (.cells (insc [⟨1, 0, 0⟩]).toArray 43)).ownsRow w.heap.size 43 3 (.slice (some ⟨w1.heap.size, 0, none⟩) 1 1) 1 (insc (sumB []))) := Lib.hid ⟨rfl, .inr ⟨w1.heap.size, 1, _, rfl, HB1.out.size, heap_alloc_new w1 _, Nat.le_refl _, by unfold maxLen; omega, rfl, rfl⟩⟩
  have HW1 : Hid (Below w.heap.size w (w1.alloc (.cells (insc [⟨1, 0, 0⟩]).toArray 43))) := Lib.hid (HB1.out.alloc HB1.out.size _)
  refine Lib.hid ?_
  go_wp2
  go_loopw [5, 6, 19] (fun s z i wr => ∃ (j N : Nat) (A : Option Addr) (c : Nat) (zz : Int) (os : List Int), j ≤ n1 ∧ s = .slice A N c ∧ z = .int .u64 zz ∧ i = .int .i64 j ∧ Hid (os.length = j ∧ (∀ o ∈ os, sumO o) ∧ j ≤ 60 ∧ N = 1 + 2 * j) ∧ Hid (zz = sumV tape os j) ∧ Hid (wr.ownsRow w.heap.size 43 3 (.slice A N c) N (insc (sumB os))) ∧ Hid (Below w.heap.size w wr)) (fun _ _ i _ => n1 - (intOf i).toNat)
  case atStart => exact ⟨0, 1, _, 1, 0, [], Nat.zero_le _, rfl, rfl, rfl, Lib.hid ⟨rfl, fun o h => (by cases h), by omega, rfl⟩, Lib.hid rfl, HO1, HW1⟩
  case round =>
    clear HO1 HW1 HB1
    obtain ⟨j, N, A, c, zz, os, hj, rfl, rfl, rfl, HOS, HZ, HO, HW⟩ := hrel
    have hzr := HW.out.size
    by_cases hgo : j < n1 ∧ j < 60
    · obtain ⟨hlt, hlt6⟩ := hgo
      obtain ⟨b, off, hA1, hb, hcc⟩ := (HB.out.below HW.out).lit (by omega) (by decide)
      obtain ⟨x, hx⟩ : ∃ x, bl[j]? = some x := ⟨_, List.getElem?_eq_getElem (by rw [← HN1.out]; exact hlt)⟩
      have x1 := hcc j (.int .u8 x) (by simp [u8c, hx])
      obtain ⟨hx0, hx255⟩ := HBY.out x (List.mem_of_getElem? hx)
      subst hA1
      have hg6 : decide ((j : Int) ≥ 60) = false := by simp; omega
      have hg6' : decide (60 ≤ j) = false := by simp; omega
      have hN120 : N ≤ 121 := by have := HOS.out.2.2.2; omega
      clear hcc hx
      have hr4 : x % 4 = 0 ∨ x % 4 = 1 ∨ x % 4 = 2 ∨ x % 4 = 3 := by omega
      by_cases hjn : j < n0
      · obtain ⟨b2, o2, v, hA0, hb2, hv0, x2⟩ := (HR.out.below HW.out).word hjn
        subst hA0
        have HV : Hid (tape.getD j 0 = v) := Lib.hid (by rw [List.getD_eq_getElem?_getD, hv0.out]; rfl)
        clear hv0
        rcases hr4 with hr | hr | hr | hr
        · have HOA := Lib.hid (own_al (own_al HO.out (.cells #[.int .u8 7, .int .u8 14, .int .u8 9, .int .u8 8] 41)) (.cells (insc [⟨28, 0, 0⟩, ⟨7, 0, 0⟩]).toArray 43))
          have hsz : (wr.alloc (.cells #[.int .u8 7, .int .u8 14, .int .u8 9, .int .u8 8] 41)).heap.size = wr.heap.size + 1 := by simp
          have hrd := lit_reads (wr.alloc (.cells #[.int .u8 7, .int .u8 14, .int .u8 9, .int .u8 8] 41)) [⟨28, 0, 0⟩, ⟨7, 0, 0⟩] 2 rfl
          rw [hsz] at hrd
          have HRD := Lib.hid hrd
          have HB0 : Hid (Below w.heap.size w ((wr.alloc (.cells #[.int .u8 7, .int .u8 14, .int .u8 9, .int .u8 8] 41)).alloc (.cells (insc [⟨28, 0, 0⟩, ⟨7, 0, 0⟩]).toArray 43))) := Lib.hid ((HW.out.alloc hzr _).alloc (by rw [hsz]; omega) _)
          clear hrd hsz
          go_wp2_with (at_builtin; refine app_ins rfl _ _ rfl w.heap.size (.slice A N c) N (insc (sumB os)) rfl HOA.out (wr.heap.size + 1 + 1) (some ⟨wr.heap.size + 1, 0, none⟩) 2 2 (insc [⟨28, 0, 0⟩, ⟨7, 0, 0⟩]) rfl HRD.out (insc_one _) (by omega) (by simp; omega) ?_; intro v8 w8 hown hgr _; obtain ⟨A8, c8, rfl⟩ := own_slice hown; have hb8 : Below w.heap.size w w8 := HB0.out.grown hgr (by simp; omega) (fun q hq => (own_block_le HOA.out hq).1); have HB8 := Lib.hid hb8; rw [sumB_more] at hown; have HO8 := Lib.hid hown; clear hown hgr hb8; refine Hid.out ?_)
          refine Lib.hid ?_
          go_wp2
          go_roundw
          case rel => exact ⟨j + 1, N + 2, A8, c8, _, os ++ [7], by omega, rfl, rfl, by go_num, Lib.hid (os_more HOS.out hlt6 (by unfold sumO; omega)), Lib.hid (by rw [sumV_more tape os 7 HOS.out.1, ← HZ.out, HV.out]; first | rfl | (simp [doV, wadd, wsub, wmul, wxor]; done) | (simp [doV, wadd, wsub, wmul, wxor]; rfl)), HO8, HB8⟩
          case measure => simp [intOf]; omega
        · have HOA := Lib.hid (own_al (own_al HO.out (.cells #[.int .u8 7, .int .u8 14, .int .u8 9, .int .u8 8] 41)) (.cells (insc [⟨28, 0, 0⟩, ⟨14, 0, 0⟩]).toArray 43))
          have hsz : (wr.alloc (.cells #[.int .u8 7, .int .u8 14, .int .u8 9, .int .u8 8] 41)).heap.size = wr.heap.size + 1 := by simp
          have hrd := lit_reads (wr.alloc (.cells #[.int .u8 7, .int .u8 14, .int .u8 9, .int .u8 8] 41)) [⟨28, 0, 0⟩, ⟨14, 0, 0⟩] 2 rfl
          rw [hsz] at hrd
          have HRD := Lib.hid hrd
          have HB0 : Hid (Below w.heap.size w ((wr.alloc (.cells #[.int .u8 7, .int .u8 14, .int .u8 9, .int .u8 8] 41)).alloc (.cells (insc [⟨28, 0, 0⟩, ⟨14, 0, 0⟩]).toArray 43))) := Lib.hid ((HW.out.alloc hzr _).alloc (by rw [hsz]; omega) _)
          clear hrd hsz
          go_wp2_with (at_builtin; refine app_ins rfl _ _ rfl w.heap.size (.slice A N c) N (insc (sumB os)) rfl HOA.out (wr.heap.size + 1 + 1) (some ⟨wr.heap.size + 1, 0, none⟩) 2 2 (insc [⟨28, 0, 0⟩, ⟨14, 0, 0⟩]) rfl HRD.out (insc_one _) (by omega) (by simp; omega) ?_; intro v8 w8 hown hgr _; obtain ⟨A8, c8, rfl⟩ := own_slice hown; have hb8 : Below w.heap.size w w8 := HB0.out.grown hgr (by simp; omega) (fun q hq => (own_block_le HOA.out hq).1); have HB8 := Lib.hid hb8; rw [sumB_more] at hown; have HO8 := Lib.hid hown; clear hown hgr hb8; refine Hid.out ?_)
          refine Lib.hid ?_
          go_wp2
          go_roundw
          case rel => exact ⟨j + 1, N + 2, A8, c8, _, os ++ [14], by omega, rfl, rfl, by go_num, Lib.hid (os_more HOS.out hlt6 (by unfold sumO; omega)), Lib.hid (by rw [sumV_more tape os 14 HOS.out.1, ← HZ.out, HV.out]; first | rfl | (simp [doV, wadd, wsub, wmul, wxor]; done) | (simp [doV, wadd, wsub, wmul, wxor]; rfl)), HO8, HB8⟩
          case measure => simp [intOf]; omega
        · have HOA := Lib.hid (own_al (own_al HO.out (.cells #[.int .u8 7, .int .u8 14, .int .u8 9, .int .u8 8] 41)) (.cells (insc [⟨28, 0, 0⟩, ⟨9, 0, 0⟩]).toArray 43))
          have hsz : (wr.alloc (.cells #[.int .u8 7, .int .u8 14, .int .u8 9, .int .u8 8] 41)).heap.size = wr.heap.size + 1 := by simp
          have hrd := lit_reads (wr.alloc (.cells #[.int .u8 7, .int .u8 14, .int .u8 9, .int .u8 8] 41)) [⟨28, 0, 0⟩, ⟨9, 0, 0⟩] 2 rfl
          rw [hsz] at hrd
          have HRD := Lib.hid hrd
          have HB0 : Hid (Below w.heap.size w ((wr.alloc (.cells #[.int .u8 7, .int .u8 14, .int .u8 9, .int .u8 8] 41)).alloc (.cells (insc [⟨28, 0, 0⟩, ⟨9, 0, 0⟩]).toArray 43))) := Lib.hid ((HW.out.alloc hzr _).alloc (by rw [hsz]; omega) _)
          clear hrd hsz
          go_wp2_with (at_builtin; refine app_ins rfl _ _ rfl w.heap.size (.slice A N c) N (insc (sumB os)) rfl HOA.out (wr.heap.size + 1 + 1) (some ⟨wr.heap.size + 1, 0, none⟩) 2 2 (insc [⟨28, 0, 0⟩, ⟨9, 0, 0⟩]) rfl HRD.out (insc_one _) (by omega) (by simp; omega) ?_; intro v8 w8 hown hgr _; obtain ⟨A8, c8, rfl⟩ := own_slice hown; have hb8 : Below w.heap.size w w8 := HB0.out.grown hgr (by simp; omega) (fun q hq => (own_block_le HOA.out hq).1); have HB8 := Lib.hid hb8; rw [sumB_more] at hown; have HO8 := Lib.hid hown; clear hown hgr hb8; refine Hid.out ?_)
          refine Lib.hid ?_
          go_wp2
          go_roundw
          case rel => exact ⟨j + 1, N + 2, A8, c8, _, os ++ [9], by omega, rfl, rfl, by go_num, Lib.hid (os_more HOS.out hlt6 (by unfold sumO; omega)), Lib.hid (by rw [sumV_more tape os 9 HOS.out.1, ← HZ.out, HV.out]; first | rfl | (simp [doV, wadd, wsub, wmul, wxor]; done) | (simp [doV, wadd, wsub, wmul, wxor]; rfl)), HO8, HB8⟩
          case measure => simp [intOf]; omega
        · have HOA := Lib.hid (own_al (own_al HO.out (.cells #[.int .u8 7, .int .u8 14, .int .u8 9, .int .u8 8] 41)) (.cells (insc [⟨28, 0, 0⟩, ⟨8, 0, 0⟩]).toArray 43))
          have hsz : (wr.alloc (.cells #[.int .u8 7, .int .u8 14, .int .u8 9, .int .u8 8] 41)).heap.size = wr.heap.size + 1 := by simp
          have hrd := lit_reads (wr.alloc (.cells #[.int .u8 7, .int .u8 14, .int .u8 9, .int .u8 8] 41)) [⟨28, 0, 0⟩, ⟨8, 0, 0⟩] 2 rfl
          rw [hsz] at hrd
          have HRD := Lib.hid hrd
          have HB0 : Hid (Below w.heap.size w ((wr.alloc (.cells #[.int .u8 7, .int .u8 14, .int .u8 9, .int .u8 8] 41)).alloc (.cells (insc [⟨28, 0, 0⟩, ⟨8, 0, 0⟩]).toArray 43))) := Lib.hid ((HW.out.alloc hzr _).alloc (by rw [hsz]; omega) _)
          clear hrd hsz
          go_wp2_with (at_builtin; refine app_ins rfl _ _ rfl w.heap.size (.slice A N c) N (insc (sumB os)) rfl HOA.out (wr.heap.size + 1 + 1) (some ⟨wr.heap.size + 1, 0, none⟩) 2 2 (insc [⟨28, 0, 0⟩, ⟨8, 0, 0⟩]) rfl HRD.out (insc_one _) (by omega) (by simp; omega) ?_; intro v8 w8 hown hgr _; obtain ⟨A8, c8, rfl⟩ := own_slice hown; have hb8 : Below w.heap.size w w8 := HB0.out.grown hgr (by simp; omega) (fun q hq => (own_block_le HOA.out hq).1); have HB8 := Lib.hid hb8; rw [sumB_more] at hown; have HO8 := Lib.hid hown; clear hown hgr hb8; refine Hid.out ?_)
          refine Lib.hid ?_
          go_wp2
          go_roundw
          case rel => exact ⟨j + 1, N + 2, A8, c8, _, os ++ [8], by omega, rfl, rfl, by go_num, Lib.hid (os_more HOS.out hlt6 (by unfold sumO; omega)), Lib.hid (by rw [sumV_more tape os 8 HOS.out.1, ← HZ.out, HV.out]; first | rfl | (simp [doV, wadd, wsub, wmul, wxor]; done) | (simp [doV, wadd, wsub, wmul, wxor]; rfl)), HO8, HB8⟩
          case measure => simp [intOf]; omega
      · have HV : Hid (tape.getD j 0 = 0) := Lib.hid (by rw [List.getD_eq_getElem?_getD, List.getElem?_eq_none (by rw [HLN.out]; omega)]; rfl)
        rcases hr4 with hr | hr | hr | hr
        · have HOA := Lib.hid (own_al (own_al HO.out (.cells #[.int .u8 7, .int .u8 14, .int .u8 9, .int .u8 8] 41)) (.cells (insc [⟨28, 0, 0⟩, ⟨7, 0, 0⟩]).toArray 43))
          have hsz : (wr.alloc (.cells #[.int .u8 7, .int .u8 14, .int .u8 9, .int .u8 8] 41)).heap.size = wr.heap.size + 1 := by simp
          have hrd := lit_reads (wr.alloc (.cells #[.int .u8 7, .int .u8 14, .int .u8 9, .int .u8 8] 41)) [⟨28, 0, 0⟩, ⟨7, 0, 0⟩] 2 rfl
          rw [hsz] at hrd
          have HRD := Lib.hid hrd
          have HB0 : Hid (Below w.heap.size w ((wr.alloc (.cells #[.int .u8 7, .int .u8 14, .int .u8 9, .int .u8 8] 41)).alloc (.cells (insc [⟨28, 0, 0⟩, ⟨7, 0, 0⟩]).toArray 43))) := Lib.hid ((HW.out.alloc hzr _).alloc (by rw [hsz]; omega) _)
          clear hrd hsz
          go_wp2_with (at_builtin; refine app_ins rfl _ _ rfl w.heap.size (.slice A N c) N (insc (sumB os)) rfl HOA.out (wr.heap.size + 1 + 1) (some ⟨wr.heap.size + 1, 0, none⟩) 2 2 (insc [⟨28, 0, 0⟩, ⟨7, 0, 0⟩]) rfl HRD.out (insc_one _) (by omega) (by simp; omega) ?_; intro v8 w8 hown hgr _; obtain ⟨A8, c8, rfl⟩ := own_slice hown; have hb8 : Below w.heap.size w w8 := HB0.out.grown hgr (by simp; omega) (fun q hq => (own_block_le HOA.out hq).1); have HB8 := Lib.hid hb8; rw [sumB_more] at hown; have HO8 := Lib.hid hown; clear hown hgr hb8; refine Hid.out ?_)
          refine Lib.hid ?_
          go_wp2
          go_roundw
          case rel => exact ⟨j + 1, N + 2, A8, c8, _, os ++ [7], by omega, rfl, rfl, by go_num, Lib.hid (os_more HOS.out hlt6 (by unfold sumO; omega)), Lib.hid (by rw [sumV_more tape os 7 HOS.out.1, ← HZ.out, HV.out]; first | rfl | (simp [doV, wadd, wsub, wmul, wxor]; done) | (simp [doV, wadd, wsub, wmul, wxor]; rfl)), HO8, HB8⟩
          case measure => simp [intOf]; omega
        · have HOA := Lib.hid (own_al (own_al HO.out (.cells #[.int .u8 7, .int .u8 14, .int .u8 9, .int .u8 8] 41)) (.cells (insc [⟨28, 0, 0⟩, ⟨14, 0, 0⟩]).toArray 43))
          have hsz : (wr.alloc (.cells #[.int .u8 7, .int .u8 14, .int .u8 9, .int .u8 8] 41)).heap.size = wr.heap.size + 1 := by simp
          have hrd := lit_reads (wr.alloc (.cells #[.int .u8 7, .int .u8 14, .int .u8 9, .int .u8 8] 41)) [⟨28, 0, 0⟩, ⟨14, 0, 0⟩] 2 rfl
          rw [hsz] at hrd
          have HRD := Lib.hid hrd
          have HB0 : Hid (Below w.heap.size w ((wr.alloc (.cells #[.int .u8 7, .int .u8 14, .int .u8 9, .int .u8 8] 41)).alloc (.cells (insc [⟨28, 0, 0⟩, ⟨14, 0, 0⟩]).toArray 43))) := Lib.hid ((HW.out.alloc hzr _).alloc (by rw [hsz]; omega) _)
          clear hrd hsz
          go_wp2_with (at_builtin; refine app_ins rfl _ _ rfl w.heap.size (.slice A N c) N (insc (sumB os)) rfl HOA.out (wr.heap.size + 1 + 1) (some ⟨wr.heap.size + 1, 0, none⟩) 2 2 (insc [⟨28, 0, 0⟩, ⟨14, 0, 0⟩]) rfl HRD.out (insc_one _) (by omega) (by simp; omega) ?_; intro v8 w8 hown hgr _; obtain ⟨A8, c8, rfl⟩ := own_slice hown; have hb8 : Below w.heap.size w w8 := HB0.out.grown hgr (by simp; omega) (fun q hq => (own_block_le HOA.out hq).1); have HB8 := Lib.hid hb8; rw [sumB_more] at hown; have HO8 := Lib.hid hown; clear hown hgr hb8; refine Hid.out ?_)
          refine Lib.hid ?_
          go_wp2
          go_roundw
          case rel => exact ⟨j + 1, N + 2, A8, c8, _, os ++ [14], by omega, rfl, rfl, by go_num, Lib.hid (os_more HOS.out hlt6 (by unfold sumO; omega)), Lib.hid (by rw [sumV_more tape os 14 HOS.out.1, ← HZ.out, HV.out]; first | rfl | (simp [doV, wadd, wsub, wmul, wxor]; done) | (simp [doV, wadd, wsub, wmul, wxor]; rfl)), HO8, HB8⟩
          case measure => simp [intOf]; omega
        · have HOA := Lib.hid (own_al (own_al HO.out (.cells #[.int .u8 7, .int .u8 14, .int .u8 9, .int .u8 8] 41)) (.cells (insc [⟨28, 0, 0⟩, ⟨9, 0, 0⟩]).toArray 43))
          have hsz : (wr.alloc (.cells #[.int .u8 7, .int .u8 14, .int .u8 9, .int .u8 8] 41)).heap.size = wr.heap.size + 1 := by simp
          have hrd := lit_reads (wr.alloc (.cells #[.int .u8 7, .int .u8 14, .int .u8 9, .int .u8 8] 41)) [⟨28, 0, 0⟩, ⟨9, 0, 0⟩] 2 rfl
          rw [hsz] at hrd
          have HRD := Lib.hid hrd
          have HB0 : Hid (Below w.heap.size w ((wr.alloc (.cells #[.int .u8 7, .int .u8 14, .int .u8 9, .int .u8 8] 41)).alloc (.cells (insc [⟨28, 0, 0⟩, ⟨9, 0, 0⟩]).toArray 43))) := Lib.hid ((HW.out.alloc hzr _).alloc (by rw [hsz]; omega) _)
          clear hrd hsz
          go_wp2_with (at_builtin; refine app_ins rfl _ _ rfl w.heap.size (.slice A N c) N (insc (sumB os)) rfl HOA.out (wr.heap.size + 1 + 1) (some ⟨wr.heap.size + 1, 0, none⟩) 2 2 (insc [⟨28, 0, 0⟩, ⟨9, 0, 0⟩]) rfl HRD.out (insc_one _) (by omega) (by simp; omega) ?_; intro v8 w8 hown hgr _; obtain ⟨A8, c8, rfl⟩ := own_slice hown; have hb8 : Below w.heap.size w w8 := HB0.out.grown hgr (by simp; omega) (fun q hq => (own_block_le HOA.out hq).1); have HB8 := Lib.hid hb8; rw [sumB_more] at hown; have HO8 := Lib.hid hown; clear hown hgr hb8; refine Hid.out ?_)
          refine Lib.hid ?_
          go_wp2
          go_roundw
          case rel => exact ⟨j + 1, N + 2, A8, c8, _, os ++ [9], by omega, rfl, rfl, by go_num, Lib.hid (os_more HOS.out hlt6 (by unfold sumO; omega)), Lib.hid (by rw [sumV_more tape os 9 HOS.out.1, ← HZ.out, HV.out]; first | rfl | (simp [doV, wadd, wsub, wmul, wxor]; done) | (simp [doV, wadd, wsub, wmul, wxor]; rfl)), HO8, HB8⟩
          case measure => simp [intOf]; omega
        · have HOA := Lib.hid (own_al (own_al HO.out (.cells #[.int .u8 7, .int .u8 14, .int .u8 9, .int .u8 8] 41)) (.cells (insc [⟨28, 0, 0⟩, ⟨8, 0, 0⟩]).toArray 43))
          have hsz : (wr.alloc (.cells #[.int .u8 7, .int .u8 14, .int .u8 9, .int .u8 8] 41)).heap.size = wr.heap.size + 1 := by simp
          have hrd := lit_reads (wr.alloc (.cells #[.int .u8 7, .int .u8 14, .int .u8 9, .int .u8 8] 41)) [⟨28, 0, 0⟩, ⟨8, 0, 0⟩] 2 rfl
          rw [hsz] at hrd
          have HRD := Lib.hid hrd
          have HB0 : Hid (Below w.heap.size w ((wr.alloc (.cells #[.int .u8 7, .int .u8 14, .int .u8 9, .int .u8 8] 41)).alloc (.cells (insc [⟨28, 0, 0⟩, ⟨8, 0, 0⟩]).toArray 43))) := Lib.hid ((HW.out.alloc hzr _).alloc (by rw [hsz]; omega) _)
          clear hrd hsz
          go_wp2_with (at_builtin; refine app_ins rfl _ _ rfl w.heap.size (.slice A N c) N (insc (sumB os)) rfl HOA.out (wr.heap.size + 1 + 1) (some ⟨wr.heap.size + 1, 0, none⟩) 2 2 (insc [⟨28, 0, 0⟩, ⟨8, 0, 0⟩]) rfl HRD.out (insc_one _) (by omega) (by simp; omega) ?_; intro v8 w8 hown hgr _; obtain ⟨A8, c8, rfl⟩ := own_slice hown; have hb8 : Below w.heap.size w w8 := HB0.out.grown hgr (by simp; omega) (fun q hq => (own_block_le HOA.out hq).1); have HB8 := Lib.hid hb8; rw [sumB_more] at hown; have HO8 := Lib.hid hown; clear hown hgr hb8; refine Hid.out ?_)
          refine Lib.hid ?_
          go_wp2
          go_roundw
          case rel => exact ⟨j + 1, N + 2, A8, c8, _, os ++ [8], by omega, rfl, rfl, by go_num, Lib.hid (os_more HOS.out hlt6 (by unfold sumO; omega)), Lib.hid (by rw [sumV_more tape os 8 HOS.out.1, ← HZ.out, HV.out]; first | rfl | (simp [doV, wadd, wsub, wmul, wxor]; done) | (simp [doV, wadd, wsub, wmul, wxor]; rfl)), HO8, HB8⟩
          case measure => simp [intOf]; omega
    · have hee : ∀ W, Sem.run Try.prog (Op.equalIn 10000 32 (.agg #[.int .i64 1, .int .u64 zz]) (.agg #[.int .i64 1, .int .u64 zz])) W = .ok true W := fun W => by
        have := equalIn_end (1, zz) (1, zz) W
        simpa using this
      obtain ⟨s, hs⟩ : ∃ s : Nat, (N : Int) + 1 = (s : Int) := ⟨N + 1, rfl⟩
      have HS : Hid (s = 2 * j + 2) := Lib.hid (by have := HOS.out.2.2.2; omega)
      have hN121 : N ≤ 121 := by have := HOS.out.2.2.2; have := HOS.out.2.2.1; omega
      have HOA := Lib.hid (own_al HO.out (.cells (insc [⟨30, 0, 0⟩]).toArray 43))
      have HRD := Lib.hid (lit_reads wr [⟨30, 0, 0⟩] 1 rfl)
      have HXX : Hid (j < n1 → ∃ b off x, A1 = some ⟨b, off, none⟩ ∧ wr.cell? ⟨b, off + j, none⟩ = some (.int .u8 x)) := Lib.hid (fun hlt => by
        obtain ⟨b, off, hA1, hb, hcc⟩ := (HB.out.below HW.out).lit (by omega) (by decide)
        obtain ⟨x, hx⟩ : ∃ x, bl[j]? = some x := ⟨_, List.getElem?_eq_getElem (by rw [← HN1.out]; exact hlt)⟩
        exact ⟨b, off, x, hA1, hcc j (.int .u8 x) (by simp [u8c, hx])⟩)
      have hways : j = n1 ∨ (j < n1 ∧ j = 60) := by have := HOS.out.2.2.1; omega
      clear hgo
      rcases hways with rfl | ⟨hlt, rfl⟩
      · clear HXX
        go_wp2_with (at_builtin; refine app_ins rfl _ _ rfl w.heap.size (.slice A N c) N (insc (sumB os)) rfl HOA.out (wr.heap.size + 1) (some ⟨wr.heap.size, 0, none⟩) 1 1 (insc [⟨30, 0, 0⟩]) rfl HRD.out (insc_one _) (by omega) (by simp; omega) ?_; intro v8 w8 hown hgr _; obtain ⟨A8, c8, rfl⟩ := own_slice hown; have hb8 : Below w.heap.size w w8 := (HW.out.alloc hzr (.cells (insc [⟨30, 0, 0⟩]).toArray 43)).grown hgr (by simp; omega) (fun q hq => (own_block_le HOA.out hq).1); have HB8 := Lib.hid hb8; rw [insc_app] at hown; have HO8 := Lib.hid hown; clear hown hgr hb8; refine Hid.out ?_)
        have hrun := sum_run w8 os tape j (N + 1) c8 n0 c0 s A8 A0 HOS.out.1 HOS.out.2.2.1 HOS.out.2.1 (by unfold sumI; rw [List.length_append, length_sumB, HOS.out.1]; have := HOS.out.2.2.2; simp; omega) (Reads.of_own HO8.out) ((HR.out.below HB8.out).more HB8.out.size) HNC.out HTW.out HS.out
        rw [← HZ.out] at hrun
        have HRUN := Lib.hid hrun
        clear hrun HOA HRD HO8
        refine Lib.hid ?_
        go_wp2_with (go_at_call 9; refine HRUN.out.mono ?_; rintro e w10 ⟨A2, n2, c2, d1, d2, d3, rfl, HB10'⟩; have HB10 := Lib.hid (HB8.out.trans (HB10'.out.mono HB8.out.size)); refine Hid.out ?_)
        refine Lib.hid ?_
        go_wp2
        go_ret
        exact ⟨rfl, HB10.out.alloc HB10.out.size _⟩
      · obtain ⟨b, off, x, hA1, x1⟩ := HXX.out hlt
        subst hA1
        clear HXX
        go_wp2_with (at_builtin; refine app_ins rfl _ _ rfl w.heap.size (.slice A N c) N (insc (sumB os)) rfl HOA.out (wr.heap.size + 1) (some ⟨wr.heap.size, 0, none⟩) 1 1 (insc [⟨30, 0, 0⟩]) rfl HRD.out (insc_one _) (by omega) (by simp; omega) ?_; intro v8 w8 hown hgr _; obtain ⟨A8, c8, rfl⟩ := own_slice hown; have hb8 : Below w.heap.size w w8 := (HW.out.alloc hzr (.cells (insc [⟨30, 0, 0⟩]).toArray 43)).grown hgr (by simp; omega) (fun q hq => (own_block_le HOA.out hq).1); have HB8 := Lib.hid hb8; rw [insc_app] at hown; have HO8 := Lib.hid hown; clear hown hgr hb8; refine Hid.out ?_)
        have hrun := sum_run w8 os tape 60 (N + 1) c8 n0 c0 s A8 A0 HOS.out.1 HOS.out.2.2.1 HOS.out.2.1 (by unfold sumI; rw [List.length_append, length_sumB, HOS.out.1]; have := HOS.out.2.2.2; simp; omega) (Reads.of_own HO8.out) ((HR.out.below HB8.out).more HB8.out.size) HNC.out HTW.out HS.out
        rw [← HZ.out] at hrun
        have HRUN := Lib.hid hrun
        clear hrun HOA HRD HO8
        refine Lib.hid ?_
        go_wp2_with (go_at_call 9; refine HRUN.out.mono ?_; rintro e w10 ⟨A2, n2, c2, d1, d2, d3, rfl, HB10'⟩; have HB10 := Lib.hid (HB8.out.trans (HB10'.out.mono HB8.out.size)); refine Hid.out ?_)
        refine Lib.hid ?_
        go_wp2
        go_ret
        exact ⟨rfl, HB10.out.alloc HB10.out.size _⟩
end Go.Proofs.Ytdoabcmfblmklaa

/-
  SemSums is true for all numbers and choices: a program that adds, turns and multiplies numbers that come in says what Go does; no condition.
-/
namespace Go.Proofs.Ytdoabcmfblmklaa.semSums
open Go.ChangeShapes Go.WideShapes Go.ChangeAt Go.RowKit
set_option linter.unusedVariables false

theorem own : ownKnob Try.prog.godebug = none := by kernel_rfl
theorem laidOut : laidOutB Try.prog = true := by kernel_rfl

set_option maxRecDepth 100000 in
theorem lifted (os : Os) (started : os.Started) (H : Type) (enc : TypeId × Value → H) :
    ReturnsInHanded {} Try.checked os 5 .any (Rows.semSumsSpec.pre6 enc Try.prog Try.f5 Rows.semSumsRow.domain false) (Rows.semSumsSpec.post enc Try.prog Try.f5 false true false false) := by
  refine returnsInHanded_of_change_sized (C := Try.checked) own started (by kernel_rfl) Try.func5
    (ChangeSpec.witness6 (enc := enc) (C := Try.checked) false ⟨#[], #[.slice none 0 0, .slice none 0 0], []⟩ 8 (by kernel_rfl) (by kernel_rfl) (by kernel_rfl) (by kernel_rfl)) ?_
  intro W base args ds gs before hval0 hW hcnd hsz0 _
  have hval : ∀ (j : Nat) t v, Try.f5.params[j]? = some t → args[j]? = some v → Value.okWide Try.prog W .any base t v := hval0
  have hsz : (DataW.weightsEach Try.prog (Try.f5.params.toList ++ Rows.semSumsSpec.plain.varTypes Try.prog) (ds ++ gs)).all (· ≤ reachBytes) = true := hsz0
  clear hsz0
  have hW' := hW
  obtain ⟨p, q, hA0, hV, rfl, hfz, hnd⟩ := hW
  have hA : DataW.TrodAll enc Try.prog W 0 (fun _ => true) true Try.f5.params.toList args.toList ds p := hA0
  rw [Try.params5] at hA hval hsz
  obtain ⟨v0, vs0, d0, ds0, p0, q0, hargs, rfl, rfl, h0, r0⟩ := trodAll_cons hA
  obtain ⟨v1, vs1, d1, ds1, p1, q1, rfl, rfl, rfl, h1, r1⟩ := trodAll_cons r0
  obtain ⟨rfl, rfl, rfl⟩ := trodAll_nil r1
  obtain rfl : args = #[v0, v1] := by cases args; simp_all
  obtain ⟨rfl, rfl⟩ := trodVars_none hV
  have k0 := h0
  have lt0 : ∀ x ∈ p0, x.block < W.heap.size := by obtain ⟨m, hm⟩ := k0; exact DataW.trod_lt m _ _ _ hm
  have sm0 : Small 25 d0 := fun x hx => by simpa using List.all_eq_true.1 hsz x (DataW.weights_mem_each (j := 0) rfl rfl x hx)
  obtain ⟨a0, n0, c0, l0, rfl, r0', ln0, nc0, iw0, dd0⟩ := open_words (hval 0 25 v0 rfl rfl) h0
  have b0 : c0 * 8 ≤ 140737488351232 := by
    rcases dd0 with ⟨_, hc⟩ | ⟨elems, spare, hd, hc⟩
    · omega
    · rw [hd] at sm0
      have := small_slice sm0 Try.underlying25 (show Try.prog.bytesOf 30 = 8 by kernel_rfl)
      omega
  have k1 := h1
  have lt1 : ∀ x ∈ p1, x.block < W.heap.size := by obtain ⟨m, hm⟩ := k1; exact DataW.trod_lt m _ _ _ hm
  have sm1 : Small 52 d1 := fun x hx => by simpa using List.all_eq_true.1 hsz x (DataW.weights_mem_each (j := 1) rfl rfl x hx)
  obtain ⟨a1, len1, c1, rfl⟩ := okWide_slice Try.underlying52 (hval 1 52 v1 rfl rfl)
  obtain ⟨fu1, hf1⟩ := h1
  obtain ⟨a1', c1', l1, e1, r1', by1, nc1, m1, nil1, dd1⟩ := open_u8 Try.underlying52 Try.underlying5 (by kernel_rfl) hf1
  simp [Value.cells] at e1
  obtain ⟨rfl, rfl, rfl⟩ := e1
  have b1 : c1 ≤ 140737488351232 := by
    rcases dd1 with ⟨_, hc⟩ | ⟨elems, spare, hd, hc⟩
    · omega
    · simp only at hd
      rw [hd] at sm1
      have := small_slice sm1 Try.underlying52 (show Try.prog.bytesOf 5 = 1 by kernel_rfl)
      omega
  clear hA0 hval0
  refine (sum_walk _ _ _ _ _ _ _ W r0' ln0 nc0 b0 iw0 r1' by1 (by omega)).mono fun e W' ⟨he, bel⟩ => ?_
  subst he
  exact ⟨_, rfl, _, _, _, [], _, [], hW', trodAll_mk1 (shut_bool Try.underlying4 _), (trodAll_cons_mk (Below.trod laidOut (by kernel_rfl) (of_decide_eq_true (by kernel_rfl)) k0 bel lt0) (trodAll_cons_mk (Below.trod laidOut (by kernel_rfl) (of_decide_eq_true (by kernel_rfl)) k1 bel lt1) trodAll_mk0)), rfl, bel.frame _, fun h => by cases h⟩

theorem over : Rows.semSumsRow.holds Try.pinned (OpenSpec.ofChange Rows.semSumsSpec) :=
  OpenClaim.holds_of_wide 5 Try.f5 rfl rfl rfl rfl rfl rfl rfl ⟨rfl, rfl, rfl, rfl, rfl⟩ rfl rfl rfl rfl rfl (by kernel_rfl) Try.func5 (by kernel_rfl)
    (of_decide_eq_true (by kernel_rfl)) (by unfold Func.isWrapper; first | (rw [if_pos (by decide +kernel)]; kernel_rfl) | (rw [if_neg (by decide +kernel)]; exact ⟨rfl, rfl⟩))
    (fun os started H enc _ => lifted os started H enc)

theorem proved : Rows.SemSumsSaid := over
end Go.Proofs.Ytdoabcmfblmklaa.semSums
