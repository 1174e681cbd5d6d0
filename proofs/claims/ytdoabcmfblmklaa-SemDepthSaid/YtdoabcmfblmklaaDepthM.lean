/-
  SemDepth is true for every number: a function that calls itself n times goes n + 2 deep and comes back; no condition.
-/
import Derived.Test.YtdoabcmfblmklaaRows
import Derived.WalkKit
import Derived.ProofKit
import Derived.OpenShut
import Derived.ShutString
import Derived.ChangeOld
import Derived.Below
import Derived.SizedLaws
import Derived.Test.YtdoabcmfblmklaaMA10

/-
  Package sem: runs of programs with letters in them: the verdict by stacks that are named, the run step by step on the plain machine.
-/
namespace Go.Proofs.Ytdoabcmfblmklaa
set_option linter.unusedVariables false
set_option linter.unusedSimpArgs false

theorem wff_0 {c : List Ins} (hc : ∀ i ∈ c, WfI i) (h2 : c.length ≤ 1000) : WfF ⟨0, [], false, -1, c⟩ :=
  wff_of (f := ⟨0, [], false, -1, c⟩) ⟨Int.le_refl _, by show (0 : Int) ≤ 100; omega⟩ ⟨Int.le_refl _, by show (-1 : Int) ≤ 100; omega⟩ Byt.nil hc (Nat.zero_le _) h2
theorem wff_1 {c : List Ins} (hc : ∀ i ∈ c, WfI i) (h2 : c.length ≤ 1000) : WfF ⟨1, [0], false, -1, c⟩ :=
  wff_of (f := ⟨1, [0], false, -1, c⟩) ⟨by show (0 : Int) ≤ 1; omega, by show (1 : Int) ≤ 100; omega⟩ ⟨Int.le_refl _, by show (-1 : Int) ≤ 100; omega⟩ (by intro b hb; simp at hb; subst hb; decide) hc (by show 1 ≤ 1000; omega) h2
theorem wf_const {m : Int} (h : isW m) : WfI ⟨1, 0, m⟩ := by
  unfold isW at h
  exact ⟨by show (0 : Int) ≤ 1; omega, by show (1 : Int) ≤ 255; omega, by show (-9223372036854775808 : Int) ≤ 0; omega, by show (0 : Int) ≤ 9223372036854775807; omega, h.1, by show m ≤ _; omega⟩
section
variable {fs : List Fn} {f : Fn} {rs : List Raw} {st st1 st2 x a : Mc} {n m : Nat}
/-- the stacks are named: all is well -/
theorem fine_of (A : Nat → Option Stk) (h0 : A 0 = some []) (hc : ∀ a s, A a = some s → ∃ i s', f.code[a]? = some i ∧ afterK fs f i s = some s' ∧ ∀ b ∈ succK a i, A b = some s') : Fine fs f ∧ ∀ a s, Reach fs f a s → A a = some s := by
  have hall : ∀ a s, Reach fs f a s → A a = some s := by
    intro a s hr
    induction hr with
    | base => exact h0
    | step _ hcd hs hb ih =>
      obtain ⟨i, s', h1, h2, h3⟩ := hc _ _ ih
      rw [hcd] at h1
      injection h1 with h1
      subst h1
      rw [hs] at h2
      injection h2 with h2
      subst h2
      exact h3 _ hb
  refine ⟨fun a s hr => ⟨?_, fun s2 hr2 => ?_⟩, hall⟩
  · obtain ⟨i, s', h1, h2, _⟩ := hc a s (hall a s hr)
    exact ⟨i, s', h1, h2⟩
  · have h1 := hall a s hr
    rw [hall a s2 hr2] at h1
    injection h1
theorem verd_of (h1 : okP fs = true) (h2 : bnd fs = true) (h3 : refB fs = true) (h4 : ∀ f ∈ fs, ∃ A : Nat → Option Stk, A 0 = some [] ∧ (∀ a s, A a = some s → s.length ≤ 16 ∧ ∃ i s', f.code[a]? = some i ∧ afterK fs f i s = some s' ∧ ∀ b ∈ succK a i, A b = some s')) : verd fs = 0 := by
  have hf : ∀ f ∈ fs, Fine fs f ∧ ∀ a s, Reach fs f a s → s.length ≤ 16 := fun f hf => by
    obtain ⟨A, a0, a1⟩ := h4 f hf
    obtain ⟨b0, b1⟩ := fine_of A a0 fun a s h => (a1 a s h).2
    exact ⟨b0, fun a s hr => (a1 a s (b1 a s hr)).1⟩
  unfold verd
  rw [if_neg (by simp [h1]), if_neg (by simp [h2]), if_neg (by simp [h3]), if_neg (fun hn => hn fun f h => (hf f h).1), if_neg]
  rintro ⟨f, h, a, s, hr, hs⟩
  have := (hf f h).2 a s hr
  omega
/-- so many steps -/
def Steps (fs : List Fn) : Nat → Mc → Mc → Prop
  | 0, st, x => x = st
  | n + 1, st, x => st.doing ≠ 3 ∧ ∃ st2, step fs st = some st2 ∧ Steps fs n st2 x
theorem Steps.one (hd : st.doing ≠ 3) (h : step fs st = some x) : Steps fs 1 st x := ⟨hd, x, h, rfl⟩
theorem Steps.trans : ∀ {n m : Nat} {st x a : Mc}, Steps fs n st x → Steps fs m x a → Steps fs (n + m) st a
  | 0, m, st, x, a, h1, h2 => by
    have : x = st := h1
    subst this
    rw [Nat.zero_add]
    exact h2
  | n + 1, m, st, x, a, ⟨hd, y, hs, h1⟩, h2 => by
    rw [show n + 1 + m = (n + m) + 1 by omega]
    exact ⟨hd, y, hs, h1.trans h2⟩
theorem StepB.step (h : StepB rs st st2) (hs : step (fns rs) st = some x) : st2 = x := by
  obtain ⟨t, bl, r, i, k, s1, N, a1, a2, a3, a4, a5, a6, a7, a8, a9, a10, a11, a12, a13⟩ := h
  have hfn := fnOf_at a2
  unfold Go.Proofs.Ytdoabcmfblmklaa.step at hs
  rw [a1] at hs a8
  simp only [hfn] at hs
  rw [a3, Int.toNat_natCast, a4] at hs
  simp only at hs
  rw [if_pos (by omega), ← a3, a8] at hs
  exact settle_one a10 hs
theorem RunB.steps : ∀ {n m : Nat} {st x a : Mc}, RunB rs (n + m) st a → Steps (fns rs) n st x → RunB rs m x a
  | 0, m, st, x, a, h1, h2 => by
    have : x = st := h2
    subst this
    rw [Nat.zero_add] at h1
    exact h1
  | n + 1, m, st, x, a, h1, ⟨hd, y, hs, h2⟩ => by
    rw [show n + 1 + m = (n + m) + 1 by omega] at h1
    unfold RunB at h1
    rw [if_neg hd] at h1
    obtain ⟨z, e1, e2⟩ := h1
    obtain rfl := e1.step hs
    exact RunB.steps e2 h2
/-- a run that comes to its end -/
theorem RunAns.steps {tape : List Int} {fuel : Nat} {er : Int} (h : RunAns rs tape fuel er st) (hv : verd (fns rs) = 0) (hs : Steps (fns rs) n (start (fns rs) tape) x) (h3 : x.doing = 3) (hn : n ≤ fuel) : er = 0 ∧ st = x := by
  obtain ⟨h1, _⟩ | ⟨_, h2, stF, h5, _, _, h4⟩ := h
  · exact absurd hv h1
  · have h6 := RunB.steps (m := fuel - n) (by rw [show n + (fuel - n) = fuel by omega]; exact h5) hs
    have h7 := h6.over h3
    subst h7
    rw [if_pos h3] at h4
    exact ⟨h2, h4⟩
/-- a step that ends nothing -/
theorem step_plain {t : Fr} {bl : List Fr} {i : Ins} (hf : st.frames = t :: bl) (h0 : 0 ≤ t.next) (hc : (fnOf fs t.f).code[t.next.toNat]? = some i) (hx : exec fs { st with steps := st.steps + 1 } { t with next := t.next + 1 } bl i = some x) (hd : ¬ (x.doing = 1 ∨ x.doing = 2)) : step fs st = some x := by
  unfold Go.Proofs.Ytdoabcmfblmklaa.step
  rw [hf] at hx ⊢
  simp only
  rw [hc]
  simp only
  rw [if_pos h0, hx]
  show settle fs ((t :: bl).length + 1 + 1) x = some x
  unfold settle
  rw [if_neg hd]
end
end Go.Proofs.Ytdoabcmfblmklaa

/-
  SemDepth: the mathematics: a function that calls itself k times.
-/
namespace Go.Proofs.Ytdoabcmfblmklaa
set_option linter.unusedVariables false
set_option linter.unusedSimpArgs false

def depI : List Ins := [⟨2, 0, 0⟩, ⟨22, 6, 0⟩, ⟨2, 0, 0⟩, ⟨1, 0, 1⟩, ⟨8, 0, 0⟩, ⟨23, 1, 0⟩, ⟨24, 0, 0⟩]
def depM (k : Nat) : List Ins := [⟨1, 0, k⟩, ⟨23, 1, 0⟩, ⟨24, 0, 0⟩]
def depFs (k : Nat) : List Fn := [⟨0, [], false, -1, depM k⟩, ⟨1, [0], false, -1, depI⟩]
theorem depFs_0 (k : Nat) : fnOf (depFs k) 0 = ⟨0, [], false, -1, depM k⟩ := rfl
theorem depFs_1 (k : Nat) : fnOf (depFs k) 1 = ⟨1, [0], false, -1, depI⟩ := rfl
def depA0 : Nat → Option Stk
  | 0 => some []
  | 1 => some [0]
  | 2 => some []
  | _ => none
def depA1 : Nat → Option Stk
  | 0 => some []
  | 1 => some [0]
  | 2 => some []
  | 3 => some [0]
  | 4 => some [0, 0]
  | 5 => some [0]
  | 6 => some []
  | _ => none
theorem verd_dep {k : Nat} (hk : k < 300) : verd (depFs k) = 0 := by
  refine verd_of ?_ rfl rfl ?_
  · have h1 : fitB 8 (k : Int) = true := by simp [fitB]; omega
    simp [okP, okF, depFs, depM, depI, okI, opB, argW, immW, kindB, h1]
    decide
  · intro f hf
    simp only [depFs, List.mem_cons, List.not_mem_nil, or_false] at hf
    rcases hf with rfl | rfl
    · refine ⟨depA0, rfl, fun a s h => ?_⟩
      rcases a with _ | _ | _ | a
      · injection h with h; subst h; exact ⟨by decide, _, _, rfl, rfl, fun b hb => by simp [succK] at hb; subst hb; rfl⟩
      · injection h with h; subst h; exact ⟨by decide, _, _, rfl, rfl, fun b hb => by simp [succK] at hb; subst hb; rfl⟩
      · injection h with h; subst h; exact ⟨by decide, _, _, rfl, rfl, fun b hb => by simp [succK] at hb⟩
      · cases h
    · refine ⟨depA1, rfl, fun a s h => ?_⟩
      rcases a with _ | _ | _ | _ | _ | _ | _ | a
      · injection h with h; subst h; exact ⟨by decide, _, _, rfl, rfl, fun b hb => by simp [succK] at hb; subst hb; rfl⟩
      · injection h with h; subst h; exact ⟨by decide, _, _, rfl, rfl, fun b hb => by simp [succK] at hb; rcases hb with rfl | rfl <;> rfl⟩
      · injection h with h; subst h; exact ⟨by decide, _, _, rfl, rfl, fun b hb => by simp [succK] at hb; subst hb; rfl⟩
      · injection h with h; subst h; exact ⟨by decide, _, _, rfl, rfl, fun b hb => by simp [succK] at hb; subst hb; rfl⟩
      · injection h with h; subst h; exact ⟨by decide, _, _, rfl, rfl, fun b hb => by simp [succK] at hb; subst hb; rfl⟩
      · injection h with h; subst h; exact ⟨by decide, _, _, rfl, rfl, fun b hb => by simp [succK] at hb; subst hb; rfl⟩
      · injection h with h; subst h; exact ⟨by decide, _, _, rfl, rfl, fun b hb => by simp [succK] at hb⟩
      · cases h
/-- the frames that wait, i deep -/
def depW : Nat → List Fr
  | 0 => [⟨0, 0, 2, 0, [], [], 0⟩]
  | i + 1 => ⟨1, 1, 6, i, [], [], 0⟩ :: depW i
def depMem (k : Nat) : Nat → List Int
  | 0 => []
  | i + 1 => depMem k i ++ [((k - i : Nat) : Int)]
theorem depW_len (i : Nat) : (depW i).length = i + 1 := by
  induction i with
  | zero => rfl
  | succ i ih => rw [depW, List.length_cons, ih]
theorem depMem_len (k i : Nat) : (depMem k i).length = i := by
  induction i with
  | zero => rfl
  | succ i ih => rw [depMem, List.length_append, ih]; rfl
theorem depMem_at (k i : Nat) : (depMem k (i + 1))[i]? = some ((k - i : Nat) : Int) := by
  rw [depMem, List.getElem?_append_right (by rw [depMem_len]; omega), depMem_len, Nat.sub_self]
  rfl
theorem depMem_take (k i : Nat) : (depMem k (i + 1)).take i = depMem k i := by
  rw [depMem, List.take_append_of_le_length (by rw [depMem_len]; omega), List.take_of_length_le (by rw [depMem_len]; omega)]
/-- i deep, at the function's beginning / at some place of it -/
def depS (k i : Nat) (pc : Int) (stk : List Int) (steps : Nat) : Mc := ⟨[], [], ⟨1, 1, pc, i, stk, [], 0⟩ :: depW i, depMem k (i + 1), [], 0, 0, 0, 0, steps, i + 2, 0, 0⟩
/-- on the way back -/
def depR (k i : Nat) (steps : Nat) : Mc := ⟨[], [], depW i, depMem k i, [], 0, 0, 0, 0, steps, k + 2, 0, 0⟩
section
variable {k i n : Nat}
theorem dep_0 : step (depFs k) (depS k i 0 [] n) = some (depS k i 1 [((k - i : Nat) : Int)] (n + 1)) :=
  step_plain (i := ⟨2, 0, 0⟩) rfl (by show (0 : Int) ≤ 0; decide) rfl (by simp [exec, depS, depMem_at, Mc.top, Fr.push]) (by simp [depS])
theorem dep_1t (hi : k - i = 0) : step (depFs k) (depS k i 1 [((k - i : Nat) : Int)] n) = some (depS k i 6 [] (n + 1)) :=
  step_plain (i := ⟨22, 6, 0⟩) rfl (by show (0 : Int) ≤ 1; decide) rfl (by simp [exec, depS, Mc.top, hi]) (by simp [depS])
theorem dep_1f (hi : k - i ≠ 0) : step (depFs k) (depS k i 1 [((k - i : Nat) : Int)] n) = some (depS k i 2 [] (n + 1)) :=
  step_plain (i := ⟨22, 6, 0⟩) rfl (by show (0 : Int) ≤ 1; decide) rfl (by
    have h : ¬ (((k - i : Nat) : Int) = 0) := by omega
    simp only [exec, depS]
    rw [if_neg (by decide), if_neg (by decide), if_neg (by decide), if_neg (by decide), if_neg (by decide), if_neg (by decide), if_neg (by decide), if_pos trivial]
    simp only [Mc.top]
    rw [if_neg h]
    rfl) (by simp [depS])
theorem dep_2 : step (depFs k) (depS k i 2 [] n) = some (depS k i 3 [((k - i : Nat) : Int)] (n + 1)) :=
  step_plain (i := ⟨2, 0, 0⟩) rfl (by show (0 : Int) ≤ 2; decide) rfl (by simp [exec, depS, depMem_at, Mc.top, Fr.push]) (by simp [depS])
theorem dep_3 (v : Int) : step (depFs k) (depS k i 3 [v] n) = some (depS k i 4 [1, v] (n + 1)) :=
  step_plain (i := ⟨1, 0, 1⟩) rfl (by show (0 : Int) ≤ 3; decide) rfl (by simp [exec, depS, Mc.top, Fr.push]) (by simp [depS])
theorem dep_4 (hi : i < k) (hk : k < 300) : step (depFs k) (depS k i 4 [1, ((k - i : Nat) : Int)] n) = some (depS k i 5 [((k - (i + 1) : Nat) : Int)] (n + 1)) :=
  step_plain (i := ⟨8, 0, 0⟩) rfl (by show (0 : Int) ≤ 4; decide) rfl (by
    have h1 : doE 8 1 = 0 := rfl
    have h2 : doV 8 ((k - i : Nat) : Int) 1 = ((k - (i + 1) : Nat) : Int) := by
      show wsub _ 1 = _
      unfold wsub
      rw [wrap_u64_eq]
      omega
    simp only [exec, depS]
    rw [if_neg (by decide), if_neg (by decide), if_neg (by decide), if_neg (by decide), if_neg (by decide), if_neg (by decide), if_neg (by decide), if_neg (by decide), if_neg (by decide), if_neg (by decide), if_neg (by decide), if_neg (by decide), if_neg (by decide), if_neg (by decide), if_neg (by decide), if_neg (by decide), if_neg (by decide), if_neg (by decide), if_pos (by decide), if_pos h1, h2]
    rfl) (by simp [depS])
theorem dep_5 (hi : i < k) : step (depFs k) (depS k i 5 [((k - (i + 1) : Nat) : Int)] n) = some (depS k (i + 1) 0 [] (n + 1)) :=
  step_plain (i := ⟨23, 1, 0⟩) rfl (by show (0 : Int) ≤ 5; decide) rfl (by
    simp only [exec, depS]
    rw [if_neg (by decide), if_neg (by decide), if_neg (by decide), if_neg (by decide), if_neg (by decide), if_neg (by decide), if_neg (by decide), if_neg (by decide), if_pos trivial]
    show (if (1 : Int).toNat ≤ 1 ∧ (1 : Int).toNat < 2 then _ else _) = _
    rw [if_pos (by decide)]
    simp only [Mc.begin, Mc.top, Fr.cut, argsOf, locals, show (1 : Int).toNat = 1 from rfl, depFs_1, depMem_len, depW, List.length_cons, depW_len]
    simp [depMem]) (by simp [depS])
theorem dep_6 (hi : i ≤ k) : step (depFs k) ⟨[], [], ⟨1, 1, 6, i, [], [], 0⟩ :: depW i, depMem k (i + 1), [], 0, 0, 0, 0, n, k + 2, 0, 0⟩ = some (depR k i (n + 1)) := by
  unfold Go.Proofs.Ytdoabcmfblmklaa.step
  simp only [depFs_1, show ((6 : Int).toNat) = 6 from rfl]
  show (if (0 : Int) ≤ 6 then _ else none) = _
  rw [if_pos (by decide)]
  have hx : ∀ st : Mc, ∀ t bl, t.f = 1 → exec (depFs k) st t bl ⟨24, 0, 0⟩ = some { st.top t bl with doing := 1 } := fun st t bl ht => by
    simp [exec, ht, depFs_1]
  rw [hx _ _ _ rfl]
  show settle (depFs k) ((_ :: depW i).length + 1 + 1) _ = _
  rw [List.length_cons, depW_len]
  unfold settle
  rw [if_pos (.inl rfl)]
  have h1 : settle1 (depFs k) { (Mc.top ⟨[], [], ⟨1, 1, 6, i, [], [], 0⟩ :: depW i, depMem k (i + 1), [], 0, 0, 0, 0, n + 1, k + 2, 0, 0⟩ ⟨1, 1, 6 + 1, i, [], [], 0⟩ (depW i)) with doing := 1 } = some (depR k i (n + 1)) := by
    cases i with
    | zero => simp [settle1, Mc.top, depW, depMem, depFs_1, depR]
    | succ i => simp [settle1, Mc.top, depW, depMem_len, depMem_take, depFs_1, depR]
  rw [h1]
  show settle (depFs k) _ _ = _
  unfold settle
  rw [if_neg (by simp [depR])]
theorem dep_down (hk : k < 300) : ∀ i, i ≤ k → Steps (depFs k) (2 + 6 * i) (start (depFs k) []) (depS k i 0 [] (2 + 6 * i))
  | 0, _ => by
    have h0 : step (depFs k) (start (depFs k) []) = some ⟨[], [], [⟨0, 0, 1, 0, [(k : Int)], [], 0⟩], [], [], 0, 0, 0, 0, 1, 1, 0, 0⟩ :=
      step_plain (i := ⟨1, 0, k⟩) rfl (by show (0 : Int) ≤ 0; decide) rfl (by simp [exec, start, Mc.begin, Mc.top, Fr.push, locals, depFs_0]) (by simp)
    have h1 : step (depFs k) ⟨[], [], [⟨0, 0, 1, 0, [(k : Int)], [], 0⟩], [], [], 0, 0, 0, 0, 1, 1, 0, 0⟩ = some (depS k 0 0 [] 2) :=
      step_plain (i := ⟨23, 1, 0⟩) rfl (by show (0 : Int) ≤ 1; decide) rfl (by
        simp only [exec]
        rw [if_neg (by decide), if_neg (by decide), if_neg (by decide), if_neg (by decide), if_neg (by decide), if_neg (by decide), if_neg (by decide), if_neg (by decide), if_pos trivial]
        show (if (1 : Int).toNat ≤ 1 ∧ (1 : Int).toNat < 2 then _ else _) = _
        rw [if_pos (by decide)]
        simp [Mc.begin, Mc.top, Fr.cut, argsOf, locals, depFs_1, depW, depS, depMem]) (by simp [depS])
    exact (Steps.one (by show (0 : Int) ≠ 3; decide) h0).trans (Steps.one (by show (0 : Int) ≠ 3; decide) h1)
  | i + 1, hi => by
    have h := dep_down hk i (by omega)
    have h3 : ∀ pc stk n, (depS k i pc stk n).doing ≠ 3 := fun _ _ _ => by show (0 : Int) ≠ 3; decide
    have h6 := ((((((Steps.one (h3 _ _ _) (dep_0 (n := 2 + 6 * i))).trans (Steps.one (h3 _ _ _) (dep_1f (by omega)))).trans (Steps.one (h3 _ _ _) dep_2)).trans (Steps.one (h3 _ _ _) (dep_3 _))).trans (Steps.one (h3 _ _ _) (dep_4 (by omega) hk))).trans (Steps.one (h3 _ _ _) (dep_5 (by omega))))
    exact h.trans h6
theorem dep_up (hk : k < 300) : ∀ j, j ≤ k → Steps (depFs k) (2 + 6 * k + 3 + j) (start (depFs k) []) (depR k (k - j) (2 + 6 * k + 3 + j))
  | 0, _ => by
    have h := dep_down hk k (Nat.le_refl _)
    have h3 : ∀ pc stk n, (depS k k pc stk n).doing ≠ 3 := fun _ _ _ => by show (0 : Int) ≠ 3; decide
    exact h.trans (((Steps.one (h3 _ _ _) (dep_0 (n := 2 + 6 * k))).trans (Steps.one (h3 _ _ _) (dep_1t (by omega)))).trans (Steps.one (h3 _ _ _) (dep_6 (Nat.le_refl _))))
  | j + 1, hj => by
    have h := dep_up hk j (by omega)
    obtain ⟨i, hi⟩ : ∃ i, k - j = i + 1 := ⟨k - j - 1, by omega⟩
    rw [hi] at h
    rw [show k - (j + 1) = i by omega]
    exact h.trans (Steps.one (by show (0 : Int) ≠ 3; decide) (dep_6 (n := 2 + 6 * k + 3 + j) (by omega) (i := i)))
theorem dep_all (hk : k < 300) : ∃ x, Steps (depFs k) (7 * k + 6) (start (depFs k) []) x ∧ x.doing = 3 ∧ x.endk = 1 ∧ x.endv = 0 ∧ x.depth = k + 2 ∧ x.steps = 7 * k + 6 ∧ x.evs = [] := by
  have h := dep_up hk k (Nat.le_refl _)
  rw [Nat.sub_self] at h
  have h1 : step (depFs k) (depR k 0 (2 + 6 * k + 3 + k)) = some ⟨[], [], [], [], [], 0, 3, 1, 0, 2 + 6 * k + 3 + k + 1, k + 2, 0, 0⟩ := by
    simp [step, depR, depW, depFs_0, depM, exec, settle, settle1, Mc.top, Mc.over, depMem]
  refine ⟨_, by rw [show 7 * k + 6 = 2 + 6 * k + 3 + k + 1 by omega]; exact h.trans (Steps.one (by show (0 : Int) ≠ 3; decide) h1), rfl, rfl, rfl, rfl, ?_, rfl⟩
  show 2 + 6 * k + 3 + k + 1 = 7 * k + 6
  omega
end
end Go.Proofs.Ytdoabcmfblmklaa

/-
  SemDepth: the walk.
-/
namespace Go.Proofs.Ytdoabcmfblmklaa
set_option linter.unusedVariables false
set_option linter.unusedSimpArgs false
open Go.ChangeShapes Go.WideShapes Go.ChangeAt Go.RowKit

def depRs (k g : Nat) : List Raw := [⟨⟨0, [], false, -1, depM k⟩, none, 0, some ⟨g + 1, 0, none⟩, 3⟩, ⟨⟨1, [0], false, -1, depI⟩, some ⟨g + 2, 0, none⟩, 1, some ⟨g, 0, none⟩, 7⟩]
theorem depRs_fns (k g : Nat) : fns (depRs k g) = depFs k := rfl
def depW3 (W : World) (k : Nat) : World := ((W.alloc (.cells (insc depI).toArray 43)).alloc (.cells (insc (depM k)).toArray 43)).alloc (.cells #[.int .u8 0] 47)
theorem lit_dep (W : World) (k : Nat) (hk : k < 300) : RdP ((depW3 W k).alloc (.cells (rawc (depRs k W.heap.size)).toArray 46)) (W.heap.size + 4) (some ⟨W.heap.size + 3, 0, none⟩) 2 (depRs k W.heap.size) := by
  have hz : (depW3 W k).heap.size = W.heap.size + 3 := by simp [depW3]
  have hb := Blk.new (depW3 W k) 46 (rawc (depRs k W.heap.size)).toArray
  rw [hz] at hb
  have h0 : Blk ((depW3 W k).alloc (.cells (rawc (depRs k W.heap.size)).toArray 46)) W.heap.size 43 (insc depI).toArray := (((Blk.new W _ _).alloc _).alloc _).alloc _
  have h1 : Blk ((depW3 W k).alloc (.cells (rawc (depRs k W.heap.size)).toArray 46)) (W.heap.size + 1) 43 (insc (depM k)).toArray := ((blk_second _ _ _ _ _).alloc _).alloc _
  have h2 : Blk ((depW3 W k).alloc (.cells (rawc (depRs k W.heap.size)).toArray 46)) (W.heap.size + 2) 47 (u8c [0]).toArray := by
    have := Blk.new ((W.alloc (.cells (insc depI).toArray 43)).alloc (.cells (insc (depM k)).toArray 43)) 47 #[.int .u8 0]
    rw [show ((W.alloc (.cells (insc depI).toArray 43)).alloc (.cells (insc (depM k)).toArray 43)).heap.size = W.heap.size + 2 by simp] at this
    exact this.alloc _
  have h := lit_rs (n := 2) (rs := depRs k W.heap.size) hb rfl (by omega) (fun r hr => by
    simp only [depRs, List.mem_cons, List.not_mem_nil, or_false] at hr
    rcases hr with rfl | rfl
    · exact ⟨Reads.none_, reads_blk h1 rfl, Nat.le_refl _⟩
    · exact ⟨reads_blk h2 rfl, reads_blk h0 rfl, Nat.le_refl _⟩) (fun r hr => by
    simp only [depRs, List.mem_cons, List.not_mem_nil, or_false] at hr
    rcases hr with rfl | rfl
    · refine wff_0 (fun i hi => ?_) (by simp [depM])
      simp [depM] at hi
      rcases hi with rfl | rfl | rfl
      · exact wf_const (by unfold isW; omega)
      · exact wf_small (by decide)
      · exact wf_small (by decide)
    · refine wff_1 (fun i hi => wf_small ?_) (by decide)
      simp [depI] at hi
      rcases hi with rfl | rfl | rfl | rfl | rfl | rfl | rfl <;> decide)
  rw [show ((depW3 W k).alloc (.cells (rawc (depRs k W.heap.size)).toArray 46)).heap.size = W.heap.size + 4 by simp [depW3]] at h
  exact h
set_option maxRecDepth 100000 in
set_option maxHeartbeats 6400000 in
theorem dep_walk (x : Int) (w : World) : Calls Try.prog 6 #[.int .i64 x] w fun e w' => e = .returned (.bool true) ∧ Below w.heap.size w w' := by
  obtain ⟨y, hy, hy0⟩ : ∃ y : Int, IntKind.u64.wrap x = y ∧ 0 ≤ y := ⟨_, rfl, by rw [IntKind.wrap_u64]; omega⟩
  obtain ⟨k, hk, hk3⟩ : ∃ k : Nat, y % 300 = (k : Int) ∧ k < 300 := ⟨(y % 300).toNat, by omega, by omega⟩
  obtain ⟨dd, hD⟩ : ∃ dd : Nat, dd = k + 2 := ⟨_, rfl⟩
  obtain ⟨p, hP⟩ : ∃ p : Nat, p = 7 * k := ⟨_, rfl⟩
  obtain ⟨s, hS⟩ : ∃ s : Nat, s = p + 6 := ⟨_, rfl⟩
  have hD' : (k : Int) + 2 = (dd : Int) := by omega
  have hP' : 7 * (k : Int) = (p : Int) := by omega
  have hS' : (p : Int) + 6 = (s : Int) := by omega
  have HD := Lib.hid hD
  have HP := Lib.hid hP
  have HS := Lib.hid hS
  have HK := Lib.hid hk3
  clear hD hP hS
  go_enter Try.func6, Try.ntmps6
  go_wp2_with (go_at_call 8; refine (first6_any _).mono ?_; rintro e w1 ⟨rfl, hb1⟩; have HB1 := Lib.hid hb1; clear hb1; refine Hid.out ?_)
  have HL := Lib.hid (lit_dep w1 k HK.out)
  have HW : Hid (∀ o, Below w1.heap.size w1 (((depW3 w1 k).alloc (.cells (rawc (depRs k w1.heap.size)).toArray 46)).alloc o)) := Lib.hid fun o => (((((Below.refl _ _).alloc (Nat.le_refl _) _).alloc (by simp) _).alloc (by simp; omega) _ |>.alloc (by simp [depW3]; omega) _).alloc (by simp [depW3]; omega) o)
  have HC : Hid (∀ o, Calls Try.prog 9 #[.agg #[.slice (some ⟨w1.heap.size + 3, 0, none⟩) 2 2], .slice none 0 0, .int .i64 10000] (((depW3 w1 k).alloc (.cells (rawc (depRs k w1.heap.size)).toArray 46)).alloc o) fun e w' => ∃ A c d1 d2, e = .returned (.tuple #[.agg #[.slice A 0 c, .int .i64 1, .int .u64 0, .int .i64 s, .int .i64 dd, .int .i64 d1, .int .i64 d2], .int .i64 0]) ∧ Hid (Below w1.heap.size w1 w')) := Lib.hid fun o => by
    have hh := (HL.out.alloc (by simp [depW3]) o)
    refine (run_full (w1.heap.size + 4) 2 2 _ _ none 0 0 [] 10000 _ hh (by simp [depW3]) Reads.none_ (by omega) (fun v hv => by cases hv) (by omega)).mono ?_
    rintro e w' ⟨A, c, st, er, rfl, hra, hown, hb⟩
    obtain ⟨z, q1, q2, q3, q4, q5, q6, q7⟩ := dep_all HK.out
    obtain ⟨rfl, rfl⟩ := hra.steps (verd_dep HK.out) q1 q2 (by have := HK.out; omega)
    refine ⟨A, c, st.defers, st.maxp, ?_, Lib.hid ((HW.out o).trans (hb.mono (by simp [depW3]; omega)))⟩
    rw [q3, q4, q5, q6, q7, HS.out, HP.out, HD.out]
    rfl
  refine Lib.hid ?_
  go_wp2_with (go_at_call 9; refine (HC.out _).mono ?_; rintro e w2 ⟨A, c, d1, d2, rfl, HB2⟩)
  go_ret
  exact ⟨rfl, (HB1.out.trans (HB2.out.mono HB1.out.size)).alloc (Below.size (HB1.out.trans (HB2.out.mono HB1.out.size))) _⟩
end Go.Proofs.Ytdoabcmfblmklaa

/-
  SemDepth is true for every number: a function that calls itself n times goes n + 2 deep and comes back; no condition.
-/
namespace Go.Proofs.Ytdoabcmfblmklaa.semDepth
open Go.ChangeShapes Go.WideShapes Go.ChangeAt Go.RowKit
set_option linter.unusedVariables false

theorem own : ownKnob Try.prog.godebug = none := by kernel_rfl
theorem laidOut : laidOutB Try.prog = true := by kernel_rfl

set_option maxRecDepth 100000 in
theorem lifted (os : Os) (started : os.Started) (H : Type) (enc : TypeId × Value → H) :
    ReturnsInHanded {} Try.checked os 6 .any (Rows.semDepthSpec.pre6 enc Try.prog Try.f6 Rows.semDepthRow.domain false) (Rows.semDepthSpec.post enc Try.prog Try.f6 false true false false) := by
  refine returnsInHanded_of_change_sized (C := Try.checked) own started (by kernel_rfl) Try.func6
    (ChangeSpec.witness6 (enc := enc) (C := Try.checked) false ⟨#[], #[.int .i64 0], []⟩ 8 (by kernel_rfl) (by kernel_rfl) (by kernel_rfl) (by kernel_rfl)) ?_
  intro W base args ds gs before hval0 hW hcnd hsz0 _
  have hval : ∀ (j : Nat) t v, Try.f6.params[j]? = some t → args[j]? = some v → Value.okWide Try.prog W .any base t v := hval0
  have hsz : (DataW.weightsEach Try.prog (Try.f6.params.toList ++ Rows.semDepthSpec.plain.varTypes Try.prog) (ds ++ gs)).all (· ≤ reachBytes) = true := hsz0
  clear hsz0
  have hW' := hW
  obtain ⟨p, q, hA0, hV, rfl, hfz, hnd⟩ := hW
  have hA : DataW.TrodAll enc Try.prog W 0 (fun _ => true) true Try.f6.params.toList args.toList ds p := hA0
  rw [Try.params6] at hA hval hsz
  obtain ⟨v0, vs0, d0, ds0, p0, q0, hargs, rfl, rfl, h0, r0⟩ := trodAll_cons hA
  obtain ⟨rfl, rfl, rfl⟩ := trodAll_nil r0
  obtain rfl : args = #[v0] := by cases args; simp_all
  obtain ⟨rfl, rfl⟩ := trodVars_none hV
  have k0 := h0
  have lt0 : ∀ x ∈ p0, x.block < W.heap.size := by obtain ⟨m, hm⟩ := k0; exact DataW.trod_lt m _ _ _ hm
  have sm0 : Small 3 d0 := fun x hx => by simpa using List.all_eq_true.1 hsz x (DataW.weights_mem_each (j := 0) rfl rfl x hx)
  obtain ⟨x0, rfl, _, _, w0⟩ := open_int Try.underlying3 (hval 0 3 v0 rfl rfl) h0
  clear hA0 hval0
  refine (dep_walk x0 W).mono fun e W' ⟨he, bel⟩ => ?_
  subst he
  exact ⟨_, rfl, _, _, _, [], _, [], hW', trodAll_mk1 (shut_bool Try.underlying4 _), (trodAll_cons_mk (Below.trod laidOut (by kernel_rfl) (of_decide_eq_true (by kernel_rfl)) k0 bel lt0) trodAll_mk0), rfl, bel.frame _, fun h => by cases h⟩

theorem over : Rows.semDepthRow.holds Try.pinned (OpenSpec.ofChange Rows.semDepthSpec) :=
  OpenClaim.holds_of_wide 6 Try.f6 rfl rfl rfl rfl rfl rfl rfl ⟨rfl, rfl, rfl, rfl, rfl⟩ rfl rfl rfl rfl rfl (by kernel_rfl) Try.func6 (by kernel_rfl)
    (of_decide_eq_true (by kernel_rfl)) (by unfold Func.isWrapper; first | (rw [if_pos (by decide +kernel)]; kernel_rfl) | (rw [if_neg (by decide +kernel)]; exact ⟨rfl, rfl⟩))
    (fun os started H enc _ => lifted os started H enc)

theorem proved : Rows.SemDepthSaid := over
end Go.Proofs.Ytdoabcmfblmklaa.semDepth
