/-
  Plain mathematics: the statements' own way to read a function, and the grammar's.
-/
import Derived.Test.YtklfppeecgkpnaaLang
namespace Go.Proofs.Ytklfppeecgkpnaa
set_option linter.unusedVariables false

/-- kinds, unlooked at -/
def uKinds : Nat → St → List Int × St
  | 0, s => ([], s)
  | n + 1, s => ((num 1 s).1 :: (uKinds n (num 1 s).2).1, (uKinds n (num 1 s).2).2)
theorem length_uKinds (n : Nat) (s : St) : (uKinds n s).1.length = n := by
  induction n generalizing s with
  | zero => rfl
  | succ n ih => simp [uKinds, ih]
theorem uKinds_none (n : Nat) : (uKinds n none).2 = none := by
  induction n with
  | zero => rfl
  | succ n ih => simp [uKinds, num_none, ih]
theorem pKinds_none (n : Nat) : pKinds n none = ([], none) := by cases n <;> rfl
theorem uKinds_step {n k : Nat} {s : St} (hk : k < n) : uKinds (n - k) s = ((num 1 s).1 :: (uKinds (n - (k + 1)) (num 1 s).2).1, (uKinds (n - (k + 1)) (num 1 s).2).2) := by
  obtain ⟨m, hm⟩ : ∃ m, n - k = m + 1 := ⟨n - k - 1, by omega⟩
  rw [hm, show n - (k + 1) = m by omega]
  rfl
theorem kinds_ok (n : Nat) (s : St) (h : (uKinds n s).1.all kindB = true) : (pKinds n s).2 = (uKinds n s).2 ∧ ((uKinds n s).2 ≠ none → (pKinds n s).1 = (uKinds n s).1) := by
  induction n generalizing s with
  | zero => exact ⟨rfl, fun _ => rfl⟩
  | succ n ih =>
    cases s with
    | none => rw [pKinds_none, uKinds_none]; exact ⟨rfl, fun h => absurd rfl h⟩
    | some l =>
      simp only [uKinds, List.all_cons, Bool.and_eq_true] at h
      obtain ⟨h1, h2⟩ := h
      simp only [pKinds, uKinds, h1, need_true]
      obtain ⟨i1, i2⟩ := ih _ h2
      exact ⟨i1, fun hn => by rw [i2 hn]⟩
theorem kinds_no (n : Nat) (s : St) (h : (uKinds n s).1.all kindB = false) : (pKinds n s).2 = none := by
  induction n generalizing s with
  | zero => cases h
  | succ n ih =>
    cases s with
    | none => rw [pKinds_none]
    | some l =>
      simp only [pKinds]
      cases h1 : kindB (num 1 (some l)).1 with
      | false => rw [need_false, pKinds_none]
      | true =>
        simp only [uKinds, List.all_cons, h1, Bool.true_and] at h
        rw [need_true]
        exact ih _ h
theorem pInss_none' (m : Nat) : pInss m none = ([], none) := by cases m <;> rfl

/-- a function, unlooked at -/
def uFn (s : St) : Fn × St :=
  let a := num 1 s
  let b := num 1 a.2
  let k := uKinds b.1.toNat b.2
  let r := num 1 k.2
  let q := pKeep r.2
  let c := num 2 q.2
  let i := pInss c.1.toNat c.2
  (⟨a.1, k.1, decide (r.1 = 1), q.1, i.1⟩, i.2)
/-- may it be? -/
def uOk (s : St) : Bool :=
  let a := num 1 s
  let b := num 1 a.2
  let k := uKinds b.1.toNat b.2
  let r := num 1 k.2
  k.1.all kindB && (decide (r.1 ≤ 1) && decide (a.1 ≤ b.1))
theorem pKeep_none : (pKeep none).2 = none := rfl
theorem rest_none (c : Nat) (x : Nat) : (pInss c (num x (pKeep none).2).2).2 = none := by rw [pKeep_none, num_none, pInss_none']
theorem tail_none (s : St) (h : s = none) : (pInss (num 2 (pKeep (pFlag s).2).2).1.toNat (num 2 (pKeep (pFlag s).2).2).2).2 = none := by
  subst h
  rw [show (pFlag none).2 = none from rfl]
  exact rest_none _ _
theorem uFn_tail {s : St} (h : (num 2 (pKeep (num 1 s).2).2).2 = none) (c : Nat) : (pInss c (num 2 (pKeep (num 1 s).2).2).2).2 = none := by rw [h, pInss_none']
theorem fn_ok (s : St) (h : uOk s = true) : (pFn s).2 = (uFn s).2 ∧ ((uFn s).2 ≠ none → pFn s = uFn s) := by
  unfold uOk at h
  simp only [Bool.and_eq_true] at h
  obtain ⟨h1, h2, h3⟩ := h
  obtain ⟨k1, k2⟩ := kinds_ok _ _ h1
  unfold pFn uFn
  simp only [h3, need_true, k1]
  unfold pFlag
  simp only [h2, need_true]
  refine ⟨by first | rfl | trivial, fun hn => ?_⟩
  rw [k2 (fun e => hn ?_)]
  rw [e]
  exact rest_none _ _
theorem fn_no (s : St) (h : uOk s = false) : (pFn s).2 = none := by
  unfold uOk at h
  unfold pFn
  simp only at h ⊢
  cases h3 : decide ((num 1 s).1 ≤ (num 1 (num 1 s).2).1) with
  | false =>
    rw [need_false, pKinds_none]
    exact tail_none _ rfl
  | true =>
    rw [need_true]
    cases h1 : (uKinds (num 1 (num 1 s).2).1.toNat (num 1 (num 1 s).2).2).1.all kindB with
    | false => exact tail_none _ (kinds_no _ _ h1)
    | true =>
      rw [h1, h3, Bool.true_and, Bool.and_true] at h
      rw [(kinds_ok _ _ h1).1]
      unfold pFlag
      simp only [h, need_false]
      exact rest_none _ _
/-- a function that ends too early is none -/
theorem fn_none (s : St) (h : (uFn s).2 = none) : (pFn s).2 = none := by
  cases ho : uOk s with
  | false => exact fn_no s ho
  | true => rw [(fn_ok s ho).1, h]
theorem fn_good (s : St) (h : uOk s = true) {r : List Int} (hr : (uFn s).2 = some r) : pFn s = uFn s := (fn_ok s h).2 (by rw [hr]; exact fun e => by cases e)
end Go.Proofs.Ytklfppeecgkpnaa
