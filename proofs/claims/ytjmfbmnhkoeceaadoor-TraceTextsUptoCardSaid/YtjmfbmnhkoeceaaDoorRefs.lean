/-
  What the document's Read makes of words: plain facts, and the contracts of behind and value by case.
-/
import Derived.Test.YtjmfbmnhkoeceaaDoorSplit
namespace Go.Proofs.YtjmfbmnhkoeceaaDoor
set_option linter.unusedVariables false
open Go.ChangeShapes Go.WideShapes Go.ChangeAt Go.RowKit

theorem behind_yes (p wd : List UInt8) (h : p.isPrefixOf wd = true) (hd : wd.length ≤ 1073741824) (hp : p.length ≤ 100) (w : World) :
    Calls Tryd.prog 36 #[.string (str wd), .string (str p)] w fun e w' => e = .returned (.tuple #[.string (str (wd.drop p.length)), .bool true]) ∧ w = w' := by
  have h1 := behind_any p wd hd hp w
  rw [h] at h1
  exact h1
theorem behind_not (p wd : List UInt8) (h : p.isPrefixOf wd = false) (hd : wd.length ≤ 1073741824) (hp : p.length ≤ 100) (w : World) :
    Calls Tryd.prog 36 #[.string (str wd), .string (str p)] w fun e w' => e = .returned (.tuple #[.string (str []), .bool false]) ∧ w = w' := by
  have h1 := behind_any p wd hd hp w
  rw [h] at h1
  exact h1
theorem value_yes (d : List UInt8) (v : Nat) (h : numOf d = some v) (hd : d.length ≤ 1073741824) (w : World) :
    Calls Tryd.prog 37 #[.string (str d)] w fun e w' => e = .returned (.tuple #[.int .u64 v, .bool true]) ∧ w = w' := by
  refine (value_any d hd w).mono ?_
  rintro e w' ⟨rfl, rfl⟩
  rw [h]
  exact ⟨rfl, rfl⟩
theorem value_not (d : List UInt8) (h : numOf d = none) (hd : d.length ≤ 1073741824) (w : World) :
    Calls Tryd.prog 37 #[.string (str d)] w fun e w' => e = .returned (.tuple #[.int .u64 0, .bool false]) ∧ w = w' := by
  refine (value_any d hd w).mono ?_
  rintro e w' ⟨rfl, rfl⟩
  rw [h]
  exact ⟨rfl, rfl⟩

theorem wordsOf_len (t : List UInt8) : (wordsOf t).length ≤ t.length + 1 := by
  induction t with
  | nil => simp [wordsOf]
  | cons b r ih =>
    rw [wordsOf]
    split
    · simp only [List.length_cons]; omega
    · split
      · simp
      · rename_i h
        rw [h] at ih
        simp only [List.length_cons] at ih ⊢
        omega
theorem wordsOf_mem (t : List UInt8) : ∀ wd ∈ wordsOf t, wd.length ≤ t.length := by
  induction t with
  | nil => simp [wordsOf]
  | cons b r ih =>
    intro wd h
    rw [wordsOf] at h
    split at h
    · rcases List.mem_cons.1 h with rfl | h
      · simp
      · have := ih wd h; simp only [List.length_cons]; omega
    · split at h
      · simp at h; subst h; simp
      · rename_i v vs e
        rcases List.mem_cons.1 h with rfl | h
        · have := ih v (by rw [e]; simp); simp only [List.length_cons]; omega
        · have := ih wd (by rw [e]; simp [h]); simp only [List.length_cons]; omega

/-- the beginnings of events' words, and what is read of one so far -/
def vP (j : Nat) : List UInt8 := if j = 0 then outW else inW
def vAt (wd : List UInt8) : Nat → Ev
  | 0 => (0, 0)
  | j + 1 => match numB (vP j) wd with
    | some v => ((j : Int) + 1, (v : Int))
    | none => vAt wd j
theorem vAt_no {wd : List UInt8} {j : Nat} (h : numB (vP j) wd = none) : vAt wd (j + 1) = vAt wd j := by rw [vAt, h]
theorem vAt_yes {wd : List UInt8} {j v : Nat} (h : numB (vP j) wd = some v) : vAt wd (j + 1) = ((j : Int) + 1, (v : Int)) := by rw [vAt, h]
theorem numB_pre {p wd : List UInt8} (h : p.isPrefixOf wd = true) : numB p wd = numOf (wd.drop p.length) := by unfold numB; rw [if_pos h]
theorem numB_not {p wd : List UInt8} (h : p.isPrefixOf wd = false) : numB p wd = none := by unfold numB; rw [if_neg (by rw [h]; decide)]
theorem vAt_ev (wd : List UInt8) : (∃ x, evOf wd = some x ∧ vAt wd 2 = x ∧ (x.1 == 0) = false) ∨ (evOf wd = none ∧ vAt wd 2 = (0, 0)) := by
  unfold evOf
  cases h1 : numB outW wd with
  | some v =>
    left
    refine ⟨_, rfl, ?_, rfl⟩
    have e := (numB_some h1).1
    have h2 : numB (vP 1) wd = none := by rw [e]; rfl
    rw [vAt_no h2, vAt_yes (j := 0) (v := v) h1]
    rfl
  | none =>
    cases h2 : numB inW wd with
    | some v =>
      left
      refine ⟨_, rfl, ?_, rfl⟩
      rw [vAt_yes (j := 1) (v := v) h2]
      rfl
    | none =>
      right
      refine ⟨rfl, ?_⟩
      rw [vAt_no (j := 1) h2, vAt_no (j := 0) h1]
      rfl

/-- the beginnings and the names of endings' words -/
def eP (j : Nat) : List UInt8 := if j = 0 then exitW else panicW
def eN (j : Nat) : List UInt8 := if j = 0 then fuelW else if j = 1 then stackW else stuckW
theorem end_num {wd : List UInt8} (h1 : wd ≠ fuelW) (h2 : wd ≠ stackW) (h3 : wd ≠ stuckW) : endOf wd = match numB exitW wd with
    | some v => some (1, (v : Int))
    | none => match numB panicW wd with
      | some v => some (2, (v : Int))
      | none => none := by
  unfold endOf
  rw [if_neg h1, if_neg h2, if_neg h3]
  cases numB exitW wd <;> cases numB panicW wd <;> rfl
theorem pre_of {p wd : List UInt8} (h : p.isPrefixOf wd = true) : ∃ r, wd = p ++ r := by
  obtain ⟨r, hr⟩ := List.isPrefixOf_iff_prefix.1 h
  exact ⟨r, hr.symm⟩
theorem end_pre {wd : List UInt8} {j : Nat} (hj : j < 2) (h : (eP j).isPrefixOf wd = true) : endOf wd = (numOf (wd.drop (eP j).length)).map fun v => ((j : Int) + 1, (v : Int)) := by
  obtain ⟨r, hr⟩ := pre_of h
  rcases (by omega : j = 0 ∨ j = 1) with rfl | rfl
  · have hr' : wd = exitW ++ r := hr
    have a1 : wd ≠ fuelW := by rw [hr']; intro e; cases e
    have a2 : wd ≠ stackW := by rw [hr']; intro e; cases e
    have a3 : wd ≠ stuckW := by rw [hr']; intro e; cases e
    have b2 : numB panicW wd = none := by rw [hr']; rfl
    rw [end_num a1 a2 a3, b2, numB_pre (p := exitW) h]
    have e : (eP 0) = exitW := rfl
    rw [e]
    cases numOf (wd.drop exitW.length) <;> rfl
  · have hr' : wd = panicW ++ r := hr
    have a1 : wd ≠ fuelW := by rw [hr']; intro e; cases e
    have a2 : wd ≠ stackW := by rw [hr']; intro e; cases e
    have a3 : wd ≠ stuckW := by rw [hr']; intro e; cases e
    have b2 : numB exitW wd = none := by rw [hr']; rfl
    rw [end_num a1 a2 a3, b2, numB_pre (p := panicW) h]
    have e : (eP 1) = panicW := rfl
    rw [e]
    cases numOf (wd.drop panicW.length) <;> rfl
theorem end_name {wd : List UInt8} {j : Nat} (hj : j < 3) (h : wd = eN j) : endOf wd = some ((j : Int) + 3, 0) := by
  subst h
  rcases (by omega : j = 0 ∨ j = 1 ∨ j = 2) with rfl | rfl | rfl <;> rfl
theorem end_no {wd : List UInt8} (h1 : ∀ j, j < 2 → (eP j).isPrefixOf wd = false) (h2 : ∀ j, j < 3 → wd ≠ eN j) : endOf wd = none := by
  have n0 : numB exitW wd = none := numB_not (h1 0 (by omega))
  have n1 : numB panicW wd = none := numB_not (h1 1 (by omega))
  rw [end_num (h2 0 (by omega)) (h2 1 (by omega)) (h2 2 (by omega)), n0, n1]

theorem drop_one {ws : List (List UInt8)} {k : Nat} {wd : List UInt8} (h : ws[k]? = some wd) : ws.drop k = wd :: ws.drop (k + 1) := by
  have hlt := (List.getElem?_eq_some_iff.1 h).1
  rw [List.drop_eq_getElem_cons hlt]
  congr 1
  exact (List.getElem?_eq_some_iff.1 h).2
theorem readW_on {ws : List (List UInt8)} {k : Nat} {wd : List UInt8} (h : ws[k]? = some wd) (hk : k + 1 < ws.length) : readW (ws.drop k) = match evOf wd, readW (ws.drop (k + 1)) with
    | some x, some p => some (x :: p.1, p.2)
    | _, _ => none := by
  have hne : ws.drop (k + 1) ≠ [] := by
    intro e
    have := congrArg List.length e
    simp at this
    omega
  rw [drop_one h, readW_cons hne]
  cases evOf wd <;> cases readW (ws.drop (k + 1)) <;> rfl
theorem read_no {ws : List (List UInt8)} {k : Nat} {wd : List UInt8} (acc : List Ev) (h : ws[k]? = some wd) (hk : k + 1 < ws.length) (he : evOf wd = none) : glue acc (readW (ws.drop k)) = none := by
  rw [readW_on h hk, he]
  cases readW (ws.drop (k + 1)) <;> rfl
theorem read_yes {ws : List (List UInt8)} {k : Nat} {wd : List UInt8} {x : Ev} (acc : List Ev) (h : ws[k]? = some wd) (hk : k + 1 < ws.length) (he : evOf wd = some x) : glue acc (readW (ws.drop k)) = glue (acc ++ [x]) (readW (ws.drop (k + 1))) := by
  rw [readW_on h hk, he]
  cases readW (ws.drop (k + 1)) with
  | none => rfl
  | some p => simp [glue]
theorem readW_last {ws : List (List UInt8)} {k : Nat} {wd : List UInt8} (h : ws[k]? = some wd) (hk : k + 1 = ws.length) : readW (ws.drop k) = (endOf wd).map fun e => ([], e) := by
  rw [drop_one h, List.drop_eq_nil_of_le (by omega)]
  rfl
theorem strs_at {ws : List (List UInt8)} {k : Nat} {wd : List UInt8} (h : ws[k]? = some wd) : (strs ws)[k]? = some (.string (str wd)) := by
  unfold strs
  rw [List.getElem?_map, h]
  rfl
end Go.Proofs.YtjmfbmnhkoeceaaDoor
