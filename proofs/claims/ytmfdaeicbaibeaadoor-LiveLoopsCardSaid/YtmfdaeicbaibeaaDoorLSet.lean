/-
  Words as sets: the numbers of a word, of a row of words, in their order; the lowest bit taken out; rows joined. Nothing here speaks of the code.
-/
import Derived.Test.YtmfdaeicbaibeaaDoorLMath
import Derived.Lib.TrailingZeros
namespace Go.Proofs.YtmfdaeicbaibeaaDoor
set_option linter.unusedVariables false
set_option linter.unusedSimpArgs false

theorem ctz_spec (x : Nat) (h0 : x ≠ 0) (h : x < 18446744073709551616) : ∃ m, x = 2 ^ Lib.ctz 64 x * (2 * m + 1) ∧ Lib.ctz 64 x < 64 := by
  unfold Lib.ctz
  rw [if_neg h0]
  exact Lib.ctzFrom_spec 64 x (by omega) h
theorem ctz_bit (x i : Nat) (h0 : x ≠ 0) (h : x < 18446744073709551616) : (i < Lib.ctz 64 x → x.testBit i = false) ∧ x.testBit (Lib.ctz 64 x) = true := by
  obtain ⟨m, hm, _⟩ := ctz_spec x h0 h
  refine ⟨fun hi => ?_, ?_⟩
  · rw [hm, Nat.mul_comm, Nat.testBit_mul_two_pow]
    simp
    omega
  · have g : ∀ c, x = 2 ^ c * (2 * m + 1) → x.testBit c = true := by
      intro c hc
      rw [hc, Nat.mul_comm, Nat.testBit_mul_two_pow]
      simp [Nat.testBit_zero]
    exact g _ hm
/-- the lowest bit taken out -/
theorem low_out (x i : Nat) (h0 : x ≠ 0) (h : x < 18446744073709551616) : (x &&& (x - 1)).testBit i = (x.testBit i && decide (i ≠ Lib.ctz 64 x)) := by
  obtain ⟨m, hm, hc⟩ := ctz_spec x h0 h
  generalize Lib.ctz 64 x = c at hm hc
  have hp : 0 < 2 ^ c := Nat.pow_pos (by decide)
  have e1 : x = 2 ^ c * (2 * m + 1) + 0 := by omega
  have e2 : x - 1 = 2 ^ c * (2 * m) + (2 ^ c - 1) := by
    rw [hm, Nat.mul_add]
    omega
  rw [Nat.testBit_and, e2, Nat.testBit_two_pow_mul_add _ (by omega)]
  by_cases hi : i < c
  · have h1 : x.testBit i = false := by
      rw [hm, Nat.mul_comm, Nat.testBit_mul_two_pow]
      simp
      omega
    simp [h1]
  · rw [if_neg hi, hm, Nat.mul_comm (2 ^ c), Nat.testBit_mul_two_pow]
    simp only [ge_iff_le, Nat.le_of_not_lt hi, decide_true, Bool.true_and]
    by_cases he : i = c
    · subst he
      simp [Nat.testBit_zero]
    · obtain ⟨j, rfl⟩ : ∃ j, i = c + (j + 1) := ⟨i - c - 1, by omega⟩
      rw [show c + (j + 1) - c = j + 1 by omega, Nat.testBit_succ, Nat.testBit_succ]
      simp only [he, ne_eq, not_false_eq_true, decide_true, Bool.and_true]
      rw [show (2 * m + 1) / 2 = m by omega, show 2 * m / 2 = m by omega, Bool.and_self]
theorem low_lt (x : Nat) (h0 : x ≠ 0) : x &&& (x - 1) < x := by
  have : x &&& (x - 1) ≤ x - 1 := Nat.and_le_right
  omega
/-- the numbers of a word below t, in their order -/
def bitsL (w t : Nat) : List Nat := (List.range t).filter w.testBit
/-- a word under way: its bits from t on -/
def RestW (w x t : Nat) : Prop := t ≤ 64 ∧ ∀ i, x.testBit i = (decide (t ≤ i) && w.testBit i)
theorem RestW.start (w : Nat) : RestW w w 0 := ⟨by omega, fun i => by simp⟩
theorem filter_range_skip (P : Nat → Bool) (t : Nat) : ∀ c, t ≤ c → (∀ i, t ≤ i → i < c → P i = false) → (List.range c).filter P = (List.range t).filter P
  | 0, h, _ => by rw [show t = 0 by omega]
  | c + 1, h, hP => by
    by_cases e : t = c + 1
    · rw [e]
    · rw [List.range_succ, List.filter_append, filter_range_skip P t c (by omega) (fun i h1 h2 => hP i h1 (by omega))]
      simp [hP c (by omega) (by omega)]
theorem RestW.step {w x t : Nat} (h : RestW w x t) (h0 : x ≠ 0) (hx : x < 18446744073709551616) :
    RestW w (x &&& (x - 1)) (Lib.ctz 64 x + 1) ∧ bitsL w (Lib.ctz 64 x + 1) = bitsL w t ++ [Lib.ctz 64 x] := by
  obtain ⟨_, _, hc⟩ := ctz_spec x h0 hx
  have hb := ctz_bit x (Lib.ctz 64 x) h0 hx
  have ht : t ≤ Lib.ctz 64 x := by
    have h2 := hb.2
    rw [h.2] at h2
    simp at h2
    exact h2.1
  have hwc : w.testBit (Lib.ctz 64 x) = true := by
    have h2 := hb.2
    rw [h.2] at h2
    simp at h2
    exact h2.2
  have hlow : ∀ i, t ≤ i → i < Lib.ctz 64 x → w.testBit i = false := by
    intro i h1 h2
    have h3 := (ctz_bit x i h0 hx).1 h2
    rw [h.2] at h3
    simpa [h1] using h3
  refine ⟨⟨by omega, fun i => ?_⟩, ?_⟩
  · rw [low_out x i h0 hx, h.2 i]
    by_cases h1 : Lib.ctz 64 x + 1 ≤ i
    · have h2 : t ≤ i := by omega
      have h3 : ¬ i = Lib.ctz 64 x := by omega
      simp [h1, h2, h3]
    · by_cases h3 : i = Lib.ctz 64 x
      · simp only [h1, decide_false, Bool.false_and]
        simp [h3]
      · by_cases h2 : t ≤ i
        · simp [hlow i h2 (by omega), h1]
        · simp [h2, h1]
  · unfold bitsL
    rw [List.range_succ, List.filter_append, filter_range_skip _ t _ ht hlow]
    simp [hwc]
theorem RestW.done {w t : Nat} (h : RestW w 0 t) (hw : w < 18446744073709551616) : bitsL w 64 = bitsL w t := by
  refine filter_range_skip _ t 64 h.1 fun i h1 h2 => ?_
  have := h.2 i
  simpa [h1] using this.symm
theorem RestW.lt {w x t : Nat} (h : RestW w x t) (hw : w < 18446744073709551616) : x < 18446744073709551616 := by
  have h64 : w < 2 ^ 64 := hw
  refine Nat.lt_pow_two_of_testBit x (n := 64) fun i hi => ?_
  rw [h.2 i]
  have : w.testBit i = false := Nat.testBit_lt_two_pow (Nat.lt_of_lt_of_le h64 (Nat.pow_le_pow_right (by decide) hi))
  simp [this]
/-- the numbers of k words -/
def listK (ws : List Nat) (k : Nat) : List Int := ((List.range (64 * k)).filter (hasW ws)).map fun (j : Nat) => (j : Int)
theorem listK_zero (ws : List Nat) : listK ws 0 = [] := rfl
theorem listK_succ (ws : List Nat) (k : Nat) : listK ws (k + 1) = listK ws k ++ (bitsL (ws.getD k 0) 64).map fun (c : Nat) => ((64 * k + c : Nat) : Int) := by
  unfold listK bitsL
  rw [show 64 * (k + 1) = 64 * k + 64 by omega, List.range_add, List.filter_append, List.map_append, List.filter_map, List.map_map]
  congr 1
  have : (List.range 64).filter (hasW ws ∘ fun x => 64 * k + x) = (List.range 64).filter (ws.getD k 0).testBit := by
    refine List.filter_congr fun c hc => ?_
    have hc' : c < 64 := List.mem_range.1 hc
    show hasW ws (64 * k + c) = _
    unfold hasW
    rw [show (64 * k + c) / 64 = k by omega, show (64 * k + c) % 64 = c by omega]
  rw [this]
  rfl
/-- .. of all -/
theorem listK_all {ws : List Nat} {q m : Nat} (hq : m ≤ 64 * q) (hm : ∀ j, hasW ws j = true → j < m) : listK ws q = ((List.range m).filter (hasW ws)).map fun (j : Nat) => (j : Int) := by
  unfold listK
  rw [filter_range_skip _ m (64 * q) hq fun i h1 _ => by
    rcases e : hasW ws i with _ | _
    · rfl
    · have := hm i e; omega]
theorem listK_len (ws : List Nat) (k : Nat) : (listK ws k).length ≤ 64 * k := by
  unfold listK
  rw [List.length_map]
  have := List.length_filter_le (hasW ws) (List.range (64 * k))
  simpa using this
theorem bitsL_len (w t : Nat) : (bitsL w t).length ≤ t := by
  have := List.length_filter_le w.testBit (List.range t)
  simpa [bitsL] using this
/-- rows of words joined, k of them -/
def orK (ws vs : List Nat) (k : Nat) : List Nat := (List.range ws.length).map fun i => if i < k then ws.getD i 0 ||| vs.getD i 0 else ws.getD i 0
theorem orK_len (ws vs : List Nat) (k : Nat) : (orK ws vs k).length = ws.length := by simp [orK]
theorem orK_at (ws vs : List Nat) (k i : Nat) : (orK ws vs k).getD i 0 = if i < ws.length ∧ i < k then ws.getD i 0 ||| vs.getD i 0 else ws.getD i 0 := by
  unfold orK
  rw [List.getD_eq_getElem?_getD, List.getElem?_map]
  by_cases h : i < ws.length
  · rw [List.getElem?_range h]
    simp [h]
  · rw [List.getElem?_eq_none (by simp; omega)]
    have : ws[i]? = none := List.getElem?_eq_none (by omega)
    simp [h, this]
theorem orK_zero (ws vs : List Nat) : orK ws vs 0 = ws := by
  apply List.ext_getElem?
  intro i
  unfold orK
  rw [List.getElem?_map]
  by_cases h : i < ws.length
  · simp [h]
  · simp [h]
theorem orK_succ (ws vs : List Nat) (k : Nat) (hk : k < ws.length) : orK ws vs (k + 1) = (orK ws vs k).set k (ws.getD k 0 ||| vs.getD k 0) := by
  apply List.ext_getElem?
  intro i
  rw [List.getElem?_set]
  unfold orK
  rw [List.getElem?_map, List.getElem?_map, List.length_map, List.length_range]
  by_cases h : i < ws.length
  · by_cases e : k = i
    · subst e
      simp [h]
    · have h1 : i < k + 1 ↔ i < k := by omega
      simp [h, e, h1]
  · have : ¬ k = i := by omega
    simp [h, this]
theorem orK_has {ws vs : List Nat} {q : Nat} (h1 : ws.length = q) (h2 : vs.length = q) (j : Nat) : hasW (orK ws vs q) j = (hasW ws j || hasW vs j) := by
  unfold hasW
  rw [orK_at]
  by_cases h : j / 64 < q
  · rw [if_pos ⟨by omega, h⟩, Nat.testBit_or]
  · rw [if_neg (fun hh => h hh.2)]
    have : vs.getD (j / 64) 0 = 0 := by
      rw [List.getD_eq_getElem?_getD, List.getElem?_eq_none (by omega)]
      rfl
    rw [this]
    simp
theorem orK_lt {ws vs : List Nat} (h1 : ∀ x ∈ ws, x < 18446744073709551616) (h2 : ∀ x ∈ vs, x < 18446744073709551616) (k : Nat) : ∀ x ∈ orK ws vs k, x < 18446744073709551616 := by
  have g : ∀ (l : List Nat), (∀ x ∈ l, x < 18446744073709551616) → ∀ i, l.getD i 0 < 2 ^ 64 := by
    intro l hl i
    rw [List.getD_eq_getElem?_getD]
    rcases e : l[i]? with _ | y
    · simp
    · simpa using hl y (List.mem_of_getElem? e)
  intro x hx
  obtain ⟨i, _, rfl⟩ := List.mem_map.1 hx
  show (if i < k then _ else _) < 2 ^ 64
  split
  · exact Nat.or_lt_two_pow (g ws h1 i) (g vs h2 i)
  · exact g ws h1 i
/-- what is added of a word whose numbers are below n -/
theorem or_added (x t s : Nat) (hx : x < 18446744073709551616) (ht : t < 18446744073709551616) (hs : ∀ i, t.testBit i = true → i < s) (hs64 : s ≤ 64) :
    x ||| ((t &&& (18446744073709551615 - x)) &&& (2 ^ s - 1)) = x ||| t := by
  apply Nat.eq_of_testBit_eq
  intro i
  have e : 18446744073709551615 - x = 2 ^ 64 - (x + 1) := by omega
  rw [Nat.testBit_or, Nat.testBit_or, Nat.testBit_and, Nat.testBit_and, Nat.testBit_two_pow_sub_one, e, Nat.testBit_two_pow_sub_succ (by omega)]
  rcases ht' : t.testBit i with _ | _
  · simp
  · have h1 := hs i ht'
    have h2 : i < 64 := by omega
    simp [h1, h2]
end Go.Proofs.YtmfdaeicbaibeaaDoor
