/-
  Plain lists of bytes: numbers as they are written, words at blanks, what a text is read as.
-/
import Derived.Test.YtjmfbmnhkoeceaaDoorWords
import Derived.Lib.ParseIntB
import Derived.Lib.IndexMore
namespace Go.Proofs.YtjmfbmnhkoeceaaDoor
set_option linter.unusedVariables false

/-! ### numbers -/
def valStep (n : Nat) (b : UInt8) : Nat := 10 * n + (b.toNat - 48)
/-- what the digits say -/
def valOf (d : List UInt8) : Nat := d.foldl valStep 0
theorem valOf_snoc (d : List UInt8) (b : UInt8) : valOf (d ++ [b]) = 10 * valOf d + (b.toNat - 48) := by simp [valOf, valStep]
theorem valOf_le (d e : List UInt8) : valOf d ≤ valOf (d ++ e) := by
  induction e generalizing d with
  | nil => simp
  | cons b e ih =>
    have h := ih (d ++ [b])
    rw [valOf_snoc, List.append_assoc] at h
    exact Nat.le_trans (by omega) h
theorem dig_val (x : Nat) (h : x < 10) : (UInt8.ofNat (48 + x)).toNat = 48 + x := by simp; omega
theorem valOf_dec (v : Nat) : valOf (Lib.decDigits v) = v := by
  induction v using Nat.strongRecOn with
  | _ v ih =>
    rw [Lib.decDigits]
    split
    · rename_i h
      have e : valOf [UInt8.ofNat (48 + v)] = 10 * 0 + ((UInt8.ofNat (48 + v)).toNat - 48) := rfl
      rw [e, dig_val v h]; omega
    · rename_i h
      rw [valOf_snoc, ih (v / 10) (by omega), dig_val _ (by omega)]
      omega
theorem dec_head (v : Nat) (h : (Lib.decDigits v).head? = some 48) : v = 0 := by
  induction v using Nat.strongRecOn with
  | _ v ih =>
    rw [Lib.decDigits] at h
    split at h
    · rename_i hv
      simp only [List.head?_cons, Option.some.injEq] at h
      have := dig_val v hv
      rw [h] at this
      have e : (48 : UInt8).toNat = 48 := rfl
      omega
    · rename_i hv
      have hne := dec_ne (v / 10)
      rw [List.head?_append] at h
      cases hh : (Lib.decDigits (v / 10)).head? with
      | none =>
        rw [List.head?_eq_none_iff] at hh
        rw [hh] at hne
        simp at hne
      | some b =>
        rw [hh] at h
        simp only [Option.some_or, Option.some.injEq] at h
        have := ih (v / 10) (by omega) (by rw [hh, h])
        omega
theorem dec_snoc (n x : Nat) (hn : 0 < n) (hx : x < 10) : Lib.decDigits (10 * n + x) = Lib.decDigits n ++ [UInt8.ofNat (48 + x)] := by
  rw [Lib.decDigits, dif_neg (by omega)]
  have e1 : (10 * n + x) / 10 = n := by omega
  have e2 : (10 * n + x) % 10 = x := by omega
  rw [e1, e2]

/-- a row of digits -/
def AllDig (d : List UInt8) : Prop := ∀ b ∈ d, 48 ≤ b.toNat ∧ b.toNat ≤ 57
/-- a numeral's form: a digit at least, no nought ahead of others -/
def Canon (d : List UInt8) : Prop := d ≠ [] ∧ AllDig d ∧ (d.length = 1 ∨ d.head? ≠ some 48)
theorem dig_of (b : UInt8) (h : 48 ≤ b.toNat ∧ b.toNat ≤ 57) : UInt8.ofNat (48 + (b.toNat - 48)) = b := by
  have : 48 + (b.toNat - 48) = b.toNat := by omega
  rw [this]; simp
theorem canon_pos : ∀ (n : Nat) (d : List UInt8), d.length = n → AllDig d → d ≠ [] → d.head? ≠ some 48 → 0 < valOf d ∧ Lib.decDigits (valOf d) = d := by
  intro n
  induction n with
  | zero => intro d h1 _ h3 _; exact absurd (List.eq_nil_of_length_eq_zero h1) h3
  | succ n ih =>
    intro d hl ha hne hh
    obtain ⟨d', b, rfl⟩ : ∃ d' b, d = d' ++ [b] := ⟨d.dropLast, d.getLast hne, (List.dropLast_concat_getLast hne).symm⟩
    have hb := ha b (by simp)
    rw [valOf_snoc]
    by_cases h0 : d' = []
    · subst h0
      have hb0 : b.toNat ≠ 48 := by
        intro e
        apply hh
        have : b = 48 := UInt8.toNat_inj.1 e
        simp [this]
      have e : valOf [] = 0 := rfl
      rw [e]
      refine ⟨by omega, ?_⟩
      rw [Nat.mul_zero, Nat.zero_add, Lib.decDigits, dif_pos (by omega), dig_of b hb]
      rfl
    · have hh' : d'.head? ≠ some 48 := by
        intro e
        apply hh
        rw [List.head?_append, e]; rfl
      obtain ⟨h1, h2⟩ := ih d' (by simpa using hl) (fun x hx => ha x (by simp [hx])) h0 hh'
      refine ⟨by omega, ?_⟩
      rw [dec_snoc _ _ h1 (by omega), h2, dig_of b hb]
theorem canon_dec {d : List UInt8} (h : Canon d) : Lib.decDigits (valOf d) = d := by
  obtain ⟨hne, ha, hl⟩ := h
  by_cases hh : d.head? = some 48
  · have h1 : d.length = 1 := by
      rcases hl with h | h
      · exact h
      · exact absurd hh h
    obtain ⟨b, rfl⟩ := List.length_eq_one_iff.1 h1
    simp at hh
    subst hh
    have e : valOf [48] = 0 := rfl
    rw [e, Lib.decDigits]
    rfl
  · exact (canon_pos _ d rfl ha hne hh).2
theorem dec_canon (v : Nat) : Canon (Lib.decDigits v) := by
  refine ⟨?_, dec_digit v, ?_⟩
  · have := dec_ne v
    intro e
    rw [e] at this
    simp at this
  · by_cases hh : (Lib.decDigits v).head? = some 48
    · have := dec_head v hh
      subst this
      left
      rw [Lib.decDigits]; rfl
    · exact .inr hh

/-- the number that a text is, if it is one -/
def numOf (d : List UInt8) : Option Nat := if Lib.decDigits (valOf d) = d ∧ valOf d < 18446744073709551616 then some (valOf d) else none
theorem numOf_dec {v : Nat} (h : v < 18446744073709551616) : numOf (Lib.decDigits v) = some v := by
  unfold numOf
  rw [valOf_dec, if_pos ⟨rfl, h⟩]
theorem numOf_some {d : List UInt8} {v : Nat} (h : numOf d = some v) : Lib.decDigits v = d ∧ v < 18446744073709551616 := by
  unfold numOf at h
  split at h
  · rename_i h1
    injection h with h
    subst h
    exact h1
  · cases h
theorem numOf_canon {d : List UInt8} (h : Canon d) (hv : valOf d < 18446744073709551616) : numOf d = some (valOf d) := by
  unfold numOf
  rw [if_pos ⟨canon_dec h, hv⟩]
theorem numOf_none {d : List UInt8} (h : ¬ Canon d) : numOf d = none := by
  cases hn : numOf d with
  | none => rfl
  | some v => exact absurd ((numOf_some hn).1 ▸ dec_canon v) h
theorem numOf_big {d : List UInt8} (h : 18446744073709551616 ≤ valOf d) : numOf d = none := by
  unfold numOf
  rw [if_neg (by omega)]

/-- the library's reading of a numeral -/
theorem parseM_dec (acc : Nat) : ∀ (d : List UInt8), AllDig d → (∀ k, k ≤ d.length → (d.take k).foldl valStep acc < 18446744073709551616) → Lib.parseUintM (2 ^ 64 - 1) acc d = .ok (d.foldl valStep acc)
  | [], _, _ => rfl
  | c :: r, ha, hb => by
    have hc := ha c (by simp)
    have h1 := hb 1 (by simp)
    simp only [List.take_succ_cons, List.take_zero, List.foldl_cons, List.foldl_nil, valStep] at h1
    rw [Lib.parseUintM, if_pos hc, if_neg (by omega), if_neg (by omega)]
    have e : acc * 10 + (c.toNat - 48) = valStep acc c := by unfold valStep; omega
    rw [e]
    exact parseM_dec (valStep acc c) r (fun x hx => ha x (by simp [hx])) (fun k hk => by
      have := hb (k + 1) (by simpa using hk)
      simpa using this)
theorem parse_dec {v : Nat} (h : v < 18446744073709551616) : Lib.parseUintB 64 (Lib.decDigits v) = .ok v := by
  unfold Lib.parseUintB
  rw [if_neg (dec_canon v).1]
  have h1 := parseM_dec 0 (Lib.decDigits v) (dec_digit v) (fun k hk => by
    have h2 : valOf ((Lib.decDigits v).take k) ≤ valOf (Lib.decDigits v) := by
      have := valOf_le ((Lib.decDigits v).take k) ((Lib.decDigits v).drop k)
      rwa [List.take_append_drop] at this
    rw [valOf_dec] at h2
    exact Nat.lt_of_le_of_lt h2 h)
  rw [h1]
  exact congrArg _ (valOf_dec v)

/-! ### words -/
/-- the words of a text, at single blanks -/
def wordsOf : List UInt8 → List (List UInt8)
  | [] => [[]]
  | b :: r => if b = 32 then [] :: wordsOf r else match wordsOf r with
    | [] => [[b]]
    | w :: ws => (b :: w) :: ws
theorem wordsOf_ne (t : List UInt8) : wordsOf t ≠ [] := by
  cases t with
  | nil => simp [wordsOf]
  | cons b r =>
    rw [wordsOf]
    split
    · simp
    · split <;> simp
theorem wordsOf_one {t : List UInt8} (h : (32 : UInt8) ∉ t) : wordsOf t = [t] := by
  induction t with
  | nil => rfl
  | cons b r ih =>
    have hb : b ≠ 32 := by rintro rfl; exact h (by simp)
    rw [wordsOf, if_neg hb, ih (fun hr => h (by simp [hr]))]
theorem wordsOf_cut {w r : List UInt8} (h : (32 : UInt8) ∉ w) : wordsOf (w ++ 32 :: r) = w :: wordsOf r := by
  induction w with
  | nil => simp [wordsOf]
  | cons b w ih =>
    have hb : b ≠ 32 := by rintro rfl; exact h (by simp)
    rw [List.cons_append, wordsOf, if_neg hb, ih (fun hr => h (by simp [hr]))]

/-- what stands behind a beginning is a number -/
def numB (p w : List UInt8) : Option Nat := if p.isPrefixOf w then numOf (w.drop p.length) else none
def outW : List UInt8 := [111, 117, 116, 61]
def inW : List UInt8 := [105, 110, 61]
def exitW : List UInt8 := [101, 120, 105, 116, 61]
def panicW : List UInt8 := [112, 97, 110, 105, 99, 61]
def fuelW : List UInt8 := [102, 117, 101, 108]
def stackW : List UInt8 := [115, 116, 97, 99, 107]
def stuckW : List UInt8 := [115, 116, 117, 99, 107]
/-- an event of a word -/
def evOf (w : List UInt8) : Option Ev :=
  match numB outW w with
  | some v => some (1, (v : Int))
  | none => match numB inW w with
    | some v => some (2, (v : Int))
    | none => none
/-- an ending of a word -/
def endOf (w : List UInt8) : Option Ev :=
  if w = fuelW then some (3, 0) else if w = stackW then some (4, 0) else if w = stuckW then some (5, 0) else
  match numB exitW w with
  | some v => some (1, (v : Int))
  | none => match numB panicW w with
    | some v => some (2, (v : Int))
    | none => none
/-- what words are read as -/
def readW : List (List UInt8) → Option (List Ev × Ev)
  | [] => none
  | [w] => (endOf w).map fun e => ([], e)
  | w :: ws => match evOf w, readW ws with
    | some x, some p => some (x :: p.1, p.2)
    | _, _ => none
def readL (t : List UInt8) : Option (List Ev × Ev) := readW (wordsOf t)
theorem readW_cons {w : List UInt8} {ws : List (List UInt8)} (h : ws ≠ []) : readW (w :: ws) = match evOf w, readW ws with
    | some x, some p => some (x :: p.1, p.2)
    | _, _ => none := by
  cases ws with
  | nil => exact absurd rfl h
  | cons v vs => rw [readW]; intro e; cases e
theorem readL_one {t : List UInt8} (h : (32 : UInt8) ∉ t) : readL t = (endOf t).map fun e => ([], e) := by unfold readL; rw [wordsOf_one h]; rfl
theorem readL_cut {w r : List UInt8} (h : (32 : UInt8) ∉ w) : readL (w ++ 32 :: r) = match evOf w, readL r with
    | some x, some p => some (x :: p.1, p.2)
    | _, _ => none := by unfold readL; rw [wordsOf_cut h, readW_cons (wordsOf_ne r)]

/-- what was read so far, ahead of the rest -/
def glue (acc : List Ev) (r : Option (List Ev × Ev)) : Option (List Ev × Ev) := r.map fun p => (acc ++ p.1, p.2)
theorem glue_nil (r : Option (List Ev × Ev)) : glue [] r = r := by cases r <;> rfl
theorem glue_step (acc : List Ev) (x : Ev) (r : Option (List Ev × Ev)) : glue acc (match some x, r with
    | some x, some p => some (x :: p.1, p.2)
    | _, _ => none) = glue (acc ++ [x]) r := by
  cases r with
  | none => rfl
  | some p => simp [glue]

/-! ### what is read is what is written -/
theorem numB_some {p w : List UInt8} {v : Nat} (h : numB p w = some v) : w = numWord p v ∧ v < 18446744073709551616 := by
  unfold numB at h
  split at h
  · rename_i hp
    obtain ⟨h1, h2⟩ := numOf_some h
    refine ⟨?_, h2⟩
    unfold numWord
    rw [Int.toNat_natCast, h1]
    obtain ⟨s, hs⟩ := List.isPrefixOf_iff_prefix.1 hp
    rw [← hs, List.drop_left]
  · cases h
theorem evOf_some {w : List UInt8} {x : Ev} (h : evOf w = some x) : w = evW x ∧ 0 ≤ x.2 ∧ x.2 < 18446744073709551616 := by
  unfold evOf at h
  cases h1 : numB outW w with
  | some v =>
    rw [h1] at h
    injection h with h
    subst h
    obtain ⟨e, hv⟩ := numB_some h1
    exact ⟨by rw [e]; rfl, by omega, by omega⟩
  | none =>
    rw [h1] at h
    simp only at h
    cases h2 : numB inW w with
    | some v =>
      rw [h2] at h
      injection h with h
      subst h
      obtain ⟨e, hv⟩ := numB_some h2
      exact ⟨by rw [e]; rfl, by omega, by omega⟩
    | none => rw [h2] at h; cases h
theorem endOf_some {w : List UInt8} {x : Ev} (h : endOf w = some x) : w = endW x ∧ 0 ≤ x.2 ∧ x.2 < 18446744073709551616 := by
  unfold endOf at h
  split at h
  · rename_i e; injection h with h; subst h; exact ⟨e, by decide, by decide⟩
  split at h
  · rename_i e; injection h with h; subst h; exact ⟨e, by decide, by decide⟩
  split at h
  · rename_i e; injection h with h; subst h; exact ⟨e, by decide, by decide⟩
  cases h1 : numB exitW w with
  | some v =>
    rw [h1] at h
    injection h with h
    subst h
    obtain ⟨e, hv⟩ := numB_some h1
    exact ⟨by rw [e]; rfl, by omega, by omega⟩
  | none =>
    rw [h1] at h
    simp only at h
    cases h2 : numB panicW w with
    | some v =>
      rw [h2] at h
      injection h with h
      subst h
      obtain ⟨e, hv⟩ := numB_some h2
      exact ⟨by rw [e]; rfl, by omega, by omega⟩
    | none => rw [h2] at h; cases h

/-- a text cut at its first blank -/
theorem cut_of (t : List UInt8) : (32 : UInt8) ∉ t ∨ ∃ w r, t = w ++ 32 :: r ∧ (32 : UInt8) ∉ w := by
  induction t with
  | nil => left; simp
  | cons b t ih =>
    by_cases hb : b = 32
    · subst hb; right; exact ⟨[], t, rfl, by simp⟩
    · rcases ih with h | ⟨w, r, rfl, h⟩
      · left; simp; exact ⟨fun e => hb e.symm, h⟩
      · right; exact ⟨b :: w, r, rfl, by simp; exact ⟨fun e => hb e.symm, h⟩⟩
theorem index_none {t : List UInt8} (h : (32 : UInt8) ∉ t) : Lib.index t [32] = -1 := by
  induction t with
  | nil => rfl
  | cons b t ih =>
    have hb : b ≠ 32 := by rintro rfl; exact h (by simp)
    have hp : ([32] : List UInt8).isPrefixOf (b :: t) = false := by simp [List.isPrefixOf]; exact fun e => hb e.symm
    rw [Lib.index, hp, ih (fun hr => h (by simp [hr]))]
    rfl
theorem index_at {w r : List UInt8} (h : (32 : UInt8) ∉ w) : Lib.index (w ++ 32 :: r) [32] = w.length := by
  induction w with
  | nil => simp [Lib.index, List.isPrefixOf]
  | cons b w ih =>
    have hb : b ≠ 32 := by rintro rfl; exact h (by simp)
    have hp : ([32] : List UInt8).isPrefixOf (b :: (w ++ 32 :: r)) = false := by simp [List.isPrefixOf]; exact fun e => hb e.symm
    rw [List.cons_append, Lib.index, hp, ih (fun hr => h (by simp [hr]))]
    have : ((w.length : Int) == -1) = false := by simp
    rw [this]
    simp
theorem cut_none {t : List UInt8} (h : (32 : UInt8) ∉ t) : Lib.cut t [32] = (t, [], false) := by
  unfold Lib.cut
  rw [index_none h]
  rfl
theorem cut_at {w r : List UInt8} (h : (32 : UInt8) ∉ w) : Lib.cut (w ++ 32 :: r) [32] = (w, r, true) := by
  unfold Lib.cut
  rw [index_at h, if_pos (by omega), Int.toNat_natCast]
  simp
theorem readL_print : ∀ (n : Nat) (t : List UInt8), t.length ≤ n → ∀ p, readL t = some p → printL p.1 p.2 = t ∧ (∀ x ∈ p.1, 0 ≤ x.2 ∧ x.2 < 18446744073709551616) ∧ 0 ≤ p.2.2 ∧ p.2.2 < 18446744073709551616 ∧ p.1.length ≤ t.length := by
  intro n
  induction n with
  | zero =>
    intro t ht p hp
    obtain rfl : t = [] := List.eq_nil_of_length_eq_zero (by omega)
    have e : readL [] = none := by decide +kernel
    rw [e] at hp
    cases hp
  | succ n ih =>
    intro t ht p hp
    rcases cut_of t with h | ⟨w, r, rfl, h⟩
    · rw [readL_one h] at hp
      cases he : endOf t with
      | none => rw [he] at hp; cases hp
      | some e =>
        rw [he] at hp
        injection hp with hp
        subst hp
        obtain ⟨h1, h2, h3⟩ := endOf_some he
        exact ⟨by rw [h1]; rfl, (fun x hx => by cases hx), h2, h3, by simp⟩
    · rw [readL_cut h] at hp
      cases he : evOf w with
      | none => rw [he] at hp; cases hp
      | some x =>
        cases hr : readL r with
        | none => rw [he, hr] at hp; cases hp
        | some q =>
          rw [he, hr] at hp
          injection hp with hp
          subst hp
          simp only [List.length_append, List.length_cons] at ht
          obtain ⟨g1, g2, g3, g4, g5⟩ := ih r (by omega) q hr
          obtain ⟨e1, e2, e3⟩ := evOf_some he
          refine ⟨?_, ?_, g3, g4, ?_⟩
          · have hpr : printL (x :: q.1) q.2 = evW x ++ 32 :: printL q.1 q.2 := by
              unfold printL
              have e : evsW (x :: q.1) = (evW x ++ [32]) ++ evsW q.1 := rfl
              rw [e]
              simp
            rw [hpr, g1, ← e1]
          · intro y hy
            simp only [List.mem_cons] at hy
            rcases hy with rfl | hy
            · exact ⟨e2, e3⟩
            · exact g2 y hy
          · simp only [List.length_cons, List.length_append]; omega
end Go.Proofs.YtjmfbmnhkoeceaaDoor
