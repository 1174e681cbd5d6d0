/-
  Plain lists of bytes: strings, numbers as they are written, texts cut at one byte.
-/
import Derived.Test.YtbpobbadmbafaaaDoorRows
import Derived.Lib.ItoaMem
import Derived.Lib.ParseIntB
import Derived.Lib.IndexMore
namespace Go.Proofs.YtbpobbadmbafaaaDoor
set_option linter.unusedVariables false

/-- a string of these bytes -/
def str (l : List UInt8) : ByteArray := ⟨l.toArray⟩
theorem str_append (a b : List UInt8) : str a ++ str b = str (a ++ b) := by
  apply ByteArray.ext
  simp [str, ByteArray.data_append]
theorem str_size (l : List UInt8) : (str l).size = l.length := by simp [str, ByteArray.size]
theorem str_list (l : List UInt8) : (str l).data.toList = l := by simp [str]
theorem str_toList (l : List UInt8) : (str l).toList = l := by rw [ByteArray.toList_eq]; simp [str]
theorem str_extract (l : List UInt8) (a b : Nat) : (str l).extract a b = str ((l.drop a).take (b - a)) := by
  apply ByteArray.ext
  simp [str, ByteArray.data_extract]
theorem str_inj {a b : List UInt8} (h : str a = str b) : a = b := by rw [← str_list a, ← str_list b, h]
theorem str_of (s : ByteArray) : s = str s.data.toList := by apply ByteArray.ext; simp [str]
theorem str_eqb (wd l : List UInt8) : ((str wd).toList == l) = decide (wd = l) := by
  rw [str_toList, Bool.eq_iff_iff]
  simp
theorem ret_str {a b : ByteArray} (h : a = b) : Ending.returned (.string a) = .returned (.string b) := by rw [h]
theorem nDigits_le (u : Nat) (hu : u < 18446744073709551616) : (Lib.decDigits u).length ≤ 20 := by
  rw [Lib.decDigits_length]
  rcases Nat.eq_zero_or_pos u with h | h
  · subst h; rw [Lib.nDigits_small (by omega)]; omega
  · have := Lib.numDigits_eq u h hu; split at this <;> omega
theorem take_snoc8 {l : List UInt8} {k : Nat} {x : UInt8} (h : l[k]? = some x) : l.take (k + 1) = l.take k ++ [x] := by
  rw [List.take_add_one, h]; rfl

theorem dec_digit (u : Nat) : ∀ b ∈ Lib.decDigits u, 48 ≤ b.toNat ∧ b.toNat ≤ 57 := by
  induction u using Nat.strongRecOn with
  | _ u ih =>
    intro b hb
    rw [Lib.decDigits] at hb
    split at hb
    · simp at hb
      subst hb
      simp
      omega
    · simp at hb
      rcases hb with hb | hb
      · exact ih (u / 10) (by omega) b hb
      · subst hb
        simp
        omega
theorem dec_ne (u : Nat) : 0 < (Lib.decDigits u).length := by
  rw [Lib.decDigits]
  split <;> simp
/-! ### numbers -/
def valStep (n : Nat) (b : UInt8) : Nat := 10 * n + (b.toNat - 48)
/-- what the digits say -/
def valOf (d : List UInt8) : Nat := d.foldl valStep 0
theorem valOf_snoc (d : List UInt8) (b : UInt8) : valOf (d ++ [b]) = 10 * valOf d + (b.toNat - 48) := by simp [valOf, valStep]
theorem valOf_le (d e : List UInt8) : valOf d ≤ valOf (d ++ e) := by
  induction e generalizing d with
  | nil => simp
  | cons b e ih =>
    have h := ih (d ++ [b])
    rw [valOf_snoc, List.append_assoc] at h
    exact Nat.le_trans (by omega) h
theorem dig_val (x : Nat) (h : x < 10) : (UInt8.ofNat (48 + x)).toNat = 48 + x := by simp; omega
theorem valOf_dec (v : Nat) : valOf (Lib.decDigits v) = v := by
  induction v using Nat.strongRecOn with
  | _ v ih =>
    rw [Lib.decDigits]
    split
    · rename_i h
      have e : valOf [UInt8.ofNat (48 + v)] = 10 * 0 + ((UInt8.ofNat (48 + v)).toNat - 48) := rfl
      rw [e, dig_val v h]; omega
    · rename_i h
      rw [valOf_snoc, ih (v / 10) (by omega), dig_val _ (by omega)]
      omega
theorem dec_head (v : Nat) (h : (Lib.decDigits v).head? = some 48) : v = 0 := by
  induction v using Nat.strongRecOn with
  | _ v ih =>
    rw [Lib.decDigits] at h
    split at h
    · rename_i hv
      simp only [List.head?_cons, Option.some.injEq] at h
      have := dig_val v hv
      rw [h] at this
      have e : (48 : UInt8).toNat = 48 := rfl
      omega
    · rename_i hv
      have hne := dec_ne (v / 10)
      rw [List.head?_append] at h
      cases hh : (Lib.decDigits (v / 10)).head? with
      | none =>
        rw [List.head?_eq_none_iff] at hh
        rw [hh] at hne
        simp at hne
      | some b =>
        rw [hh] at h
        simp only [Option.some_or, Option.some.injEq] at h
        have := ih (v / 10) (by omega) (by rw [hh, h])
        omega
theorem dec_snoc (n x : Nat) (hn : 0 < n) (hx : x < 10) : Lib.decDigits (10 * n + x) = Lib.decDigits n ++ [UInt8.ofNat (48 + x)] := by
  rw [Lib.decDigits, dif_neg (by omega)]
  have e1 : (10 * n + x) / 10 = n := by omega
  have e2 : (10 * n + x) % 10 = x := by omega
  rw [e1, e2]

/-- a row of digits -/
def AllDig (d : List UInt8) : Prop := ∀ b ∈ d, 48 ≤ b.toNat ∧ b.toNat ≤ 57
/-- a numeral's form: a digit at least, no nought ahead of others -/
def Canon (d : List UInt8) : Prop := d ≠ [] ∧ AllDig d ∧ (d.length = 1 ∨ d.head? ≠ some 48)
theorem dig_of (b : UInt8) (h : 48 ≤ b.toNat ∧ b.toNat ≤ 57) : UInt8.ofNat (48 + (b.toNat - 48)) = b := by
  have : 48 + (b.toNat - 48) = b.toNat := by omega
  rw [this]; simp
theorem canon_pos : ∀ (n : Nat) (d : List UInt8), d.length = n → AllDig d → d ≠ [] → d.head? ≠ some 48 → 0 < valOf d ∧ Lib.decDigits (valOf d) = d := by
  intro n
  induction n with
  | zero => intro d h1 _ h3 _; exact absurd (List.eq_nil_of_length_eq_zero h1) h3
  | succ n ih =>
    intro d hl ha hne hh
    obtain ⟨d', b, rfl⟩ : ∃ d' b, d = d' ++ [b] := ⟨d.dropLast, d.getLast hne, (List.dropLast_concat_getLast hne).symm⟩
    have hb := ha b (by simp)
    rw [valOf_snoc]
    by_cases h0 : d' = []
    · subst h0
      have hb0 : b.toNat ≠ 48 := by
        intro e
        apply hh
        have : b = 48 := UInt8.toNat_inj.1 e
        simp [this]
      have e : valOf [] = 0 := rfl
      rw [e]
      refine ⟨by omega, ?_⟩
      rw [Nat.mul_zero, Nat.zero_add, Lib.decDigits, dif_pos (by omega), dig_of b hb]
      rfl
    · have hh' : d'.head? ≠ some 48 := by
        intro e
        apply hh
        rw [List.head?_append, e]; rfl
      obtain ⟨h1, h2⟩ := ih d' (by simpa using hl) (fun x hx => ha x (by simp [hx])) h0 hh'
      refine ⟨by omega, ?_⟩
      rw [dec_snoc _ _ h1 (by omega), h2, dig_of b hb]
theorem canon_dec {d : List UInt8} (h : Canon d) : Lib.decDigits (valOf d) = d := by
  obtain ⟨hne, ha, hl⟩ := h
  by_cases hh : d.head? = some 48
  · have h1 : d.length = 1 := by
      rcases hl with h | h
      · exact h
      · exact absurd hh h
    obtain ⟨b, rfl⟩ := List.length_eq_one_iff.1 h1
    simp at hh
    subst hh
    have e : valOf [48] = 0 := rfl
    rw [e, Lib.decDigits]
    rfl
  · exact (canon_pos _ d rfl ha hne hh).2
theorem dec_canon (v : Nat) : Canon (Lib.decDigits v) := by
  refine ⟨?_, dec_digit v, ?_⟩
  · have := dec_ne v
    intro e
    rw [e] at this
    simp at this
  · by_cases hh : (Lib.decDigits v).head? = some 48
    · have := dec_head v hh
      subst this
      left
      rw [Lib.decDigits]; rfl
    · exact .inr hh

/-- the number that a text is, if it is one -/
def numOf (d : List UInt8) : Option Nat := if Lib.decDigits (valOf d) = d ∧ valOf d < 18446744073709551616 then some (valOf d) else none
theorem numOf_dec {v : Nat} (h : v < 18446744073709551616) : numOf (Lib.decDigits v) = some v := by
  unfold numOf
  rw [valOf_dec, if_pos ⟨rfl, h⟩]
theorem numOf_some {d : List UInt8} {v : Nat} (h : numOf d = some v) : Lib.decDigits v = d ∧ v < 18446744073709551616 := by
  unfold numOf at h
  split at h
  · rename_i h1
    injection h with h
    subst h
    exact h1
  · cases h
theorem numOf_canon {d : List UInt8} (h : Canon d) (hv : valOf d < 18446744073709551616) : numOf d = some (valOf d) := by
  unfold numOf
  rw [if_pos ⟨canon_dec h, hv⟩]
theorem numOf_none {d : List UInt8} (h : ¬ Canon d) : numOf d = none := by
  cases hn : numOf d with
  | none => rfl
  | some v => exact absurd ((numOf_some hn).1 ▸ dec_canon v) h
theorem numOf_big {d : List UInt8} (h : 18446744073709551616 ≤ valOf d) : numOf d = none := by
  unfold numOf
  rw [if_neg (by omega)]

/-- the library's reading of a numeral -/
theorem parseM_dec (acc : Nat) : ∀ (d : List UInt8), AllDig d → (∀ k, k ≤ d.length → (d.take k).foldl valStep acc < 18446744073709551616) → Lib.parseUintM (2 ^ 64 - 1) acc d = .ok (d.foldl valStep acc)
  | [], _, _ => rfl
  | c :: r, ha, hb => by
    have hc := ha c (by simp)
    have h1 := hb 1 (by simp)
    simp only [List.take_succ_cons, List.take_zero, List.foldl_cons, List.foldl_nil, valStep] at h1
    rw [Lib.parseUintM, if_pos hc, if_neg (by omega), if_neg (by omega)]
    have e : acc * 10 + (c.toNat - 48) = valStep acc c := by unfold valStep; omega
    rw [e]
    exact parseM_dec (valStep acc c) r (fun x hx => ha x (by simp [hx])) (fun k hk => by
      have := hb (k + 1) (by simpa using hk)
      simpa using this)
theorem parse_dec {v : Nat} (h : v < 18446744073709551616) : Lib.parseUintB 64 (Lib.decDigits v) = .ok v := by
  unfold Lib.parseUintB
  rw [if_neg (dec_canon v).1]
  have h1 := parseM_dec 0 (Lib.decDigits v) (dec_digit v) (fun k hk => by
    have h2 : valOf ((Lib.decDigits v).take k) ≤ valOf (Lib.decDigits v) := by
      have := valOf_le ((Lib.decDigits v).take k) ((Lib.decDigits v).drop k)
      rwa [List.take_append_drop] at this
    rw [valOf_dec] at h2
    exact Nat.lt_of_le_of_lt h2 h)
  rw [h1]
  exact congrArg _ (valOf_dec v)

/-! ### texts cut at one byte -/
/-- the pieces of a text, at each byte c -/
def splitB (c : UInt8) : List UInt8 → List (List UInt8)
  | [] => [[]]
  | b :: r => if b = c then [] :: splitB c r else match splitB c r with
    | [] => [[b]]
    | w :: ws => (b :: w) :: ws
theorem splitB_ne (c : UInt8) (t : List UInt8) : splitB c t ≠ [] := by
  cases t with
  | nil => simp [splitB]
  | cons b r =>
    rw [splitB]
    split
    · simp
    · split <;> simp
theorem splitB_one {c : UInt8} {t : List UInt8} (h : c ∉ t) : splitB c t = [t] := by
  induction t with
  | nil => rfl
  | cons b r ih =>
    have hb : b ≠ c := by rintro rfl; exact h (by simp)
    rw [splitB, if_neg hb, ih (fun hr => h (by simp [hr]))]
theorem splitB_cut {c : UInt8} {w r : List UInt8} (h : c ∉ w) : splitB c (w ++ c :: r) = w :: splitB c r := by
  induction w with
  | nil => simp [splitB]
  | cons b w ih =>
    have hb : b ≠ c := by rintro rfl; exact h (by simp)
    rw [List.cons_append, splitB, if_neg hb, ih (fun hr => h (by simp [hr]))]
theorem splitB_app (c : UInt8) (a b : List UInt8) : splitB c (a ++ c :: b) = splitB c a ++ splitB c b := by
  induction a with
  | nil => simp [splitB]
  | cons x a ih =>
    rw [List.cons_append, splitB, ih, splitB]
    by_cases hx : x = c
    · rw [if_pos hx, if_pos hx]; rfl
    · rw [if_neg hx, if_neg hx]
      cases h : splitB c a with
      | nil => exact absurd h (splitB_ne c a)
      | cons w ws => rfl
theorem splitB_mem {c : UInt8} {t w : List UInt8} (h : w ∈ splitB c t) : c ∉ w ∧ w.length ≤ t.length := by
  induction t generalizing w with
  | nil => simp [splitB] at h; subst h; simp
  | cons b r ih =>
    rw [splitB] at h
    split at h
    · rcases List.mem_cons.1 h with rfl | h
      · simp
      · have := ih h; exact ⟨this.1, by simp; omega⟩
    · rename_i hb
      cases hs : splitB c r with
      | nil => exact absurd hs (splitB_ne c r)
      | cons v vs =>
        rw [hs] at h
        rcases List.mem_cons.1 h with rfl | h
        · have := ih (w := v) (by rw [hs]; simp)
          exact ⟨fun hc => (List.mem_cons.1 hc).elim (fun e => hb e.symm) this.1, by simp; omega⟩
        · have := ih (w := w) (by rw [hs]; simp [h])
          exact ⟨this.1, by simp; omega⟩
theorem splitB_length (c : UInt8) (t : List UInt8) : (splitB c t).length = t.count c + 1 := by
  induction t with
  | nil => simp [splitB]
  | cons b r ih =>
    rw [splitB]
    split
    · rename_i hb; subst hb; simp [ih]
    · rename_i hb
      cases hs : splitB c r with
      | nil => exact absurd hs (splitB_ne c r)
      | cons v vs =>
        rw [hs] at ih
        rw [List.count_cons_of_ne hb]
        simpa using ih
theorem cut_of (c : UInt8) (t : List UInt8) : c ∉ t ∨ ∃ w r, t = w ++ c :: r ∧ c ∉ w := by
  induction t with
  | nil => left; simp
  | cons b t ih =>
    by_cases hb : b = c
    · subst hb; right; exact ⟨[], t, rfl, by simp⟩
    · rcases ih with h | ⟨w, r, rfl, h⟩
      · left; simp; exact ⟨fun e => hb e.symm, h⟩
      · right; exact ⟨b :: w, r, rfl, by simp; exact ⟨fun e => hb e.symm, h⟩⟩
theorem index_none {c : UInt8} {t : List UInt8} (h : c ∉ t) : Lib.index t [c] = -1 := by
  induction t with
  | nil => rfl
  | cons b t ih =>
    have hb : b ≠ c := by rintro rfl; exact h (by simp)
    have hp : ([c] : List UInt8).isPrefixOf (b :: t) = false := by simp [List.isPrefixOf]; exact fun e => hb e.symm
    rw [Lib.index, hp, ih (fun hr => h (by simp [hr]))]
    rfl
theorem index_at {c : UInt8} {w r : List UInt8} (h : c ∉ w) : Lib.index (w ++ c :: r) [c] = w.length := by
  induction w with
  | nil => simp [Lib.index, List.isPrefixOf]
  | cons b w ih =>
    have hb : b ≠ c := by rintro rfl; exact h (by simp)
    have hp : ([c] : List UInt8).isPrefixOf (b :: (w ++ c :: r)) = false := by simp [List.isPrefixOf]; exact fun e => hb e.symm
    rw [List.cons_append, Lib.index, hp, ih (fun hr => h (by simp [hr]))]
    have : ((w.length : Int) == -1) = false := by simp
    rw [this]
    simp

/-! ### words: the pieces at blanks, but for the empty ones -/
def wordsL (l : List UInt8) : List (List UInt8) := (splitB 32 l).filter (fun w => !w.isEmpty)
theorem wordsL_app (a b : List UInt8) : wordsL (a ++ 32 :: b) = wordsL a ++ wordsL b := by unfold wordsL; rw [splitB_app, List.filter_append]
theorem wordsL_nil : wordsL [] = [] := rfl
theorem wordsL_blank (b : List UInt8) : wordsL (32 :: b) = wordsL b := by have := wordsL_app [] b; simpa [wordsL_nil] using this
theorem wordsL_one {w : List UInt8} (h : (32 : UInt8) ∉ w) (hne : w ≠ []) : wordsL w = [w] := by
  unfold wordsL
  rw [splitB_one h]
  cases w with
  | nil => exact absurd rfl hne
  | cons b w => rfl
theorem wordsL_cons {w r : List UInt8} (h : (32 : UInt8) ∉ w) (hne : w ≠ []) : wordsL (w ++ 32 :: r) = w :: wordsL r := by
  rw [wordsL_app, wordsL_one h hne]; rfl
theorem wordsL_mem {l w : List UInt8} (h : w ∈ wordsL l) : (32 : UInt8) ∉ w ∧ w ≠ [] ∧ w.length ≤ l.length := by
  unfold wordsL at h
  rw [List.mem_filter] at h
  have := splitB_mem h.1
  refine ⟨this.1, ?_, this.2⟩
  intro e; subst e; simp at h
end Go.Proofs.YtbpobbadmbafaaaDoor
