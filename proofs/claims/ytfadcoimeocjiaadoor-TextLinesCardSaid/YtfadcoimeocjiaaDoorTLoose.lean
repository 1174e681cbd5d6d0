/-
  Plain mathematics on texts with a line too many, and on texts with blanks, empty lines and remarks more. Nothing here speaks of the code.
-/
import Derived.Test.YtfadcoimeocjiaaDoorTGram
namespace Go.Proofs.YtfadcoimeocjiaaDoor
set_option linter.unusedVariables false

/-! ### a bad line -/
def flyL : List UInt8 := [102, 108, 121, 32, 97, 119, 97, 121]
def flyN : List UInt8 := [102, 108, 121, 32, 97, 119, 97, 121, 10]
theorem fly_add (fs : List Fn) : addL fs (wordsL flyL) = none := by
  have e : wordsL flyL = [[102, 108, 121], [97, 119, 97, 121]] := by decide +kernel
  have h1 : ¬ ([102, 108, 121] : List UInt8).head? = some 35 := by decide
  have h2 : ¬ ([102, 108, 121] : List UInt8) = funcW := by decide
  have h3 : opL [102, 108, 121] = none := by decide +kernel
  rw [e, addL, if_neg h1, if_neg h2]
  split
  · rfl
  · rw [insL, h3]; rfl
/-- lines ahead of others -/
theorem parseLs_pre (a : List (List UInt8)) (n : Nat) (fs : List Fn) : (∃ gs, ∀ r, parseLs n fs (a ++ r) = parseLs (n + a.length) gs r) ∨ (∃ m, ∀ r, parseLs n fs (a ++ r) = .inr m) := by
  induction a generalizing n fs with
  | nil => exact .inl ⟨fs, fun r => rfl⟩
  | cons l a ih =>
    cases h : addL fs (wordsL l) with
    | none => exact .inr ⟨n + 1, fun r => by rw [List.cons_append, parseLs, h]⟩
    | some gs =>
      rcases ih (n + 1) gs with ⟨g, hg⟩ | ⟨m, hm⟩
      · exact .inl ⟨g, fun r => by
          rw [List.cons_append, parseLs, h]
          simp only
          rw [hg, List.length_cons, show n + 1 + a.length = n + (a.length + 1) by omega]⟩
      · exact .inr ⟨m, fun r => by rw [List.cons_append, parseLs, h]; exact hm r⟩
theorem parse_fly (fs : List Fn) (h : ∀ f ∈ fs, okF f = true) (k : Nat) (hk : k ≤ (linesW fs).length) (rest : List UInt8) (more : List (List UInt8)) (hr : splitB 10 (flyL ++ rest) = flyL :: more) : parseT (joinW ((linesW fs).take k) ++ (flyL ++ rest)) = .inr (k + 1) := by
  unfold parseT
  rw [split_join _ (fun l hl => lines_no10 h l (List.mem_of_mem_take hl)), hr]
  have hl : ((linesW fs).take k).length = k := by rw [List.length_take]; omega
  rcases parseLs_pre ((linesW fs).take k) 0 [] with ⟨g, hg⟩ | ⟨m, hm⟩
  · rw [hg, hl, parseLs, fly_add, Nat.zero_add]
  · exfalso
    have h1 := parse_print fs h
    unfold parseT printT at h1
    have h2 := split_join (linesW fs) (lines_no10 h) []
    rw [List.append_nil] at h2
    rw [h2] at h1
    have h3 := hm ((linesW fs).drop k ++ splitB 10 [])
    rw [← List.append_assoc, List.take_append_drop, h1] at h3
    cases h3
/-- the text with a bad line ahead of line k, byte by byte -/
def badGo (k : Nat) : Bool → Nat → List UInt8 → List UInt8
  | _, _, [] => []
  | st, ln, b :: r => (if ln = k ∧ st = true then flyN else []) ++ b :: badGo k (b == 10) (if b = 10 then ln + 1 else ln) r
def endSt (st : Bool) : List UInt8 → Bool
  | [] => st
  | b :: r => endSt (b == 10) r
def cnt10 : List UInt8 → Nat
  | [] => 0
  | b :: r => (if b = 10 then 1 else 0) + cnt10 r
theorem cnt10_app (a b : List UInt8) : cnt10 (a ++ b) = cnt10 a + cnt10 b := by
  induction a with
  | nil => simp [cnt10]
  | cons x a ih => rw [List.cons_append, cnt10, cnt10, ih]; omega
theorem cnt10_le (a : List UInt8) : cnt10 a ≤ a.length := by
  induction a with
  | nil => simp [cnt10]
  | cons x a ih => rw [cnt10, List.length_cons]; split <;> omega
theorem cnt10_no {l : List UInt8} (h : (10 : UInt8) ∉ l) : cnt10 l = 0 := by
  induction l with
  | nil => rfl
  | cons x l ih =>
    simp only [List.mem_cons, not_or] at h
    rw [cnt10, ih h.2, if_neg (fun e => h.1 e.symm)]
theorem cnt10_join (ls : List (List UInt8)) (h : ∀ l ∈ ls, (10 : UInt8) ∉ l) : cnt10 (joinW ls) = ls.length := by
  induction ls with
  | nil => rfl
  | cons l r ih =>
    rw [joinW_cons, cnt10_app, cnt10_no (h l (by simp)), cnt10, if_pos rfl, ih (fun x hx => h x (by simp [hx])), List.length_cons]
    omega
theorem badGo_app (k : Nat) (a r : List UInt8) (st : Bool) (ln : Nat) : badGo k st ln (a ++ r) = badGo k st ln a ++ badGo k (endSt st a) (ln + cnt10 a) r := by
  induction a generalizing st ln with
  | nil => simp [badGo, endSt, cnt10]
  | cons b a ih =>
    rw [List.cons_append, badGo, badGo, ih, endSt, cnt10]
    simp only [List.append_assoc, List.cons_append]
    congr 3
    split <;> congr 1 <;> omega
theorem endSt_snoc (st : Bool) (a : List UInt8) (b : UInt8) : endSt st (a ++ [b]) = (b == 10) := by
  induction a generalizing st with
  | nil => rfl
  | cons x a ih => rw [List.cons_append, endSt, ih]
theorem badGo_le (k : Nat) (a : List UInt8) (st : Bool) (ln : Nat) : (badGo k st ln a).length ≤ 10 * a.length := by
  induction a generalizing st ln with
  | nil => simp [badGo]
  | cons b a ih =>
    rw [badGo]
    simp only [List.length_append, List.length_cons]
    have := ih (b == 10) (if b = 10 then ln + 1 else ln)
    have h9 : (if ln = k ∧ st = true then flyN else []).length ≤ 9 := by split <;> decide
    omega
theorem badGo_in (k : Nat) (l : List UInt8) (ln : Nat) (h : (10 : UInt8) ∉ l) (r : List UInt8) : badGo k false ln (l ++ 10 :: r) = l ++ 10 :: badGo k true (ln + 1) r := by
  induction l with
  | nil => simp [badGo]
  | cons b l ih =>
    simp only [List.mem_cons, not_or] at h
    have hb : (b == 10) = false := by simpa using fun e => h.1 e.symm
    rw [List.cons_append, badGo, hb, if_neg (by simp), if_neg (fun e => h.1 e.symm), ih h.2]
    rfl
theorem badGo_line (k : Nat) (l : List UInt8) (ln : Nat) (h : (10 : UInt8) ∉ l) (r : List UInt8) : badGo k true ln (l ++ 10 :: r) = (if ln = k then flyN else []) ++ (l ++ 10 :: badGo k true (ln + 1) r) := by
  cases l with
  | nil => simp [badGo]
  | cons b l =>
    simp only [List.mem_cons, not_or] at h
    have hb : (b == 10) = false := by simpa using fun e => h.1 e.symm
    have e10 : (if b = 10 then ln + 1 else ln) = ln := if_neg (fun e => h.1 e.symm)
    rw [List.cons_append, badGo, hb, e10, badGo_in k l ln h.2]
    simp
theorem badGo_past (k ln : Nat) (ls : List (List UInt8)) (h : ∀ l ∈ ls, (10 : UInt8) ∉ l) (hk : k < ln) : badGo k true ln (joinW ls) = joinW ls := by
  induction ls generalizing ln with
  | nil => rfl
  | cons l r ih =>
    rw [joinW_cons, badGo_line k l ln (h l (by simp)), if_neg (by omega), ih (ln + 1) (fun x hx => h x (by simp [hx])) (by omega)]
    rfl
theorem badGo_join (k ln : Nat) (ls : List (List UInt8)) (h : ∀ l ∈ ls, (10 : UInt8) ∉ l) (hk : ln ≤ k) : badGo k true ln (joinW ls) = joinW (ls.take (k - ln)) ++ ((if k < ln + ls.length then flyN else []) ++ joinW (ls.drop (k - ln))) := by
  induction ls generalizing ln with
  | nil =>
    have : ¬ k < ln + ([] : List (List UInt8)).length := by simp; omega
    rw [if_neg this]
    simp [joinW, badGo]
  | cons l r ih =>
    rw [joinW_cons, badGo_line k l ln (h l (by simp))]
    by_cases he : ln = k
    · subst he
      rw [if_pos rfl, badGo_past ln (ln + 1) r (fun x hx => h x (by simp [hx])) (by omega), if_pos (by simp)]
      simp [joinW]
    · rw [if_neg he, ih (ln + 1) (fun x hx => h x (by simp [hx])) (by omega)]
      obtain ⟨j, hj⟩ : ∃ j, k - ln = j + 1 := ⟨k - ln - 1, by omega⟩
      have hj' : k - (ln + 1) = j := by omega
      rw [hj, hj', List.take_succ_cons, List.drop_succ_cons, joinW_cons]
      simp only [List.length_cons, List.nil_append, List.append_assoc, List.cons_append]
      rw [show ln + 1 + r.length = ln + (r.length + 1) by omega]
/-- the text that TextLines makes -/
def badT (k : Nat) (ls : List (List UInt8)) : List UInt8 := badGo k true 0 (joinW ls) ++ (if k = ls.length then flyL else [])
theorem badT_parse (fs : List Fn) (h : ∀ f ∈ fs, okF f = true) (k : Nat) (hk : k ≤ (linesW fs).length) : parseT (badT k (linesW fs)) = .inr (k + 1) := by
  unfold badT
  rw [badGo_join k 0 _ (lines_no10 h) (by omega), Nat.sub_zero, Nat.zero_add]
  by_cases he : k = (linesW fs).length
  · rw [if_neg (by omega), if_pos he, List.drop_of_length_le (by omega)]
    have := parse_fly fs h k hk [] [] (by decide +kernel)
    rw [List.append_nil] at this
    simpa [joinW] using this
  · rw [if_pos (by omega), if_neg he, List.append_nil]
    have := parse_fly fs h k hk (10 :: joinW ((linesW fs).drop k)) (splitB 10 (joinW ((linesW fs).drop k))) (splitB_cut (by decide))
    simpa [flyN, flyL] using this
theorem badT_len (fs : List Fn) (h : ∀ f ∈ fs, okF f = true) (k : Nat) : (badT k (linesW fs)).length ≤ (printT fs).length + 9 := by
  unfold badT printT
  by_cases hk : k ≤ (linesW fs).length
  · rw [badGo_join k 0 _ (lines_no10 h) (by omega), Nat.sub_zero, Nat.zero_add]
    have e : (joinW ((linesW fs).take k)).length + (joinW ((linesW fs).drop k)).length = (joinW (linesW fs)).length := by
      rw [← List.length_append, ← joinW_append, List.take_append_drop]
    have h8 : flyL.length = 8 := rfl
    have h9 : flyN.length = 9 := rfl
    simp only [List.length_append]
    split <;> split <;> simp only [h8, h9, List.length_nil] <;> omega
  · have : ∀ (ln : Nat) (ls : List (List UInt8)), (∀ l ∈ ls, (10 : UInt8) ∉ l) → ln + ls.length < k → badGo k true ln (joinW ls) = joinW ls := by
      intro ln ls
      induction ls generalizing ln with
      | nil => intros; rfl
      | cons l r ih =>
        intro h1 h2
        rw [List.length_cons] at h2
        rw [joinW_cons, badGo_line k l ln (h1 l (by simp)), if_neg (by omega), ih (ln + 1) (fun x hx => h1 x (by simp [hx])) (by omega)]
        rfl
    rw [this 0 _ (lines_no10 h) (by omega), if_neg (by omega), List.append_nil]
    omega

/-! ### blanks, empty lines, remarks -/
def looseB (n : Nat) (b : UInt8) : List UInt8 := if b = 32 then (if n = 0 then [32] else if n = 1 then [32, 32] else [32, 32, 32, 32, 32]) else if b = 10 then (if n = 0 then [10] else if n = 1 then [32, 10, 10, 32, 32] else [10, 35, 32, 102, 117, 110, 99, 10]) else [b]
def looseG (g : Nat → Nat) : Nat → List UInt8 → List UInt8
  | _, [] => []
  | i, b :: r => looseB (g i) b ++ looseG g (i + 1) r
theorem looseG_app (g : Nat → Nat) (i : Nat) (a r : List UInt8) : looseG g i (a ++ r) = looseG g i a ++ looseG g (i + a.length) r := by
  induction a generalizing i with
  | nil => rfl
  | cons b a ih =>
    rw [List.cons_append, looseG, looseG, ih, List.append_assoc, List.length_cons, show i + 1 + a.length = i + (a.length + 1) by omega]
theorem looseB_le (n : Nat) (b : UInt8) : (looseB n b).length ≤ 8 := by
  unfold looseB
  split
  · split
    · decide
    · split <;> decide
  · split
    · split
      · decide
      · split <;> decide
    · simp
theorem looseG_le (g : Nat → Nat) (i : Nat) (a : List UInt8) : (looseG g i a).length ≤ 8 * a.length := by
  induction a generalizing i with
  | nil => simp [looseG]
  | cons b a ih =>
    rw [looseG, List.length_append, List.length_cons]
    have := looseB_le (g i) b
    have := ih (i + 1)
    omega
theorem looseG_word (g : Nat → Nat) (i : Nat) (w : List UInt8) (h1 : (32 : UInt8) ∉ w) (h2 : (10 : UInt8) ∉ w) : looseG g i w = w := by
  induction w generalizing i with
  | nil => rfl
  | cons b w ih =>
    simp only [List.mem_cons, not_or] at h1 h2
    have e : looseB (g i) b = [b] := by unfold looseB; rw [if_neg (fun e => h1.1 e.symm), if_neg (fun e => h2.1 e.symm)]
    rw [looseG, ih (i + 1) h1.2 h2.2, e]
    rfl
theorem words_blank (n : Nat) (w r : List UInt8) : wordsL (w ++ (looseB n 32 ++ r)) = wordsL w ++ wordsL r := by
  unfold looseB
  rw [if_pos rfl]
  split
  · simpa using wordsL_app w r
  · split
    · have := wordsL_app w (32 :: r)
      rw [wordsL_blank] at this
      simpa using this
    · have := wordsL_app w (32 :: 32 :: 32 :: 32 :: r)
      rw [wordsL_blank, wordsL_blank, wordsL_blank, wordsL_blank] at this
      simpa using this
theorem looseG_line (g : Nat → Nat) : ∀ (n : Nat) (l : List UInt8) (i : Nat), l.length ≤ n → (10 : UInt8) ∉ l → wordsL (looseG g i l) = wordsL l ∧ (10 : UInt8) ∉ looseG g i l := by
  intro n
  induction n with
  | zero =>
    intro l i hl h
    have : l = [] := List.length_eq_zero_iff.1 (by omega)
    subst this
    exact ⟨rfl, by simp [looseG]⟩
  | succ n ih =>
    intro l i hl h
    rcases cut_of 32 l with h32 | ⟨w, r, rfl, hw⟩
    · rw [looseG_word g i l h32 h]; exact ⟨rfl, h⟩
    · simp only [List.mem_append, List.mem_cons, not_or] at h
      rw [List.length_append, List.length_cons] at hl
      obtain ⟨h1, h2⟩ := ih r (i + w.length + 1) (by omega) h.2.2
      rw [looseG_app, looseG_word g i w hw h.1, looseG, words_blank, wordsL_app, h1]
      refine ⟨rfl, ?_⟩
      simp only [List.mem_append, not_or]
      refine ⟨h.1, ?_, h2⟩
      unfold looseB
      rw [if_pos rfl]
      split
      · decide
      · split <;> decide
/-- the functions of lines, whatever their numbers -/
def accLs : List Fn → List (List UInt8) → Option (List Fn)
  | fs, [] => some fs
  | fs, l :: r => match addL fs (wordsL l) with
    | some gs => accLs gs r
    | none => none
theorem acc_parse (n : Nat) (fs gs : List Fn) (ls : List (List UInt8)) : parseLs n fs ls = .inl gs ↔ accLs fs ls = some gs := by
  induction ls generalizing n fs with
  | nil => simp [parseLs, accLs]
  | cons l r ih =>
    rw [parseLs, accLs]
    cases addL fs (wordsL l) with
    | none => simp
    | some g => exact ih (n + 1) g
theorem acc_cons {fs : List Fn} {l l' : List UInt8} {r r' : List (List UInt8)} (h : wordsL l = wordsL l') (hr : ∀ gs, accLs gs r = accLs gs r') : accLs fs (l :: r) = accLs fs (l' :: r') := by
  rw [accLs, accLs, h]
  cases addL fs (wordsL l') with
  | none => rfl
  | some g => exact hr g
theorem acc_skip {fs : List Fn} {l : List UInt8} {r : List (List UInt8)} (h : ∀ fs, addL fs (wordsL l) = some fs) : accLs fs (l :: r) = accLs fs r := by rw [accLs, h]
theorem acc_loose (g : Nat → Nat) (ls : List (List UInt8)) (h : ∀ l ∈ ls, (10 : UInt8) ∉ l) : ∀ (i : Nat) (p : List UInt8), p = [] ∨ p = [32, 32] → ∀ fs, accLs fs (splitB 10 (p ++ looseG g i (joinW ls))) = accLs fs (ls ++ [[]]) := by
  induction ls with
  | nil =>
    intro i p hp fs
    have e : looseG g i (joinW []) = [] := rfl
    rw [e, List.append_nil]
    rcases hp with rfl | rfl <;> rfl
  | cons l r ih =>
    intro i p hp fs
    have ih := ih (fun x hx => h x (by simp [hx]))
    obtain ⟨h1, h2⟩ := looseG_line g l.length l i (Nat.le_refl _) (h l (by simp))
    rw [joinW_cons, looseG_app, looseG]
    have hp10 : (10 : UInt8) ∉ p ++ looseG g i l := by
      simp only [List.mem_append, not_or]
      exact ⟨by rcases hp with rfl | rfl <;> decide, h2⟩
    have hpw : wordsL (p ++ looseG g i l) = wordsL l := by
      rcases hp with rfl | rfl
      · exact h1
      · show wordsL (32 :: 32 :: looseG g i l) = _
        rw [wordsL_blank, wordsL_blank, h1]
    have e10 : looseB (g (i + l.length)) 10 = if g (i + l.length) = 0 then [10] else if g (i + l.length) = 1 then [32, 10, 10, 32, 32] else [10, 35, 32, 102, 117, 110, 99, 10] := rfl
    rw [e10, ← List.append_assoc, List.cons_append]
    split
    · rw [show ([10] : List UInt8) ++ looseG g (i + l.length + 1) (joinW r) = 10 :: looseG g (i + l.length + 1) (joinW r) from rfl, splitB_cut hp10]
      exact acc_cons hpw fun gs => by simpa using ih (i + l.length + 1) [] (.inl rfl) gs
    · split
      · rw [show ([32, 10, 10, 32, 32] : List UInt8) ++ looseG g (i + l.length + 1) (joinW r) = 32 :: 10 :: ([] ++ 10 :: ([32, 32] ++ looseG g (i + l.length + 1) (joinW r))) from rfl,
          show p ++ looseG g i l ++ 32 :: 10 :: ([] ++ 10 :: ([32, 32] ++ looseG g (i + l.length + 1) (joinW r))) = (p ++ looseG g i l ++ [32]) ++ 10 :: ([] ++ 10 :: ([32, 32] ++ looseG g (i + l.length + 1) (joinW r))) by simp,
          splitB_cut (by simp only [List.mem_append, not_or] at hp10 ⊢; exact ⟨hp10, by decide⟩), splitB_cut (by simp)]
        refine acc_cons ?_ fun gs => ?_
        · rw [show [(32 : UInt8)] = 32 :: [] from rfl, wordsL_app, hpw, wordsL_nil, List.append_nil]
        · rw [acc_skip (fun fs => rfl)]
          exact ih (i + l.length + 1) [32, 32] (.inr rfl) gs
      · rw [show ([10, 35, 32, 102, 117, 110, 99, 10] : List UInt8) ++ looseG g (i + l.length + 1) (joinW r) = 10 :: ([35, 32, 102, 117, 110, 99] ++ 10 :: looseG g (i + l.length + 1) (joinW r)) from rfl,
          splitB_cut hp10, splitB_cut (by decide)]
        refine acc_cons hpw fun gs => ?_
        rw [acc_skip (fun fs => ?_)]
        · simpa using ih (i + l.length + 1) [] (.inl rfl) gs
        · have e : wordsL [35, 32, 102, 117, 110, 99] = [[35], funcW] := by decide +kernel
          rw [e]; rfl
theorem loose_parse (g : Nat → Nat) (fs : List Fn) (h : ∀ f ∈ fs, okF f = true) : parseT (looseG g 0 (printT fs)) = .inl fs := by
  have h1 := parse_print fs h
  unfold parseT printT at h1 ⊢
  have h2 := split_join (linesW fs) (lines_no10 h) []
  rw [List.append_nil] at h2
  rw [h2] at h1
  rw [acc_parse] at h1 ⊢
  have h3 := acc_loose g (linesW fs) (lines_no10 h) 0 [] (.inl rfl) []
  rw [List.nil_append] at h3
  rw [h3]
  exact h1
end Go.Proofs.YtfadcoimeocjiaaDoor
