/-
  Plain mathematics on the document's own way to read a text. Nothing here speaks of the code.
-/
import Derived.Test.YtbpobbadmbafaaaDoorTGram
namespace Go.Proofs.YtbpobbadmbafaaaDoor
set_option linter.unusedVariables false

/-- words with single blanks -/
def joinS : List (List UInt8) → List UInt8
  | [] => []
  | w :: r => w ++ (match r with
    | [] => []
    | _ :: _ => 32 :: joinS r)
def GoodW (ws : List (List UInt8)) : Prop := ∀ w ∈ ws, (32 : UInt8) ∉ w ∧ w ≠ []
theorem joinS_one (w : List UInt8) : joinS [w] = w := by simp [joinS]
theorem joinS_two (w v : List UInt8) (r : List (List UInt8)) : joinS (w :: v :: r) = w ++ 32 :: joinS (v :: r) := by rw [joinS]
theorem joinS_words {ws : List (List UInt8)} (h : GoodW ws) : wordsL (joinS ws) = ws := by
  induction ws with
  | nil => rfl
  | cons w r ih =>
    have hw := h w (by simp)
    have ih := ih (fun x hx => h x (by simp [hx]))
    cases r with
    | nil => rw [joinS_one, wordsL_one hw.1 hw.2]
    | cons v r => rw [joinS_two, wordsL_cons hw.1 hw.2, ih]
theorem joinS_inj {a b : List (List UInt8)} (ha : GoodW a) (hb : GoodW b) : joinS a = joinS b ↔ a = b :=
  ⟨fun h => by rw [← joinS_words ha, h, joinS_words hb], fun h => by rw [h]⟩
theorem joinS_snoc (ws : List (List UInt8)) (x : List UInt8) : joinS (ws ++ [x]) = joinS ws ++ ((if ws.length = 0 then [] else [32]) ++ x) := by
  induction ws with
  | nil => simp [joinS]
  | cons w r ih =>
    cases r with
    | nil => simp [joinS]
    | cons v r =>
      rw [List.cons_append, List.cons_append, joinS_two, ← List.cons_append, ih, joinS_two]
      simp
theorem joinS_le (ws : List (List UInt8)) (m : Nat) (h : ∀ w ∈ ws, w.length ≤ m) : (joinS ws).length ≤ ws.length * (m + 1) := by
  induction ws with
  | nil => simp [joinS]
  | cons w r ih =>
    have h1 := h w (by simp)
    have h2 := ih (fun x hx => h x (by simp [hx]))
    cases r with
    | nil => rw [joinS_one, List.length_cons, List.length_nil]; omega
    | cons v r =>
      rw [joinS_two, List.length_append, List.length_cons, List.length_cons (a := w)]
      rw [Nat.add_mul, Nat.one_mul]
      omega
theorem words_sum (l : List UInt8) : (wordsL l).length + (joinS (wordsL l)).length ≤ 2 * l.length + 2 ∧ (joinS (wordsL l)).length ≤ l.length ∧ (wordsL l).length ≤ l.length := by
  have : ∀ (n : Nat) (l : List UInt8), l.length ≤ n → (joinS (wordsL l)).length ≤ l.length ∧ (wordsL l).length ≤ l.length := by
    intro n
    induction n with
    | zero =>
      intro l hl
      have : l = [] := List.length_eq_zero_iff.1 (by omega)
      subst this
      exact ⟨Nat.le_refl _, Nat.le_refl _⟩
    | succ n ih =>
      intro l hl
      rcases cut_of 32 l with h32 | ⟨w, r, rfl, hw⟩
      · cases l with
        | nil => exact ⟨Nat.le_refl _, Nat.le_refl _⟩
        | cons b l => rw [wordsL_one h32 (by simp), joinS_one]; exact ⟨Nat.le_refl _, by simp⟩
      · rw [List.length_append, List.length_cons] at hl
        obtain ⟨h1, h2⟩ := ih r (by omega)
        by_cases hne : w = []
        · subst hne
          rw [List.nil_append, wordsL_blank, List.length_cons]
          exact ⟨by omega, by omega⟩
        · rw [wordsL_cons hw hne, List.length_append, List.length_cons, List.length_cons]
          have hp : 0 < w.length := List.length_pos_iff.2 hne
          refine ⟨?_, by omega⟩
          cases hr : wordsL r with
          | nil => rw [joinS_one]; omega
          | cons v x =>
            rw [joinS_two, ← hr, List.length_append, List.length_cons]; omega
  have h := this l.length l (Nat.le_refl _)
  exact ⟨by omega, h.1, h.2⟩
theorem good_words (l : List UInt8) : GoodW (wordsL l) := fun w hw => ⟨(wordsL_mem hw).1, (wordsL_mem hw).2.1⟩
theorem numOf_num {v : Nat} {x : List UInt8} (h : Lib.decDigits v = x) (hv : v < 18446744073709551616) : numOf x = some v := h ▸ numOf_dec hv

/-- the instruction that the document tries at an operation -/
def insD (op : Nat) (ws : List (List UInt8)) : Option Ins := match ws with
  | [_, x] => match numOf x with
    | none => none
    | some v => if op = 1 then some ⟨1, 0, (v : Int)⟩ else if 65535 < v then none else some ⟨(op : Int), (v : Int), 0⟩
  | _ => some ⟨(op : Int), 0, 0⟩
/-- .. and whether it is the one that is written -/
def opD (op : Nat) (ws : List (List UInt8)) : Option Ins := match insD op ws with
  | none => none
  | some i => if okI i = true ∧ insW i = joinS ws then some i else none
theorem insD_op {op : Nat} {ws : List (List UInt8)} {i : Ins} (h : insD op ws = some i) : i.op = op := by
  unfold insD at h
  split at h
  · split at h
    · cases h
    · split at h
      · rename_i e; injection h with h; subst h; subst e; rfl
      · split at h
        · cases h
        · injection h with h; subst h; rfl
  · injection h with h; subst h; rfl
theorem insW_join {i : Ins} (h : okI i = true) : GoodW (wordsL (insW i)) ∧ insW i = joinS (wordsL (insW i)) := by
  obtain ⟨op, v, h1, h2, h3, h4, rfl, h5, h6⟩ := ins_words h
  refine ⟨good_words _, ?_⟩
  rw [h5, insW_form]
  split
  · rw [joinS_one, List.append_nil]
  · rw [joinS_two, joinS_one]
theorem insL_some {w : List UInt8} {r : List (List UInt8)} {i : Ins} (h : insL w r = some i) : ∃ op v : Nat, 1 ≤ op ∧ op ≤ 32 ∧ nmOf op = w ∧ v ≤ gOp op ∧ v < 18446744073709551616 ∧ i = ⟨(op : Int), if op = 1 then 0 else (v : Int), if op = 1 then (v : Int) else 0⟩ ∧ r = (if gOp op = 0 then [] else [Lib.decDigits v]) := by
  unfold insL at h
  cases hop : opL w with
  | none => rw [hop] at h; cases h
  | some op =>
    rw [hop] at h
    obtain ⟨h1, h2, h3⟩ := opL_some hop
    simp only at h
    by_cases hg : gOp op = 0
    · rw [if_pos hg] at h
      have ho : op ≠ 1 := by rintro rfl; cases hg
      split at h
      · rename_i hr
        injection h with h
        exact ⟨op, 0, h1, h2, h3, by omega, by omega, by rw [← h, if_neg ho, if_neg ho]; rfl, by rw [if_pos hg]; exact hr⟩
      · cases h
    · rw [if_neg hg] at h
      split at h
      · rename_i x
        cases hn : numLe (gOp op) x with
        | none => rw [hn] at h; cases h
        | some v =>
          rw [hn] at h
          obtain ⟨n1, n2, n3⟩ := numLe_some hn
          simp only at h
          refine ⟨op, v, h1, h2, h3, n2, n3, ?_, by rw [if_neg hg, n1]⟩
          split at h
          · rename_i ho; injection h with h; rw [← h, if_pos ho, if_pos ho]
          · rename_i ho; injection h with h; rw [← h, if_neg ho, if_neg ho]
      · cases h
theorem insL_mk {op v : Nat} (h1 : 1 ≤ op) (h2 : op ≤ 32) (h3 : v ≤ gOp op) (h4 : v < 18446744073709551616) : insL (nmOf op) (if gOp op = 0 then [] else [Lib.decDigits v]) = some ⟨(op : Int), if op = 1 then 0 else (v : Int), if op = 1 then (v : Int) else 0⟩ := by
  rw [insL, opL_nm op h1 h2]
  by_cases hg : gOp op = 0
  · have ho : op ≠ 1 := by rintro rfl; cases hg
    have hv : v = 0 := by omega
    simp only [hg, if_true, if_neg ho, hv]
    rfl
  · simp only [if_neg hg, numLe_dec h3 h4]
    by_cases ho : op = 1
    · simp [ho]
    · simp [ho]
theorem okI_mk {op v : Nat} (h1 : 1 ≤ op) (h2 : op ≤ 32) (h3 : v ≤ gOp op) (h4 : v < 18446744073709551616) : okI ⟨(op : Int), if op = 1 then 0 else (v : Int), if op = 1 then (v : Int) else 0⟩ = true := by
  rw [okI_iff']
  have g := gOp_arg op h1 h2
  by_cases ho : op = 1
  · subst ho
    simp only [if_true]
    rw [show argW ((1 : Nat) : Int) = 0 from rfl, show immW ((1 : Nat) : Int) = 8 from rfl]
    exact ⟨⟨by omega, by omega⟩, ⟨by omega, by decide⟩, by omega, by omega⟩
  · rw [if_neg ho, if_neg ho]
    by_cases hg : gOp op = 0
    · obtain ⟨e1, e2⟩ := g.1 hg
      simp only
      rw [e1, e2]
      exact ⟨⟨by omega, by omega⟩, ⟨by omega, by omega⟩, by omega, by omega⟩
    · obtain ⟨e2, e1⟩ := g.2 hg ho
      simp only
      rw [e1, e2]
      exact ⟨⟨by omega, by omega⟩, ⟨by omega, by omega⟩, by omega, by omega⟩
theorem opD_iff (op : Nat) (h1 : 1 ≤ op) (h2 : op ≤ 32) (w : List UInt8) (r : List (List UInt8)) (hg : GoodW (w :: r)) (i : Ins) : opD op (w :: r) = some i ↔ insL w r = some i ∧ i.op = (op : Int) := by
  constructor
  · intro h
    unfold opD at h
    cases hi : insD op (w :: r) with
    | none => rw [hi] at h; cases h
    | some j =>
      rw [hi] at h
      simp only at h
      split at h
      · rename_i hc
        injection h with h
        subst h
        refine ⟨?_, insD_op hi⟩
        obtain ⟨hc1, hc2⟩ := hc
        have hw := (joinS_inj (insW_join hc1).1 hg).1 ((insW_join hc1).2.symm.trans hc2)
        obtain ⟨op', v, a1, a2, a3, a4, rfl, a5, a6⟩ := ins_words hc1
        rw [a5] at hw
        injection hw with hw1 hw2
        rw [← hw1, ← hw2]
        exact insL_mk a1 a2 a3 a4
      · cases h
  · rintro ⟨h, ho⟩
    obtain ⟨op', v, a1, a2, a3, a4, a5, rfl, a6⟩ := insL_some h
    obtain rfl : op' = op := by simp only at ho; omega
    have hok := okI_mk a1 a2 a4 a5
    have hw : insW ⟨(op' : Int), if op' = 1 then 0 else (v : Int), if op' = 1 then (v : Int) else 0⟩ = joinS (w :: r) := by
      rw [insW_form, a6, a3]
      split
      · rw [joinS_one, List.append_nil]
      · rw [joinS_two, joinS_one]
    have hi : insD op' (w :: r) = some ⟨(op' : Int), if op' = 1 then 0 else (v : Int), if op' = 1 then (v : Int) else 0⟩ := by
      rw [a6]
      by_cases hgz : gOp op' = 0
      · have hn : op' ≠ 1 := by rintro rfl; cases hgz
        have hv : v = 0 := by omega
        rw [if_pos hgz, if_neg hn, if_neg hn, hv]
        rfl
      · rw [if_neg hgz]
        unfold insD
        simp only [numOf_dec a5]
        by_cases hn : op' = 1
        · subst hn; simp
        · have hle : gOp op' ≤ 65535 := by unfold gOp; rw [if_neg hn]; split <;> (try split) <;> omega
          rw [if_neg hn, if_neg (by omega), if_neg hn, if_neg hn]
    unfold opD
    rw [hi]
    simp only
    rw [if_pos ⟨hok, hw⟩]
theorem opD_none {op : Nat} {w : List UInt8} {r : List (List UInt8)} (h1 : 1 ≤ op) (h2 : op ≤ 32) (hg : GoodW (w :: r)) (h : ∀ i, insL w r = some i → i.op ≠ (op : Int)) : opD op (w :: r) = none := by
  cases ho : opD op (w :: r) with
  | none => rfl
  | some i =>
    have := (opD_iff op h1 h2 w r hg i).1 ho
    exact absurd this.2 (h i this.1)

/-- a function's locals, as the document reads them -/
def lettersD (b : List UInt8) : List Int := if b = [45] then [] else b.map fun y => if y = 112 then 1 else 0
def keepD (d : List UInt8) : Option Int := if d = [45] then some (-1) else match numOf d with
  | none => none
  | some k => if 254 < k then none else some (k : Int)
/-- a function's head, as the document reads it -/
def fnD (a b c d : List UInt8) : Option Fn := match numOf a with
  | none => none
  | some n => if 255 < n then none else match keepD d with
    | none => none
    | some k => some ⟨(n : Int), lettersD b, decide (c = [49]), k, []⟩
theorem keepL_eq (d : List UInt8) : keepL d = keepD d := by
  unfold keepL keepD numLe
  split
  · rfl
  · cases numOf d with
    | none => rfl
    | some k =>
      simp only
      by_cases hk : k ≤ 254
      · rw [if_pos hk, if_neg (by omega)]; rfl
      · rw [if_neg hk, if_pos (by omega)]; rfl
theorem keepD_back {d : List UInt8} {k : Int} (h : keepD d = some k) : keepW k = d := by
  unfold keepD at h
  split at h
  · rename_i e; injection h with h; rw [← h, e]; rfl
  · cases hn : numOf d with
    | none => rw [hn] at h; cases h
    | some v =>
      rw [hn] at h
      simp only at h
      split at h
      · cases h
      · injection h with h
        rw [← h, keepW, if_neg (by omega)]
        exact (numOf_some hn).1
theorem letters_iff (b : List UInt8) (l : List Int) : lettersL b = some l ↔ l = (b.map fun y => if y = 112 then (1 : Int) else 0) ∧ l.map letterW = b := by
  induction b generalizing l with
  | nil =>
    rw [lettersL]
    constructor
    · intro h; injection h with h; subst h; exact ⟨rfl, rfl⟩
    · rintro ⟨rfl, _⟩; rfl
  | cons y b ih =>
    rw [lettersL]
    constructor
    · intro h
      cases hy : letterL y with
      | none => rw [hy] at h; cases h
      | some x =>
        cases hr : lettersL b with
        | none => rw [hy, hr] at h; cases h
        | some l' =>
          rw [hy, hr] at h
          injection h with h
          obtain ⟨h1, h2⟩ := (ih l').1 hr
          subst h
          rw [List.map_cons, List.map_cons, h2, ← h1]
          unfold letterL at hy
          split at hy
          · rename_i e; subst e; injection hy with hy; subst hy; exact ⟨rfl, rfl⟩
          · split at hy
            · rename_i e; subst e; injection hy with hy; subst hy; exact ⟨rfl, rfl⟩
            · cases hy
    · rintro ⟨rfl, h⟩
      rw [List.map_cons, List.map_cons] at h
      injection h with h1 h2
      have hr := (ih _).2 ⟨rfl, h2⟩
      rw [hr]
      by_cases e : y = 112
      · subst e; rfl
      · rw [if_neg e] at h1
        have : y = 110 := h1.symm
        subst this; rfl
theorem locals_iff (b : List UInt8) (hb : b ≠ []) (l : List Int) : localsL b = some l ↔ l = lettersD b ∧ localsW l = b := by
  unfold localsL lettersD localsW
  by_cases e : b = [45]
  · subst e
    rw [if_pos rfl, if_pos rfl]
    constructor
    · intro h; injection h with h; subst h; exact ⟨rfl, rfl⟩
    · rintro ⟨rfl, _⟩; rfl
  · rw [if_neg e, if_neg e, letters_iff]
    constructor
    · rintro ⟨rfl, h⟩
      refine ⟨rfl, ?_⟩
      rw [if_neg]
      · exact h
      · intro h0
        cases b with
        | nil => exact hb rfl
        | cons y b => rw [List.map_cons] at h0; cases h0
    · rintro ⟨rfl, h⟩
      refine ⟨rfl, ?_⟩
      rw [if_neg] at h
      · exact h
      · intro h0
        cases b with
        | nil => exact hb rfl
        | cons y b => rw [List.map_cons] at h0; cases h0
theorem flag_iff (c : List UInt8) (r : Bool) : (numLe 1 c).map (fun v => decide (v = 1)) = some r ↔ r = decide (c = [49]) ∧ flagW r = c := by
  constructor
  · intro h
    cases hn : numLe 1 c with
    | none => rw [hn] at h; cases h
    | some v =>
      rw [hn, Option.map_some] at h
      injection h with h
      obtain ⟨h1, h2, _⟩ := numLe_some hn
      have hv : v = 0 ∨ v = 1 := by omega
      have d0 : Lib.decDigits 0 = [48] := by rw [Lib.decDigits]; rfl
      have d1 : Lib.decDigits 1 = [49] := by rw [Lib.decDigits]; rfl
      rcases hv with rfl | rfl
      · rw [d0] at h1; subst h1; subst h; exact ⟨by decide, rfl⟩
      · rw [d1] at h1; subst h1; subst h; exact ⟨by decide, rfl⟩
  · rintro ⟨_, h⟩
    rw [← h]
    exact flag_back r
theorem head_join (f : Fn) : headW f = joinS [funcW, Lib.decDigits f.params.toNat, localsW f.locals, flagW f.result, keepW f.keep] := by
  rw [joinS_two, joinS_two, joinS_two, joinS_two, joinS_one]
  rfl
theorem head_good (f : Fn) : GoodW [funcW, Lib.decDigits f.params.toNat, localsW f.locals, flagW f.result, keepW f.keep] := by
  intro w hw
  have := good_words (headW f) w
  rw [head_words] at this
  exact this hw
theorem fnL_iff {a b c d : List UInt8} (hg : GoodW [funcW, a, b, c, d]) (f : Fn) : fnL [a, b, c, d] = some f ↔ fnD a b c d = some f ∧ headW f = joinS [funcW, a, b, c, d] := by
  have hb : b ≠ [] := (hg b (by simp)).2
  constructor
  · intro h
    unfold fnL at h
    cases ha : numLe 255 a with
    | none => simp [ha] at h
    | some p =>
      cases hl : localsL b with
      | none => simp [ha, hl] at h
      | some l =>
        cases hc : numLe 1 c with
        | none => simp [ha, hl, hc] at h
        | some r =>
          cases hk : keepL d with
          | none => simp [ha, hl, hc, hk] at h
          | some k =>
            simp only [ha, hl, hc, hk, Option.some.injEq] at h
            obtain ⟨n1, n2, n3⟩ := numLe_some ha
            obtain ⟨l1, l2⟩ := (locals_iff b hb l).1 hl
            obtain ⟨f1, f2⟩ := (flag_iff c (decide (r = 1))).1 (by rw [hc]; rfl)
            rw [keepL_eq] at hk
            have k1 := keepD_back hk
            subst h
            refine ⟨?_, ?_⟩
            · unfold fnD
              rw [numOf_num n1 n3, hk]
              simp only
              rw [if_neg (by omega), ← l1, ← f1]
            · rw [head_join]
              simp only [Int.toNat_natCast]
              rw [n1, l2, f2, k1]
  · rintro ⟨h, hw⟩
    rw [head_join] at hw
    have hw := (joinS_inj (head_good f) hg).1 hw
    simp only [List.cons.injEq, and_true, true_and] at hw
    obtain ⟨w1, w2, w3, w4⟩ := hw
    unfold fnD at h
    cases ha : numOf a with
    | none => simp [ha] at h
    | some n =>
      rw [ha] at h
      simp only at h
      by_cases hn : 255 < n
      · rw [if_pos hn] at h; cases h
      · rw [if_neg hn] at h
        cases hk : keepD d with
        | none => simp [hk] at h
        | some k =>
          rw [hk] at h
          simp only [Option.some.injEq] at h
          subst h
          simp only at w1 w2 w3 w4
          have hl := (locals_iff b hb _).2 ⟨rfl, w2⟩
          have hf := (flag_iff c _).2 ⟨rfl, w3⟩
          have hna : numLe 255 a = some n := by unfold numLe; rw [ha]; simp only; rw [if_pos (by omega)]
          cases hc : numLe 1 c with
          | none => rw [hc] at hf; cases hf
          | some r =>
            rw [hc, Option.map_some] at hf
            injection hf with hf
            unfold fnL
            simp only [hna, hl, hc, keepL_eq, hk, hf]
end Go.Proofs.YtbpobbadmbafaaaDoor
