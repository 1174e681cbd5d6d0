/-
  Plain mathematics on programs as text: what is written of a program, what is read of a text. Nothing here speaks of the code.
-/
import Derived.Test.YtbpobbadmbafaaaDoorTNum
import Derived.Test.YtbpobbadmbafaaaDoorLang
namespace Go.Proofs.YtbpobbadmbafaaaDoor
set_option linter.unusedVariables false

/-- the operations' names, from operation 1 on -/
def nms : List (List UInt8) := [[99, 111, 110, 115, 116], [103, 101, 116], [115, 101, 116], [97, 100, 100, 114], [108, 111, 97, 100], [115, 116, 111, 114, 101], [97, 100, 100], [115, 117, 98], [109, 117, 108], [100, 105, 118], [114, 101, 109], [97, 110, 100], [111, 114], [120, 111, 114], [115, 104, 108], [115, 104, 114], [115, 97, 114], [101, 113], [108, 116], [98, 101, 108, 111, 119], [106, 117, 109, 112], [122, 101, 114, 111], [99, 97, 108, 108], [114, 101, 116], [100, 101, 102, 101, 114], [112, 97, 110, 105, 99], [114, 101, 99, 111, 118, 101, 114], [105, 110], [111, 117, 116], [101, 120, 105, 116], [100, 114, 111, 112], [100, 117, 112]]
theorem nms_length : nms.length = 32 := rfl
def funcW : List UInt8 := [102, 117, 110, 99]
/-- the greatest operand -/
def gOp (op : Nat) : Nat := if op = 1 then 18446744073709551615 else if op = 2 ∨ op = 3 ∨ op = 4 ∨ op = 23 ∨ op = 25 then 255 else if op = 21 ∨ op = 22 then 65535 else 0
/-- the number that a word is, up to a greatest one -/
def numLe (g : Nat) (d : List UInt8) : Option Nat := match numOf d with
  | some v => if v ≤ g then some v else none
  | none => none
theorem numLe_some {g v : Nat} {d : List UInt8} (h : numLe g d = some v) : Lib.decDigits v = d ∧ v ≤ g ∧ v < 18446744073709551616 := by
  unfold numLe at h
  cases hn : numOf d with
  | none => rw [hn] at h; cases h
  | some u =>
    rw [hn] at h
    simp only at h
    split at h
    · injection h with h; subst h; exact ⟨(numOf_some hn).1, by assumption, (numOf_some hn).2⟩
    · cases h
theorem numLe_dec {g v : Nat} (h : v ≤ g) (h2 : v < 18446744073709551616) : numLe g (Lib.decDigits v) = some v := by
  unfold numLe
  rw [numOf_dec h2]
  simp [h]
/-- the operation of a name -/
def opFrom : Nat → List (List UInt8) → List UInt8 → Option Nat
  | _, [], _ => none
  | k, x :: r, d => if x = d then some k else opFrom (k + 1) r d
def opL (d : List UInt8) : Option Nat := opFrom 1 nms d
def letterL (b : UInt8) : Option Int := if b = 110 then some 0 else if b = 112 then some 1 else none
def lettersL : List UInt8 → Option (List Int)
  | [] => some []
  | b :: r => match letterL b, lettersL r with
    | some x, some l => some (x :: l)
    | _, _ => none
def localsL (d : List UInt8) : Option (List Int) := if d = [45] then some [] else lettersL d
def keepL (d : List UInt8) : Option Int := if d = [45] then some (-1) else (numLe 254 d).map (fun v => (v : Int))
def fnL : List (List UInt8) → Option Fn
  | [a, b, c, d] => match numLe 255 a, localsL b, numLe 1 c, keepL d with
    | some p, some l, some r, some k => some ⟨(p : Int), l, decide (r = 1), k, []⟩
    | _, _, _, _ => none
  | _ => none
def insL (name : List UInt8) (ws : List (List UInt8)) : Option Ins := match opL name with
  | none => none
  | some op => if gOp op = 0 then (if ws = [] then some ⟨(op : Int), 0, 0⟩ else none) else match ws with
    | [x] => match numLe (gOp op) x with
      | some v => if op = 1 then some ⟨(op : Int), 0, (v : Int)⟩ else some ⟨(op : Int), (v : Int), 0⟩
      | none => none
    | _ => none
/-- an instruction behind the last function's -/
def addI : List Fn → Ins → List Fn
  | [], _ => []
  | [f], i => [{ f with code := f.code ++ [i] }]
  | f :: g :: r, i => f :: addI (g :: r) i
theorem addI_snoc (a : List Fn) (f : Fn) (i : Ins) : addI (a ++ [f]) i = a ++ [{ f with code := f.code ++ [i] }] := by
  induction a with
  | nil => rfl
  | cons x a ih =>
    cases a with
    | nil => rfl
    | cons y a => rw [List.cons_append, List.cons_append, addI]; rw [List.cons_append] at ih; rw [ih]; rfl
/-- a line's words behind the functions so far -/
def addL (fs : List Fn) : List (List UInt8) → Option (List Fn)
  | [] => some fs
  | w :: r => if w.head? = some 35 then some fs else if w = funcW then (fnL r).map (fun f => fs ++ [f]) else if fs = [] then none else (insL w r).map (fun i => addI fs i)
/-- lines, from number n + 1 on: the functions, or the number of the line at fault -/
def parseLs : Nat → List Fn → List (List UInt8) → List Fn ⊕ Nat
  | _, fs, [] => .inl fs
  | n, fs, l :: r => match addL fs (wordsL l) with
    | some gs => parseLs (n + 1) gs r
    | none => .inr (n + 1)
def parseT (t : List UInt8) : List Fn ⊕ Nat := parseLs 0 [] (splitB 10 t)

/-! ### what is written -/
def nmOf (op : Nat) : List UInt8 := (nms[op - 1]?).getD []
def insW (i : Ins) : List UInt8 := nmOf i.op.toNat ++ (if gOp i.op.toNat = 0 then [] else 32 :: Lib.decDigits (if i.op = 1 then i.imm.toNat else i.arg.toNat))
def letterW (k : Int) : UInt8 := if k = 0 then 110 else 112
def localsW (l : List Int) : List UInt8 := if l = [] then [45] else l.map letterW
def flagW (b : Bool) : List UInt8 := if b then [49] else [48]
def keepW (k : Int) : List UInt8 := if k = -1 then [45] else Lib.decDigits k.toNat
def headW (f : Fn) : List UInt8 := funcW ++ 32 :: (Lib.decDigits f.params.toNat ++ 32 :: (localsW f.locals ++ 32 :: (flagW f.result ++ 32 :: keepW f.keep)))
/-- a function's lines -/
def fnLs (f : Fn) : List (List UInt8) := headW f :: f.code.map insW
/-- a program's lines -/
def linesW (fs : List Fn) : List (List UInt8) := fs.flatMap fnLs
/-- lines, a newline behind each -/
def joinW (ls : List (List UInt8)) : List UInt8 := ls.flatMap (fun l => l ++ [10])
def printT (fs : List Fn) : List UInt8 := joinW (linesW fs)
theorem joinW_append (a b : List (List UInt8)) : joinW (a ++ b) = joinW a ++ joinW b := by simp [joinW]
theorem joinW_cons (l : List UInt8) (r : List (List UInt8)) : joinW (l :: r) = l ++ 10 :: joinW r := by simp [joinW]
theorem linesW_append (a b : List Fn) : linesW (a ++ b) = linesW a ++ linesW b := by simp [linesW]
theorem printT_append (a b : List Fn) : printT (a ++ b) = printT a ++ printT b := by unfold printT; rw [linesW_append, joinW_append]

theorem opFrom_some {k op : Nat} {l : List (List UInt8)} {d : List UInt8} (h : opFrom k l d = some op) : k ≤ op ∧ l[op - k]? = some d := by
  induction l generalizing k with
  | nil => cases h
  | cons x r ih =>
    rw [opFrom] at h
    split at h
    · rename_i e; injection h with h; subst h; subst e; exact ⟨Nat.le_refl _, by simp⟩
    · obtain ⟨h1, h2⟩ := ih h
      refine ⟨by omega, ?_⟩
      rw [show op - k = (op - (k + 1)) + 1 by omega]
      simpa using h2
theorem opL_some {op : Nat} {d : List UInt8} (h : opL d = some op) : 1 ≤ op ∧ op ≤ 32 ∧ nmOf op = d := by
  obtain ⟨h1, h2⟩ := opFrom_some h
  have hl := (List.getElem?_eq_some_iff.1 h2).1
  rw [nms_length] at hl
  exact ⟨h1, by omega, by unfold nmOf; rw [h2]; rfl⟩
theorem opL_nm (op : Nat) (h1 : 1 ≤ op) (h2 : op ≤ 32) : opL (nmOf op) = some op := by
  have : ∀ k : Fin 32, opL (nmOf (k.1 + 1)) = some (k.1 + 1) := by decide +kernel
  have := this ⟨op - 1, by omega⟩
  simpa [show op - 1 + 1 = op by omega] using this
/-- what is true of the names -/
theorem nm_form (op : Nat) (h1 : 1 ≤ op) (h2 : op ≤ 32) : (32 : UInt8) ∉ nmOf op ∧ (10 : UInt8) ∉ nmOf op ∧ nmOf op ≠ [] ∧ (nmOf op).head? ≠ some 35 ∧ nmOf op ≠ funcW ∧ (nmOf op).length ≤ 7 := by
  have : ∀ k : Fin 32, (32 : UInt8) ∉ nmOf (k.1 + 1) ∧ (10 : UInt8) ∉ nmOf (k.1 + 1) ∧ nmOf (k.1 + 1) ≠ [] ∧ (nmOf (k.1 + 1)).head? ≠ some 35 ∧ nmOf (k.1 + 1) ≠ funcW ∧ (nmOf (k.1 + 1)).length ≤ 7 := by decide +kernel
  have := this ⟨op - 1, by omega⟩
  simpa [show op - 1 + 1 = op by omega] using this
theorem dec_no {v : Nat} {b : UInt8} (hb : b.toNat < 48) : b ∉ Lib.decDigits v := fun h => by have := (dec_digit v b h).1; omega
theorem dec_ne' (v : Nat) : Lib.decDigits v ≠ [] := by
  have := dec_ne v
  intro e; rw [e] at this; simp at this

/-! ### what is written is read again -/
theorem lettersL_map (l : List Int) (h : ∀ k ∈ l, kindB k = true) : lettersL (l.map letterW) = some l := by
  induction l with
  | nil => rfl
  | cons x l ih =>
    have hx := h x (by simp)
    have hx : x = 0 ∨ x = 1 := by simpa [kindB] using hx
    rw [List.map_cons, lettersL, ih (fun k hk => h k (by simp [hk]))]
    rcases hx with rfl | rfl <;> rfl
theorem localsW_form (l : List Int) : (32 : UInt8) ∉ localsW l ∧ (10 : UInt8) ∉ localsW l ∧ localsW l ≠ [] := by
  unfold localsW
  split
  · decide
  · rename_i hne
    refine ⟨fun h => ?_, fun h => ?_, by simpa using hne⟩
    all_goals
      rw [List.mem_map] at h
      obtain ⟨k, _, hk⟩ := h
      unfold letterW at hk
      split at hk <;> cases hk
theorem localsL_back (l : List Int) (h : ∀ k ∈ l, kindB k = true) : localsL (localsW l) = some l := by
  unfold localsL localsW
  by_cases hl : l = []
  · subst hl; rfl
  · rw [if_neg hl, if_neg, lettersL_map l h]
    intro e
    cases l with
    | nil => exact hl rfl
    | cons x l =>
      rw [List.map_cons] at e
      injection e with e _
      unfold letterW at e
      split at e <;> cases e
theorem flag_form (b : Bool) : (32 : UInt8) ∉ flagW b ∧ (10 : UInt8) ∉ flagW b ∧ flagW b ≠ [] := by cases b <;> decide
theorem flag_back (b : Bool) : (numLe 1 (flagW b)).map (fun r => decide (r = 1)) = some b := by cases b <;> decide +kernel
theorem keep_form (k : Int) : (32 : UInt8) ∉ keepW k ∧ (10 : UInt8) ∉ keepW k ∧ keepW k ≠ [] := by
  unfold keepW
  split
  · decide
  · exact ⟨dec_no (by decide), dec_no (by decide), dec_ne' _⟩
theorem keep_back (k : Int) (h0 : -1 ≤ k) (h1 : k ≤ 254) : keepL (keepW k) = some k := by
  unfold keepL keepW
  by_cases hk : k = -1
  · subst hk; rfl
  · rw [if_neg hk, if_neg, numLe_dec (by omega) (by omega)]
    · simp; omega
    · intro e
      have := (dec_digit k.toNat 45 (by rw [e]; simp)).1
      exact absurd this (by decide)
theorem head_words (f : Fn) : wordsL (headW f) = [funcW, Lib.decDigits f.params.toNat, localsW f.locals, flagW f.result, keepW f.keep] := by
  unfold headW
  rw [wordsL_cons (by decide) (by decide), wordsL_cons (dec_no (by decide)) (dec_ne' _), wordsL_cons (localsW_form _).1 (localsW_form _).2.2, wordsL_cons (flag_form _).1 (flag_form _).2.2,
    wordsL_one (keep_form _).1 (keep_form _).2.2]
theorem no10 {a b : List UInt8} (ha : (10 : UInt8) ∉ a) (hb : (10 : UInt8) ∉ b) : (10 : UInt8) ∉ a ++ 32 :: b := by
  simp only [List.mem_append, List.mem_cons, not_or]
  exact ⟨ha, by decide, hb⟩
theorem head_line (f : Fn) : (10 : UInt8) ∉ headW f :=
  no10 (by decide) (no10 (dec_no (by decide)) (no10 (localsW_form _).2.1 (no10 (flag_form _).2.1 (keep_form _).2.1)))
theorem head_back (fs : List Fn) (f : Fn) (h : okF f = true) : addL fs (wordsL (headW f)) = some (fs ++ [{ f with code := [] }]) := by
  rw [head_words, addL, if_neg (by decide), if_pos rfl]
  have ⟨h1, _, h3, h4, h5, h6, h7, _⟩ := okF_iff.1 h
  have hp : numLe 255 (Lib.decDigits f.params.toNat) = some f.params.toNat := numLe_dec (by omega) (by omega)
  have hl := localsL_back f.locals h7
  have hk := keep_back f.keep h5 h6
  have hr := flag_back f.result
  rw [fnL, hp, hl, hk]
  cases hn : numLe 1 (flagW f.result) with
  | none => rw [hn] at hr; cases hr
  | some r =>
    rw [hn] at hr
    simp only [Option.map_some, Option.some.injEq] at hr
    simp only [Option.map_some, hr]
    rw [show ((f.params.toNat : Nat) : Int) = f.params by omega]
theorem gOp_arg (op : Nat) (h1 : 1 ≤ op) (h2 : op ≤ 32) : (gOp op = 0 → argW (op : Int) = 0 ∧ immW (op : Int) = 0) ∧ (gOp op ≠ 0 → op ≠ 1 → immW (op : Int) = 0 ∧ (256 : Int) ^ argW (op : Int) = gOp op + 1) := by
  have : ∀ k : Fin 32, (gOp (k.1 + 1) = 0 → argW ((k.1 + 1 : Nat) : Int) = 0 ∧ immW ((k.1 + 1 : Nat) : Int) = 0) ∧ (gOp (k.1 + 1) ≠ 0 → k.1 + 1 ≠ 1 → immW ((k.1 + 1 : Nat) : Int) = 0 ∧ (256 : Int) ^ argW ((k.1 + 1 : Nat) : Int) = gOp (k.1 + 1) + 1) := by decide +kernel
  have := this ⟨op - 1, by omega⟩
  simpa only [show op - 1 + 1 = op by omega] using this
theorem okI_iff' {i : Ins} : okI i = true ↔ (1 ≤ i.op ∧ i.op ≤ 32) ∧ (0 ≤ i.arg ∧ i.arg < 256 ^ argW i.op) ∧ (0 ≤ i.imm ∧ i.imm < 256 ^ immW i.op) := by
  unfold okI opB fitB
  simp only [Bool.and_eq_true, decide_eq_true_eq]
  constructor
  · rintro ⟨⟨a, b⟩, c⟩; exact ⟨a, b, c⟩
  · rintro ⟨a, b, c⟩; exact ⟨⟨a, b⟩, c⟩
/-- an instruction that bytes say, by its operation and its operand -/
theorem okI_form {i : Ins} (h : okI i = true) : ∃ op v : Nat, 1 ≤ op ∧ op ≤ 32 ∧ v ≤ gOp op ∧ v < 18446744073709551616 ∧ i = ⟨(op : Int), if op = 1 then 0 else (v : Int), if op = 1 then (v : Int) else 0⟩ ∧ (gOp op = 0 → v = 0) := by
  obtain ⟨⟨h1, h2⟩, ⟨h3, h4⟩, h5, h6⟩ := okI_iff'.1 h
  obtain ⟨io, ia, im⟩ := i
  simp only at h1 h2 h3 h4 h5 h6
  obtain ⟨op, rfl⟩ : ∃ op : Nat, io = op := ⟨io.toNat, by omega⟩
  have g := gOp_arg op (by omega) (by omega)
  by_cases ho : op = 1
  · subst ho
    rw [show argW ((1 : Nat) : Int) = 0 from rfl] at h4
    rw [show immW ((1 : Nat) : Int) = 8 from rfl] at h6
    have g1 : gOp 1 = 18446744073709551615 := rfl
    refine ⟨1, im.toNat, by omega, by omega, by rw [g1]; omega, by omega, ?_, fun h => by rw [g1] at h; cases h⟩
    rw [if_pos rfl, if_pos rfl, show ia = 0 by omega, show ((im.toNat : Nat) : Int) = im by omega]
  · by_cases hg : gOp op = 0
    · obtain ⟨e1, e2⟩ := g.1 hg
      rw [e1] at h4
      rw [e2] at h6
      refine ⟨op, 0, by omega, by omega, by omega, by omega, ?_, fun _ => rfl⟩
      rw [if_neg ho, if_neg ho, show ia = 0 by omega, show im = 0 by omega]; rfl
    · obtain ⟨e2, e1⟩ := g.2 hg ho
      rw [e1] at h4
      rw [e2] at h6
      have hle : gOp op ≤ 65535 := by unfold gOp; rw [if_neg ho]; split <;> (try split) <;> omega
      refine ⟨op, ia.toNat, by omega, by omega, by omega, by omega, ?_, fun h => absurd h hg⟩
      rw [if_neg ho, if_neg ho, show ((ia.toNat : Nat) : Int) = ia by omega, show im = 0 by omega]
theorem insW_form (op v : Nat) : insW ⟨(op : Int), if op = 1 then 0 else (v : Int), if op = 1 then (v : Int) else 0⟩ = nmOf op ++ (if gOp op = 0 then [] else 32 :: Lib.decDigits v) := by
  unfold insW
  simp only [Int.toNat_natCast]
  by_cases ho : op = 1
  · subst ho; simp
  · have : ¬ ((op : Int) = 1) := by omega
    simp [ho, this]
theorem ins_words {i : Ins} (h : okI i = true) : ∃ op v : Nat, 1 ≤ op ∧ op ≤ 32 ∧ v ≤ gOp op ∧ v < 18446744073709551616 ∧ i = ⟨(op : Int), if op = 1 then 0 else (v : Int), if op = 1 then (v : Int) else 0⟩ ∧ wordsL (insW i) = nmOf op :: (if gOp op = 0 then [] else [Lib.decDigits v]) ∧ (gOp op = 0 → v = 0) := by
  obtain ⟨op, v, h1, h2, h3, h4, rfl, h5⟩ := okI_form h
  refine ⟨op, v, h1, h2, h3, h4, rfl, ?_, h5⟩
  obtain ⟨n1, n2, n3, _⟩ := nm_form op h1 h2
  rw [insW_form]
  split
  · rw [List.append_nil, wordsL_one n1 n3]
  · rw [wordsL_cons n1 n3, wordsL_one (dec_no (by decide)) (dec_ne' _)]
theorem ins_line {i : Ins} (h : okI i = true) : (10 : UInt8) ∉ insW i := by
  obtain ⟨op, v, h1, h2, h3, h4, rfl, h5⟩ := okI_form h
  obtain ⟨n1, n2, n3, _⟩ := nm_form op h1 h2
  rw [insW_form]
  split
  · rw [List.append_nil]; exact n2
  · exact no10 n2 (dec_no (by decide))
theorem ins_back (fs : List Fn) (f : Fn) (i : Ins) (h : okI i = true) : addL (fs ++ [f]) (wordsL (insW i)) = some (fs ++ [{ f with code := f.code ++ [i] }]) := by
  obtain ⟨op, v, h1, h2, h3, h4, rfl, hw, h5⟩ := ins_words h
  obtain ⟨n1, n2, n3, n4, n5, _⟩ := nm_form op h1 h2
  rw [hw, addL, if_neg n4, if_neg n5, if_neg (by simp)]
  rw [insL, opL_nm op h1 h2]
  by_cases hg : gOp op = 0
  · have ho : op ≠ 1 := by rintro rfl; cases hg
    simp only [hg, if_true, Option.map_some, addI_snoc, ho, if_false, h5 hg]
    rfl
  · simp only [hg, if_false, numLe_dec h3 h4]
    by_cases ho : op = 1
    · subst ho; simp [addI_snoc]
    · simp [ho, addI_snoc]
theorem code_back (n : Nat) (fs : List Fn) (f : Fn) (l : List Ins) (h : ∀ i ∈ l, okI i = true) (r : List (List UInt8)) :
    parseLs n (fs ++ [f]) (l.map insW ++ r) = parseLs (n + l.length) (fs ++ [{ f with code := f.code ++ l }]) r := by
  induction l generalizing n f with
  | nil => simp
  | cons i l ih =>
    rw [List.map_cons, List.cons_append, parseLs, ins_back fs f i (h i (by simp))]
    simp only
    rw [ih (n + 1) _ (fun j hj => h j (by simp [hj]))]
    simp only [List.length_cons, List.append_assoc, List.cons_append, List.nil_append]
    rw [show n + 1 + l.length = n + (l.length + 1) by omega]
theorem fn_back (n : Nat) (fs : List Fn) (f : Fn) (h : okF f = true) (r : List (List UInt8)) : parseLs n fs (fnLs f ++ r) = parseLs (n + (fnLs f).length) (fs ++ [f]) r := by
  unfold fnLs
  rw [List.cons_append, parseLs, head_back fs f h]
  simp only
  rw [code_back (n + 1) fs _ f.code ((okF_iff.1 h).2.2.2.2.2.2.2) r]
  simp only [List.nil_append, List.length_cons, List.length_map]
  rw [show n + 1 + f.code.length = n + (f.code.length + 1) by omega]
theorem fns_back (n : Nat) (gs fs : List Fn) (h : ∀ f ∈ fs, okF f = true) (r : List (List UInt8)) : parseLs n gs (linesW fs ++ r) = parseLs (n + (linesW fs).length) (gs ++ fs) r := by
  induction fs generalizing n gs with
  | nil => simp [linesW]
  | cons f fs ih =>
    have e : linesW (f :: fs) = fnLs f ++ linesW fs := rfl
    rw [e, List.append_assoc, fn_back n gs f (h f (by simp)), ih _ _ (fun g hg => h g (by simp [hg])), List.length_append]
    simp only [List.append_assoc, List.cons_append, List.nil_append]
    rw [Nat.add_assoc]
/-- lines without newlines, joined and cut again -/
theorem split_join (ls : List (List UInt8)) (h : ∀ l ∈ ls, (10 : UInt8) ∉ l) (t : List UInt8) : splitB 10 (joinW ls ++ t) = ls ++ splitB 10 t := by
  induction ls with
  | nil => rfl
  | cons l r ih =>
    rw [joinW_cons, List.append_assoc, List.cons_append, splitB_cut (h l (by simp)), ih (fun x hx => h x (by simp [hx]))]
    rfl
theorem lines_no10 {fs : List Fn} (h : ∀ f ∈ fs, okF f = true) : ∀ l ∈ linesW fs, (10 : UInt8) ∉ l := by
  intro l hl
  unfold linesW at hl
  rw [List.mem_flatMap] at hl
  obtain ⟨f, hf, hl⟩ := hl
  unfold fnLs at hl
  rcases List.mem_cons.1 hl with rfl | hl
  · exact head_line f
  · rw [List.mem_map] at hl
    obtain ⟨i, hi, rfl⟩ := hl
    exact ins_line ((okF_iff.1 (h f hf)).2.2.2.2.2.2.2 i hi)
/-- what is written is read again -/
theorem parse_print (fs : List Fn) (h : ∀ f ∈ fs, okF f = true) : parseT (printT fs) = .inl fs := by
  unfold parseT printT
  have := split_join (linesW fs) (lines_no10 h) []
  rw [List.append_nil] at this
  rw [this, fns_back 0 [] fs h]
  rfl
end Go.Proofs.YtbpobbadmbafaaaDoor
