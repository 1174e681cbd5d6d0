/-
  Plain mathematics on the grammar of programs: numbers as bytes, what is written of a program, what is read of bytes. Nothing here speaks of the code.
-/
import Derived.Test.YtcgoanfhabjpfaaRows
namespace Go.Proofs.Ytcgoanfhabjpfaa
set_option linter.unusedVariables false

/-- an instruction: its operation, Arg, Imm -/
structure Ins where
  op : Int
  arg : Int
  imm : Int
/-- a function -/
structure Fn where
  params : Int
  locals : List Int
  result : Bool
  keep : Int
  code : List Ins
instance : DecidableEq Ins := fun a b => decidable_of_iff (a.op = b.op ∧ a.arg = b.arg ∧ a.imm = b.imm) ⟨fun ⟨h1, h2, h3⟩ => by cases a; cases b; simp_all, fun h => by subst h; exact ⟨rfl, rfl, rfl⟩⟩
instance : DecidableEq Fn := fun a b => decidable_of_iff (a.params = b.params ∧ a.locals = b.locals ∧ a.result = b.result ∧ a.keep = b.keep ∧ a.code = b.code) ⟨fun ⟨h1, h2, h3, h4, h5⟩ => by cases a; cases b; simp_all, fun h => by subst h; exact ⟨rfl, rfl, rfl, rfl, rfl⟩⟩

/-- so many bytes of a number, the lowest first -/
def le : Nat → Int → List Int
  | 0, _ => []
  | n + 1, v => v % 256 :: le n (v / 256)
/-- bytes as a number -/
def leV : List Int → Int
  | [] => 0
  | b :: l => b + 256 * leV l
/-- all are bytes -/
def Byt (l : List Int) : Prop := ∀ x ∈ l, 0 ≤ x ∧ x ≤ 255

theorem Byt.nil : Byt [] := fun _ h => by cases h
theorem Byt.cons {x : Int} {l : List Int} (h0 : 0 ≤ x) (h1 : x ≤ 255) (h : Byt l) : Byt (x :: l) := fun y hy => by
  rcases List.mem_cons.1 hy with rfl | hy
  · exact ⟨h0, h1⟩
  · exact h y hy
theorem Byt.app {a b : List Int} (ha : Byt a) (hb : Byt b) : Byt (a ++ b) := fun y hy => by
  rcases List.mem_append.1 hy with hy | hy
  · exact ha y hy
  · exact hb y hy
theorem Byt.tail {x : Int} {l : List Int} (h : Byt (x :: l)) : Byt l := fun y hy => h y (List.mem_cons_of_mem _ hy)
theorem Byt.drop {l : List Int} (h : Byt l) (k : Nat) : Byt (l.drop k) := fun y hy => h y (List.mem_of_mem_drop hy)
theorem Byt.take {l : List Int} (h : Byt l) (k : Nat) : Byt (l.take k) := fun y hy => h y (List.mem_of_mem_take hy)
theorem byt_le (n : Nat) (v : Int) : Byt (le n v) := by
  induction n generalizing v with
  | zero => exact Byt.nil
  | succ n ih => exact Byt.cons (by omega) (by omega) (ih _)
theorem length_le (n : Nat) (v : Int) : (le n v).length = n := by
  induction n generalizing v with
  | zero => rfl
  | succ n ih => simp [le, ih]
theorem leV_bd {l : List Int} (h : Byt l) : 0 ≤ leV l ∧ leV l < 256 ^ l.length := by
  induction l with
  | nil => simp [leV]
  | cons x l ih =>
    have h1 := h x (by simp)
    have h2 := ih h.tail
    simp only [leV, List.length_cons]
    rw [show (256 : Int) ^ (l.length + 1) = 256 ^ l.length * 256 from rfl]
    omega
theorem leV_le (n : Nat) (v : Int) (h0 : 0 ≤ v) (h : v < 256 ^ n) : leV (le n v) = v := by
  induction n generalizing v with
  | zero => simp at h; simp [le, leV]; omega
  | succ n ih =>
    rw [show (256 : Int) ^ (n + 1) = 256 ^ n * 256 from rfl] at h
    simp only [le, leV]
    rw [ih (v / 256) (by omega) (by omega)]
    omega
theorem le_leV {l : List Int} (h : Byt l) : le l.length (leV l) = l := by
  induction l with
  | nil => rfl
  | cons x l ih =>
    have h1 := h x (by simp)
    simp only [List.length_cons, le, leV]
    rw [show (x + 256 * leV l) / 256 = leV l by omega, show (x + 256 * leV l) % 256 = x by omega, ih h.tail]
theorem le_one {v : Int} (h0 : 0 ≤ v) (h : v ≤ 255) : le 1 v = [v] := by simp [le]; omega
theorem le_snoc (n : Nat) (v : Int) : le (n + 1) v = le n v ++ [v / 256 ^ n % 256] := by
  induction n generalizing v with
  | zero => simp [le]
  | succ n ih =>
    rw [le, ih (v / 256)]
    simp only [le, List.cons_append]
    rw [show v / 256 / 256 ^ n = v / 256 ^ (n + 1) by rw [Int.ediv_ediv_of_nonneg (by omega), show (256 : Int) ^ (n + 1) = 256 * 256 ^ n by rw [Int.pow_succ, Int.mul_comm]]]
theorem leV_snoc (l : List Int) (x : Int) : leV (l ++ [x]) = leV l + x * 256 ^ l.length := by
  induction l with
  | nil => simp [leV]
  | cons y l ih =>
    simp only [List.cons_append, leV, ih, List.length_cons]
    rw [show (256 : Int) ^ (l.length + 1) = 256 ^ l.length * 256 from rfl]
    generalize (256 : Int) ^ l.length = p
    rw [show x * (p * 256) = 256 * (x * p) by rw [Int.mul_comm p, Int.mul_left_comm]]
    omega

/-- how many bytes an operation's Arg and Imm have -/
def argW (op : Int) : Nat := if op = 2 ∨ op = 3 ∨ op = 4 ∨ op = 23 ∨ op = 25 then 1 else if op = 21 ∨ op = 22 then 2 else 0
def immW (op : Int) : Nat := if op = 1 then 8 else 0
def opB (op : Int) : Bool := decide (1 ≤ op ∧ op ≤ 32)
def kindB (k : Int) : Bool := decide (k = 0 ∨ k = 1)
/-- does a number fit into so many bytes? -/
def fitB (n : Nat) (v : Int) : Bool := decide (0 ≤ v ∧ v < 256 ^ n)
theorem argW_le (op : Int) : argW op ≤ 2 := by unfold argW; split <;> (try split) <;> omega
theorem immW_le (op : Int) : immW op ≤ 8 := by unfold immW; split <;> omega

/-- may bytes say it? -/
def okI (i : Ins) : Bool := opB i.op && fitB (argW i.op) i.arg && fitB (immW i.op) i.imm
def okF (f : Fn) : Bool := decide (f.locals.length ≤ 255) && decide (f.code.length ≤ 65535) && decide (0 ≤ f.params) && decide (f.params ≤ f.locals.length) && decide (-1 ≤ f.keep) && decide (f.keep ≤ 254) && f.locals.all kindB && f.code.all okI
def okP (fs : List Fn) : Bool := decide (0 < fs.length) && decide (fs.length ≤ 255) && fs.all okF
def encI (i : Ins) : List Int := i.op :: (le (argW i.op) i.arg ++ le (immW i.op) i.imm)
def keepByte (k : Int) : Int := if k = -1 then 255 else k
def encF (f : Fn) : List Int := f.params :: (f.locals.length : Int) :: (f.locals ++ ((if f.result then 1 else 0) :: keepByte f.keep :: (le 2 f.code.length ++ f.code.flatMap encI)))
def enc (fs : List Fn) : List Int := 87 :: 76 :: (fs.length : Int) :: fs.flatMap encF
def bndF (f : Fn) : Bool := decide (f.params ≤ 4) && decide (f.locals.length ≤ 16) && decide (f.code.length ≤ 256)
def bnd (fs : List Fn) : Bool := decide (fs.length ≤ 16) && fs.all bndF

/-- what is left to read; none: it was no program -/
abbrev St := Option (List Int)
def num (n : Nat) : St → Int × St
  | some l => if n ≤ l.length then (leV (l.take n), some (l.drop n)) else (0, none)
  | none => (0, none)
def need (c : Bool) (s : St) : St := if c then s else none
theorem num_zero (s : St) : num 0 s = (0, s) := by cases s <;> simp [num, leV]
theorem num_none (n : Nat) : num n none = (0, none) := rfl
theorem need_true (s : St) : need true s = s := rfl
theorem need_false (s : St) : need false s = none := rfl
theorem need_none (c : Bool) : need c none = none := by cases c <;> rfl

def pIns (s : St) : Ins × St :=
  (⟨(num 1 s).1, (num (argW (num 1 s).1) (need (opB (num 1 s).1) (num 1 s).2)).1, (num (immW (num 1 s).1) (num (argW (num 1 s).1) (need (opB (num 1 s).1) (num 1 s).2)).2).1⟩,
    (num (immW (num 1 s).1) (num (argW (num 1 s).1) (need (opB (num 1 s).1) (num 1 s).2)).2).2)
def pInss : Nat → St → List Ins × St
  | 0, s => ([], s)
  | _ + 1, none => ([], none)
  | n + 1, some l => ((pIns (some l)).1 :: (pInss n (pIns (some l)).2).1, (pInss n (pIns (some l)).2).2)
def pKinds : Nat → St → List Int × St
  | 0, s => ([], s)
  | _ + 1, none => ([], none)
  | n + 1, some l => ((num 1 (some l)).1 :: (pKinds n (need (kindB (num 1 (some l)).1) (num 1 (some l)).2)).1, (pKinds n (need (kindB (num 1 (some l)).1) (num 1 (some l)).2)).2)
def pFlag (s : St) : Bool × St := (decide ((num 1 s).1 = 1), need (decide ((num 1 s).1 ≤ 1)) (num 1 s).2)
def pKeep (s : St) : Int × St := (if (num 1 s).1 = 255 then -1 else (num 1 s).1, (num 1 s).2)
def pFn (s : St) : Fn × St :=
  let a := num 1 s
  let b := num 1 a.2
  let k := pKinds b.1.toNat (need (decide (a.1 ≤ b.1)) b.2)
  let r := pFlag k.2
  let q := pKeep r.2
  let c := num 2 q.2
  let i := pInss c.1.toNat c.2
  (⟨a.1, k.1, r.1, q.1, i.1⟩, i.2)
def pFns : Nat → St → List Fn × St
  | 0, s => ([], s)
  | _ + 1, none => ([], none)
  | n + 1, some l => ((pFn (some l)).1 :: (pFns n (pFn (some l)).2).1, (pFns n (pFn (some l)).2).2)
def pProg (s : St) : List Fn × St :=
  let a := num 1 s
  let b := num 1 (need (decide (a.1 = 87)) a.2)
  let n := num 1 (need (decide (b.1 = 76)) b.2)
  pFns n.1.toNat (need (decide (0 < n.1)) n.2)
/-- the program that bytes are; none: they are no program's -/
def parse (b : List Int) : Option (List Fn) := match (pProg (some b)).2 with
  | some [] => some (pProg (some b)).1
  | _ => none

/-! what is written is read again -/
theorem num_app {n : Nat} {l r : List Int} (h : l.length = n) : num n (some (l ++ r)) = (leV l, some r) := by
  subst h
  simp [num]
theorem num_le {n : Nat} {v : Int} (h0 : 0 ≤ v) (h : v < 256 ^ n) (r : List Int) : num n (some (le n v ++ r)) = (v, some r) := by
  rw [num_app (length_le n v), leV_le n v h0 h]
theorem num_one (x : Int) (r : List Int) : num 1 (some (x :: r)) = (x, some r) := by
  have := num_app (n := 1) (l := [x]) (r := r) rfl
  simpa [leV] using this
theorem okI_iff {i : Ins} : okI i = true ↔ opB i.op = true ∧ fitB (argW i.op) i.arg = true ∧ fitB (immW i.op) i.imm = true := by simp [okI, and_assoc]
theorem fitB_iff {n : Nat} {v : Int} : fitB n v = true ↔ 0 ≤ v ∧ v < 256 ^ n := by simp [fitB]
theorem opB_iff {v : Int} : opB v = true ↔ 1 ≤ v ∧ v ≤ 32 := by simp [opB]
theorem kindB_iff {v : Int} : kindB v = true ↔ v = 0 ∨ v = 1 := by simp [kindB]
theorem okF_iff {f : Fn} : okF f = true ↔ f.locals.length ≤ 255 ∧ f.code.length ≤ 65535 ∧ 0 ≤ f.params ∧ f.params ≤ f.locals.length ∧ -1 ≤ f.keep ∧ f.keep ≤ 254 ∧ (∀ k ∈ f.locals, kindB k = true) ∧ (∀ i ∈ f.code, okI i = true) := by
  simp [okF, and_assoc]
theorem okP_iff {fs : List Fn} : okP fs = true ↔ 0 < fs.length ∧ fs.length ≤ 255 ∧ ∀ f ∈ fs, okF f = true := by simp [okP, and_assoc]

theorem pIns_enc {i : Ins} (h : okI i = true) (r : List Int) : pIns (some (encI i ++ r)) = (i, some r) := by
  obtain ⟨h1, h2, h3⟩ := okI_iff.1 h
  obtain ⟨a0, a1⟩ := fitB_iff.1 h2
  obtain ⟨m0, m1⟩ := fitB_iff.1 h3
  unfold pIns encI
  simp only [List.cons_append, num_one, h1, need_true, List.append_assoc, num_le a0 a1, num_le m0 m1]
theorem pInss_enc {is : List Ins} (h : ∀ i ∈ is, okI i = true) (r : List Int) : pInss is.length (some (is.flatMap encI ++ r)) = (is, some r) := by
  induction is with
  | nil => rfl
  | cons i is ih =>
    simp only [List.length_cons, List.flatMap_cons, List.append_assoc, pInss]
    rw [pIns_enc (h i (by simp))]
    simp only [ih fun j hj => h j (by simp [hj])]
theorem pKinds_enc {ks : List Int} (h : ∀ k ∈ ks, kindB k = true) (r : List Int) : pKinds ks.length (some (ks ++ r)) = (ks, some r) := by
  induction ks with
  | nil => rfl
  | cons k ks ih =>
    simp only [List.length_cons, List.cons_append, pKinds, num_one, h k (by simp), need_true]
    simp only [ih fun j hj => h j (by simp [hj])]
theorem pFn_enc {f : Fn} (h : okF f = true) (r : List Int) : pFn (some (encF f ++ r)) = (f, some r) := by
  obtain ⟨h1, h2, h3, h4, h5, h6, h7, h8⟩ := okF_iff.1 h
  have hp : decide (f.params ≤ (f.locals.length : Int)) = true := by simpa using h4
  have hc : num 2 (some (le 2 f.code.length ++ (f.code.flatMap encI ++ r))) = ((f.code.length : Int), some (f.code.flatMap encI ++ r)) := num_le (by omega) (by omega) _
  have hr : ∀ x, pFlag (some ((if f.result then 1 else 0) :: x)) = (f.result, some x) := by
    intro x
    unfold pFlag
    rw [num_one]
    cases f.result <;> simp [need]
  have hk : ∀ x, pKeep (some (keepByte f.keep :: x)) = (f.keep, some x) := by
    intro x
    unfold pKeep
    rw [num_one]
    simp only [keepByte]
    congr 1
    split <;> (split <;> omega)
  unfold pFn encF
  simp only [List.cons_append, List.append_assoc, num_one, hp, need_true, Int.toNat_natCast, pKinds_enc h7, hr, hk, hc, pInss_enc h8]
theorem pFns_enc {fs : List Fn} (h : ∀ f ∈ fs, okF f = true) (r : List Int) : pFns fs.length (some (fs.flatMap encF ++ r)) = (fs, some r) := by
  induction fs with
  | nil => rfl
  | cons f fs ih =>
    simp only [List.length_cons, List.flatMap_cons, List.append_assoc, pFns]
    rw [pFn_enc (h f (by simp))]
    simp only [ih fun j hj => h j (by simp [hj])]
theorem pProg_enc {fs : List Fn} (h : okP fs = true) (r : List Int) : pProg (some (enc fs ++ r)) = (fs, some r) := by
  obtain ⟨h1, h2, h3⟩ := okP_iff.1 h
  have hn : decide ((0 : Int) < (fs.length : Int)) = true := by simp; omega
  unfold pProg enc
  simp only [List.cons_append, num_one, need_true, decide_true, hn, Int.toNat_natCast, pFns_enc h3]
theorem parse_enc {fs : List Fn} (h : okP fs = true) : parse (enc fs) = some fs := by
  have := pProg_enc h []
  rw [List.append_nil] at this
  unfold parse
  rw [this]
theorem parse_more {fs : List Fn} (h : okP fs = true) {x : Int} {r : List Int} : parse (enc fs ++ x :: r) = none := by
  unfold parse
  rw [pProg_enc h]

/-! what is read is what was written -/
theorem num_some {n : Nat} {s : St} {r : List Int} (h : (num n s).2 = some r) : ∃ l, s = some l ∧ n ≤ l.length ∧ (num n s).1 = leV (l.take n) ∧ r = l.drop n := by
  cases s with
  | none => simp [num] at h
  | some l =>
    simp only [num] at h ⊢
    split at h
    · rename_i hn
      simp only [Option.some.injEq] at h
      exact ⟨l, rfl, hn, by simp [hn], h.symm⟩
    · cases h
theorem need_some {c : Bool} {s : St} {r : List Int} (h : need c s = some r) : c = true ∧ s = some r := by
  cases c
  · cases h
  · exact ⟨rfl, h⟩
theorem num_back {n : Nat} {s : St} {r : List Int} (h : (num n s).2 = some r) : ∃ l, s = some l ∧ (Byt l → l = le n (num n s).1 ++ r ∧ 0 ≤ (num n s).1 ∧ (num n s).1 < 256 ^ n ∧ Byt r) := by
  obtain ⟨l, rfl, hn, hv, rfl⟩ := num_some h
  refine ⟨l, rfl, fun hb => ?_⟩
  have hl : (l.take n).length = n := by simp; omega
  have h1 := leV_bd (hb.take n)
  rw [hl] at h1
  have h2 := le_leV (hb.take n)
  rw [hl] at h2
  rw [hv, h2, List.take_append_drop]
  exact ⟨rfl, h1.1, h1.2, hb.drop n⟩
theorem num_back1 {s : St} {r : List Int} (h : (num 1 s).2 = some r) : ∃ l, s = some l ∧ (Byt l → l = (num 1 s).1 :: r ∧ 0 ≤ (num 1 s).1 ∧ (num 1 s).1 ≤ 255 ∧ Byt r) := by
  obtain ⟨l, hs, hl⟩ := num_back h
  refine ⟨l, hs, fun hb => ?_⟩
  obtain ⟨h1, h2, h3, h4⟩ := hl hb
  simp only [Int.reducePow] at h3
  exact ⟨by rw [le_one h2 (by omega)] at h1; exact h1, h2, by omega, h4⟩

theorem pIns_back {s : St} {r : List Int} (h : (pIns s).2 = some r) : ∃ l, s = some l ∧ (Byt l → l = encI (pIns s).1 ++ r ∧ okI (pIns s).1 = true ∧ Byt r) := by
  unfold pIns at h ⊢
  simp only at h ⊢
  obtain ⟨l3, e3, b3⟩ := num_back h
  obtain ⟨l2, e2, b2⟩ := num_back e3
  obtain ⟨hop, e2'⟩ := need_some e2
  obtain ⟨l1, e1, b1⟩ := num_back1 e2'
  refine ⟨l1, e1, fun hb => ?_⟩
  obtain ⟨c1, c2, c3, c4⟩ := b1 hb
  obtain ⟨d1, d2, d3, d4⟩ := b2 c4
  obtain ⟨f1, f2, f3, f4⟩ := b3 d4
  refine ⟨?_, okI_iff.2 ⟨hop, fitB_iff.2 ⟨d2, d3⟩, fitB_iff.2 ⟨f2, f3⟩⟩, f4⟩
  unfold encI
  simp only [List.cons_append, List.append_assoc]
  rw [← f1, ← d1, ← c1]
theorem pInss_back (n : Nat) {s : St} {r : List Int} (h : (pInss n s).2 = some r) : ∃ l, s = some l ∧ (Byt l → l = (pInss n s).1.flatMap encI ++ r ∧ (∀ i ∈ (pInss n s).1, okI i = true) ∧ (pInss n s).1.length = n ∧ Byt r) := by
  induction n generalizing s with
  | zero => exact ⟨r, h, fun hb => ⟨by simp [pInss], by simp [pInss], rfl, hb⟩⟩
  | succ n ih =>
    cases s with
    | none => cases h
    | some l =>
      simp only [pInss] at h ⊢
      obtain ⟨l1, e1, b1⟩ := ih h
      obtain ⟨l0, e0, b0⟩ := pIns_back e1
      injection e0 with e0
      subst e0
      refine ⟨l, rfl, fun hb => ?_⟩
      obtain ⟨c1, c2, c3⟩ := b0 hb
      obtain ⟨d1, d2, d3, d4⟩ := b1 c3
      refine ⟨?_, ?_, by simp [d3], d4⟩
      · rw [List.flatMap_cons, List.append_assoc, ← d1, ← c1]
      · intro i hi
        rcases List.mem_cons.1 hi with rfl | hi
        · exact c2
        · exact d2 i hi
theorem pKinds_back (n : Nat) {s : St} {r : List Int} (h : (pKinds n s).2 = some r) : ∃ l, s = some l ∧ (Byt l → l = (pKinds n s).1 ++ r ∧ (∀ i ∈ (pKinds n s).1, kindB i = true) ∧ (pKinds n s).1.length = n ∧ Byt r) := by
  induction n generalizing s with
  | zero => exact ⟨r, h, fun hb => ⟨by simp [pKinds], by simp [pKinds], rfl, hb⟩⟩
  | succ n ih =>
    cases s with
    | none => cases h
    | some l =>
      simp only [pKinds] at h ⊢
      obtain ⟨l1, e1, b1⟩ := ih h
      obtain ⟨hk, e1'⟩ := need_some e1
      obtain ⟨l0, e0, b0⟩ := num_back1 e1'
      injection e0 with e0
      subst e0
      refine ⟨l, rfl, fun hb => ?_⟩
      obtain ⟨c1, c2, c3, c4⟩ := b0 hb
      obtain ⟨d1, d2, d3, d4⟩ := b1 c4
      refine ⟨?_, ?_, by simp [d3], d4⟩
      · rw [List.cons_append, ← d1, ← c1]
      · intro i hi
        rcases List.mem_cons.1 hi with rfl | hi
        · exact hk
        · exact d2 i hi
theorem pFn_back {s : St} {r : List Int} (h : (pFn s).2 = some r) : ∃ l, s = some l ∧ (Byt l → l = encF (pFn s).1 ++ r ∧ okF (pFn s).1 = true ∧ Byt r) := by
  unfold pFn at h ⊢
  simp only at h ⊢
  obtain ⟨l6, e6, b6⟩ := pInss_back _ h
  obtain ⟨l5, e5, b5⟩ := num_back e6
  unfold pKeep at e5 b5 b6 ⊢
  simp only at e5 b5 b6 ⊢
  obtain ⟨l4, e4, b4⟩ := num_back1 e5
  unfold pFlag at e4 b4 b5 b6 ⊢
  simp only at e4 b4 b5 b6 ⊢
  obtain ⟨hf, e4'⟩ := need_some e4
  obtain ⟨l3, e3, b3⟩ := num_back1 e4'
  obtain ⟨l2, e2, b2⟩ := pKinds_back _ e3
  obtain ⟨hp, e2'⟩ := need_some e2
  obtain ⟨l1, e1, b1⟩ := num_back1 e2'
  obtain ⟨l0, e0, b0⟩ := num_back1 e1
  refine ⟨l0, e0, fun hb => ?_⟩
  obtain ⟨c1, c2, c3, c4⟩ := b0 hb
  obtain ⟨d1, d2, d3, d4⟩ := b1 c4
  obtain ⟨f1, f2, f3, f4⟩ := b2 d4
  obtain ⟨g1, g2, g3, g4⟩ := b3 f4
  obtain ⟨i1, i2, i3, i4⟩ := b4 g4
  obtain ⟨j1, j2, j3, j4⟩ := b5 i4
  obtain ⟨k1, k2, k3, k4⟩ := b6 j4
  generalize (num 1 s) = A at *
  generalize (num 1 A.2) = B at *
  generalize (pKinds B.1.toNat (need (decide (A.1 ≤ B.1)) B.2)) = K at *
  generalize (num 1 K.2) = R at *
  generalize (num 1 (need (decide (R.1 ≤ 1)) R.2)) = Q at *
  generalize (num 2 Q.2) = C at *
  generalize (pInss C.1.toNat C.2) = I at *
  simp only [decide_eq_true_eq] at hp hf
  simp only [Int.reducePow] at j3
  have hB : B.1 = (K.1.length : Int) := by omega
  have hC : C.1 = (I.1.length : Int) := by omega
  refine ⟨?_, okF_iff.2 ⟨by simp only; omega, by simp only; omega, c2, by simp only; omega, by simp only; split <;> omega, by simp only; split <;> omega, f2, k2⟩, k4⟩
  unfold encF
  simp only [List.cons_append, List.append_assoc]
  rw [← hB, ← hC, ← k1, ← j1]
  have hq : keepByte (if Q.1 = 255 then -1 else Q.1) = Q.1 := by
    unfold keepByte
    split <;> split at * <;> omega
  have hr : (if decide (R.1 = 1) = true then (1 : Int) else 0) = R.1 := by
    simp only [decide_eq_true_eq]
    split <;> omega
  rw [hq, hr, ← i1, ← g1, ← f1, ← d1, ← c1]
theorem pFns_back (n : Nat) {s : St} {r : List Int} (h : (pFns n s).2 = some r) : ∃ l, s = some l ∧ (Byt l → l = (pFns n s).1.flatMap encF ++ r ∧ (∀ i ∈ (pFns n s).1, okF i = true) ∧ (pFns n s).1.length = n ∧ Byt r) := by
  induction n generalizing s with
  | zero => exact ⟨r, h, fun hb => ⟨by simp [pFns], by simp [pFns], rfl, hb⟩⟩
  | succ n ih =>
    cases s with
    | none => cases h
    | some l =>
      simp only [pFns] at h ⊢
      obtain ⟨l1, e1, b1⟩ := ih h
      obtain ⟨l0, e0, b0⟩ := pFn_back e1
      injection e0 with e0
      subst e0
      refine ⟨l, rfl, fun hb => ?_⟩
      obtain ⟨c1, c2, c3⟩ := b0 hb
      obtain ⟨d1, d2, d3, d4⟩ := b1 c3
      refine ⟨?_, ?_, by simp [d3], d4⟩
      · rw [List.flatMap_cons, List.append_assoc, ← d1, ← c1]
      · intro i hi
        rcases List.mem_cons.1 hi with rfl | hi
        · exact c2
        · exact d2 i hi
theorem pProg_back {b r : List Int} (hb : Byt b) (h : (pProg (some b)).2 = some r) : b = enc (pProg (some b)).1 ++ r ∧ okP (pProg (some b)).1 = true := by
  unfold pProg at h ⊢
  simp only at h ⊢
  obtain ⟨l3, e3, b3⟩ := pFns_back _ h
  obtain ⟨hn, e3'⟩ := need_some e3
  obtain ⟨l2, e2, b2⟩ := num_back1 e3'
  obtain ⟨hq, e2'⟩ := need_some e2
  obtain ⟨l1, e1, b1⟩ := num_back1 e2'
  obtain ⟨hp, e1'⟩ := need_some e1
  obtain ⟨l0, e0, b0⟩ := num_back1 e1'
  injection e0 with e0
  subst e0
  obtain ⟨c1, c2, c3, c4⟩ := b0 hb
  obtain ⟨d1, d2, d3, d4⟩ := b1 c4
  obtain ⟨f1, f2, f3, f4⟩ := b2 d4
  obtain ⟨g1, g2, g3, g4⟩ := b3 f4
  simp only [decide_eq_true_eq] at hn hq hp
  generalize (num 1 (some b)) = A at *
  generalize (num 1 (need (decide (A.1 = 87)) A.2)) = B at *
  generalize (num 1 (need (decide (B.1 = 76)) B.2)) = C at *
  generalize (pFns C.1.toNat (need (decide (0 < C.1)) C.2)) = F at *
  have hC : C.1 = (F.1.length : Int) := by omega
  refine ⟨?_, okP_iff.2 ⟨by omega, by omega, g2⟩⟩
  unfold enc
  simp only [List.cons_append]
  rw [← hC, ← g1, ← f1, ← hq, ← d1, ← hp, ← c1]
theorem parse_back {b : List Int} (hb : Byt b) {fs : List Fn} (h : parse b = some fs) : b = enc fs ∧ okP fs = true := by
  unfold parse at h
  split at h
  · rename_i h0
    have h1 := pProg_back hb h0
    simp only [Option.some.injEq] at h
    rw [h, List.append_nil] at h1
    exact h1
  · cases h
/-- no beginning of a program is one -/
theorem parse_cut {fs : List Fn} (h : okP fs = true) (hb : Byt (enc fs)) {k : Nat} (hk : k < (enc fs).length) : parse ((enc fs).take k) = none := by
  cases hp : parse ((enc fs).take k) with
  | none => rfl
  | some gs =>
    exfalso
    obtain ⟨h1, h2⟩ := parse_back (hb.take k) hp
    have h3 := pProg_enc h2 ((enc fs).drop k)
    rw [← h1, List.take_append_drop] at h3
    have h4 := pProg_enc h []
    rw [List.append_nil, h3] at h4
    simp only [Prod.mk.injEq, Option.some.injEq] at h4
    have := congrArg List.length h4.2
    simp at this
    omega
theorem byt_encI {i : Ins} (h : okI i = true) : Byt (encI i) := by
  obtain ⟨h1, h2, h3⟩ := okI_iff.1 h
  have := opB_iff.1 h1
  exact Byt.cons (by omega) (by omega) ((byt_le _ _).app (byt_le _ _))
theorem byt_flat {α : Type} {l : List α} {f : α → List Int} (h : ∀ x ∈ l, Byt (f x)) : Byt (l.flatMap f) := by
  intro y hy
  obtain ⟨x, hx, hy⟩ := List.mem_flatMap.1 hy
  exact h x hx y hy
theorem byt_encF {f : Fn} (h : okF f = true) : Byt (encF f) := by
  obtain ⟨h1, h2, h3, h4, h5, h6, h7, h8⟩ := okF_iff.1 h
  refine Byt.cons h3 (by omega) (Byt.cons (by omega) (by omega) (Byt.app ?_ (Byt.cons (by split <;> omega) (by split <;> omega) (Byt.cons ?_ ?_ ((byt_le _ _).app (byt_flat fun i hi => byt_encI (h8 i hi)))))))
  · intro k hk
    have := kindB_iff.1 (h7 k hk)
    omega
  · unfold keepByte; split <;> omega
  · unfold keepByte; split <;> omega
theorem byt_enc {fs : List Fn} (h : okP fs = true) : Byt (enc fs) := by
  obtain ⟨h1, h2, h3⟩ := okP_iff.1 h
  exact Byt.cons (by omega) (by omega) (Byt.cons (by omega) (by omega) (Byt.cons (by omega) (by omega) (byt_flat fun f hf => byt_encF (h3 f hf))))
end Go.Proofs.Ytcgoanfhabjpfaa
