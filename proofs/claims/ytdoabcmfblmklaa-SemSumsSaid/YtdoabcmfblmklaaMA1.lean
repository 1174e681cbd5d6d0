/-
  Texts of one seat, one behind the other: Lang, Mem, App, Own, SRole, KMath, SWord.
-/
import Derived.Test.YtdoabcmfblmklaaRows
import Derived.WalkKit
import Derived.ProofKit
import Derived.Below
import Derived.Laws.OwnMore
import Derived.Deep.AppendLies
import Derived.Deep.Draws
import Derived.Laws.Rows
import Derived.Maps.AppendAt
import Derived.RegionTactic
import Derived.OwnWalk
import Derived.Lib.Hide
import Derived.Deep.QuietTactic
import Derived.BigQuiet
import Derived.Laws.StructEq
import Derived.LoopTactic
import Derived.Outline
import Derived.WalkSpells
import Derived.WalkLawsBesides
import Derived.Deep.OwnRows
import Derived.OpenShut
import Derived.Laws.BitsAllLaws
import Derived.Laws.Shifts

/-
  Plain mathematics on the grammar of programs: numbers as bytes, what is written of a program, what is read of bytes. Nothing here speaks of the code.
-/
namespace Go.Proofs.Ytdoabcmfblmklaa
set_option linter.unusedVariables false

/-- an instruction: its operation, Arg, Imm -/
structure Ins where
  op : Int
  arg : Int
  imm : Int
/-- a function -/
structure Fn where
  params : Int
  locals : List Int
  result : Bool
  keep : Int
  code : List Ins
instance : DecidableEq Ins := fun a b => decidable_of_iff (a.op = b.op ∧ a.arg = b.arg ∧ a.imm = b.imm) ⟨fun ⟨h1, h2, h3⟩ => by cases a; cases b; simp_all, fun h => by subst h; exact ⟨rfl, rfl, rfl⟩⟩
instance : DecidableEq Fn := fun a b => decidable_of_iff (a.params = b.params ∧ a.locals = b.locals ∧ a.result = b.result ∧ a.keep = b.keep ∧ a.code = b.code) ⟨fun ⟨h1, h2, h3, h4, h5⟩ => by cases a; cases b; simp_all, fun h => by subst h; exact ⟨rfl, rfl, rfl, rfl, rfl⟩⟩

/-- so many bytes of a number, the lowest first -/
def le : Nat → Int → List Int
  | 0, _ => []
  | n + 1, v => v % 256 :: le n (v / 256)
/-- bytes as a number -/
def leV : List Int → Int
  | [] => 0
  | b :: l => b + 256 * leV l
/-- all are bytes -/
def Byt (l : List Int) : Prop := ∀ x ∈ l, 0 ≤ x ∧ x ≤ 255

theorem Byt.nil : Byt [] := fun _ h => by cases h
theorem Byt.cons {x : Int} {l : List Int} (h0 : 0 ≤ x) (h1 : x ≤ 255) (h : Byt l) : Byt (x :: l) := fun y hy => by
  rcases List.mem_cons.1 hy with rfl | hy
  · exact ⟨h0, h1⟩
  · exact h y hy
theorem Byt.app {a b : List Int} (ha : Byt a) (hb : Byt b) : Byt (a ++ b) := fun y hy => by
  rcases List.mem_append.1 hy with hy | hy
  · exact ha y hy
  · exact hb y hy
theorem Byt.tail {x : Int} {l : List Int} (h : Byt (x :: l)) : Byt l := fun y hy => h y (List.mem_cons_of_mem _ hy)
theorem Byt.drop {l : List Int} (h : Byt l) (k : Nat) : Byt (l.drop k) := fun y hy => h y (List.mem_of_mem_drop hy)
theorem Byt.take {l : List Int} (h : Byt l) (k : Nat) : Byt (l.take k) := fun y hy => h y (List.mem_of_mem_take hy)
theorem byt_le (n : Nat) (v : Int) : Byt (le n v) := by
  induction n generalizing v with
  | zero => exact Byt.nil
  | succ n ih => exact Byt.cons (by omega) (by omega) (ih _)
theorem length_le (n : Nat) (v : Int) : (le n v).length = n := by
  induction n generalizing v with
  | zero => rfl
  | succ n ih => simp [le, ih]
theorem leV_bd {l : List Int} (h : Byt l) : 0 ≤ leV l ∧ leV l < 256 ^ l.length := by
  induction l with
  | nil => simp [leV]
  | cons x l ih =>
    have h1 := h x (by simp)
    have h2 := ih h.tail
    simp only [leV, List.length_cons]
    rw [show (256 : Int) ^ (l.length + 1) = 256 ^ l.length * 256 from rfl]
    omega
theorem leV_le (n : Nat) (v : Int) (h0 : 0 ≤ v) (h : v < 256 ^ n) : leV (le n v) = v := by
  induction n generalizing v with
  | zero => simp at h; simp [le, leV]; omega
  | succ n ih =>
    rw [show (256 : Int) ^ (n + 1) = 256 ^ n * 256 from rfl] at h
    simp only [le, leV]
    rw [ih (v / 256) (by omega) (by omega)]
    omega
theorem le_leV {l : List Int} (h : Byt l) : le l.length (leV l) = l := by
  induction l with
  | nil => rfl
  | cons x l ih =>
    have h1 := h x (by simp)
    simp only [List.length_cons, le, leV]
    rw [show (x + 256 * leV l) / 256 = leV l by omega, show (x + 256 * leV l) % 256 = x by omega, ih h.tail]
theorem le_one {v : Int} (h0 : 0 ≤ v) (h : v ≤ 255) : le 1 v = [v] := by simp [le]; omega
theorem le_snoc (n : Nat) (v : Int) : le (n + 1) v = le n v ++ [v / 256 ^ n % 256] := by
  induction n generalizing v with
  | zero => simp [le]
  | succ n ih =>
    rw [le, ih (v / 256)]
    simp only [le, List.cons_append]
    rw [show v / 256 / 256 ^ n = v / 256 ^ (n + 1) by rw [Int.ediv_ediv_of_nonneg (by omega), show (256 : Int) ^ (n + 1) = 256 * 256 ^ n by rw [Int.pow_succ, Int.mul_comm]]]
theorem leV_snoc (l : List Int) (x : Int) : leV (l ++ [x]) = leV l + x * 256 ^ l.length := by
  induction l with
  | nil => simp [leV]
  | cons y l ih =>
    simp only [List.cons_append, leV, ih, List.length_cons]
    rw [show (256 : Int) ^ (l.length + 1) = 256 ^ l.length * 256 from rfl]
    generalize (256 : Int) ^ l.length = p
    rw [show x * (p * 256) = 256 * (x * p) by rw [Int.mul_comm p, Int.mul_left_comm]]
    omega

/-- how many bytes an operation's Arg and Imm have -/
def argW (op : Int) : Nat := if op = 2 ∨ op = 3 ∨ op = 4 ∨ op = 23 ∨ op = 25 then 1 else if op = 21 ∨ op = 22 then 2 else 0
def immW (op : Int) : Nat := if op = 1 then 8 else 0
def opB (op : Int) : Bool := decide (1 ≤ op ∧ op ≤ 32)
def kindB (k : Int) : Bool := decide (k = 0 ∨ k = 1)
/-- does a number fit into so many bytes? -/
def fitB (n : Nat) (v : Int) : Bool := decide (0 ≤ v ∧ v < 256 ^ n)
theorem argW_le (op : Int) : argW op ≤ 2 := by unfold argW; split <;> (try split) <;> omega
theorem immW_le (op : Int) : immW op ≤ 8 := by unfold immW; split <;> omega

/-- may bytes say it? -/
def okI (i : Ins) : Bool := opB i.op && fitB (argW i.op) i.arg && fitB (immW i.op) i.imm
def okF (f : Fn) : Bool := decide (f.locals.length ≤ 255) && decide (f.code.length ≤ 65535) && decide (0 ≤ f.params) && decide (f.params ≤ f.locals.length) && decide (-1 ≤ f.keep) && decide (f.keep ≤ 254) && f.locals.all kindB && f.code.all okI
def okP (fs : List Fn) : Bool := decide (0 < fs.length) && decide (fs.length ≤ 255) && fs.all okF
def encI (i : Ins) : List Int := i.op :: (le (argW i.op) i.arg ++ le (immW i.op) i.imm)
def keepByte (k : Int) : Int := if k = -1 then 255 else k
def encF (f : Fn) : List Int := f.params :: (f.locals.length : Int) :: (f.locals ++ ((if f.result then 1 else 0) :: keepByte f.keep :: (le 2 f.code.length ++ f.code.flatMap encI)))
def enc (fs : List Fn) : List Int := 87 :: 76 :: (fs.length : Int) :: fs.flatMap encF
def bndF (f : Fn) : Bool := decide (f.params ≤ 4) && decide (f.locals.length ≤ 16) && decide (f.code.length ≤ 256)
def bnd (fs : List Fn) : Bool := decide (fs.length ≤ 16) && fs.all bndF

/-- what is left to read; none: it was no program -/
abbrev St := Option (List Int)
def num (n : Nat) : St → Int × St
  | some l => if n ≤ l.length then (leV (l.take n), some (l.drop n)) else (0, none)
  | none => (0, none)
def need (c : Bool) (s : St) : St := if c then s else none
theorem num_zero (s : St) : num 0 s = (0, s) := by cases s <;> simp [num, leV]
theorem num_none (n : Nat) : num n none = (0, none) := rfl
theorem need_true (s : St) : need true s = s := rfl
theorem need_false (s : St) : need false s = none := rfl
theorem need_none (c : Bool) : need c none = none := by cases c <;> rfl

def pIns (s : St) : Ins × St :=
  (⟨(num 1 s).1, (num (argW (num 1 s).1) (need (opB (num 1 s).1) (num 1 s).2)).1, (num (immW (num 1 s).1) (num (argW (num 1 s).1) (need (opB (num 1 s).1) (num 1 s).2)).2).1⟩,
    (num (immW (num 1 s).1) (num (argW (num 1 s).1) (need (opB (num 1 s).1) (num 1 s).2)).2).2)
def pInss : Nat → St → List Ins × St
  | 0, s => ([], s)
  | _ + 1, none => ([], none)
  | n + 1, some l => ((pIns (some l)).1 :: (pInss n (pIns (some l)).2).1, (pInss n (pIns (some l)).2).2)
def pKinds : Nat → St → List Int × St
  | 0, s => ([], s)
  | _ + 1, none => ([], none)
  | n + 1, some l => ((num 1 (some l)).1 :: (pKinds n (need (kindB (num 1 (some l)).1) (num 1 (some l)).2)).1, (pKinds n (need (kindB (num 1 (some l)).1) (num 1 (some l)).2)).2)
def pFlag (s : St) : Bool × St := (decide ((num 1 s).1 = 1), need (decide ((num 1 s).1 ≤ 1)) (num 1 s).2)
def pKeep (s : St) : Int × St := (if (num 1 s).1 = 255 then -1 else (num 1 s).1, (num 1 s).2)
def pFn (s : St) : Fn × St :=
  let a := num 1 s
  let b := num 1 a.2
  let k := pKinds b.1.toNat (need (decide (a.1 ≤ b.1)) b.2)
  let r := pFlag k.2
  let q := pKeep r.2
  let c := num 2 q.2
  let i := pInss c.1.toNat c.2
  (⟨a.1, k.1, r.1, q.1, i.1⟩, i.2)
def pFns : Nat → St → List Fn × St
  | 0, s => ([], s)
  | _ + 1, none => ([], none)
  | n + 1, some l => ((pFn (some l)).1 :: (pFns n (pFn (some l)).2).1, (pFns n (pFn (some l)).2).2)
def pProg (s : St) : List Fn × St :=
  let a := num 1 s
  let b := num 1 (need (decide (a.1 = 87)) a.2)
  let n := num 1 (need (decide (b.1 = 76)) b.2)
  pFns n.1.toNat (need (decide (0 < n.1)) n.2)
/-- the program that bytes are; none: they are no program's -/
def parse (b : List Int) : Option (List Fn) := match (pProg (some b)).2 with
  | some [] => some (pProg (some b)).1
  | _ => none

/-! what is written is read again -/
theorem num_app {n : Nat} {l r : List Int} (h : l.length = n) : num n (some (l ++ r)) = (leV l, some r) := by
  subst h
  simp [num]
theorem num_le {n : Nat} {v : Int} (h0 : 0 ≤ v) (h : v < 256 ^ n) (r : List Int) : num n (some (le n v ++ r)) = (v, some r) := by
  rw [num_app (length_le n v), leV_le n v h0 h]
theorem num_one (x : Int) (r : List Int) : num 1 (some (x :: r)) = (x, some r) := by
  have := num_app (n := 1) (l := [x]) (r := r) rfl
  simpa [leV] using this
theorem okI_iff {i : Ins} : okI i = true ↔ opB i.op = true ∧ fitB (argW i.op) i.arg = true ∧ fitB (immW i.op) i.imm = true := by simp [okI, and_assoc]
theorem fitB_iff {n : Nat} {v : Int} : fitB n v = true ↔ 0 ≤ v ∧ v < 256 ^ n := by simp [fitB]
theorem opB_iff {v : Int} : opB v = true ↔ 1 ≤ v ∧ v ≤ 32 := by simp [opB]
theorem kindB_iff {v : Int} : kindB v = true ↔ v = 0 ∨ v = 1 := by simp [kindB]
theorem okF_iff {f : Fn} : okF f = true ↔ f.locals.length ≤ 255 ∧ f.code.length ≤ 65535 ∧ 0 ≤ f.params ∧ f.params ≤ f.locals.length ∧ -1 ≤ f.keep ∧ f.keep ≤ 254 ∧ (∀ k ∈ f.locals, kindB k = true) ∧ (∀ i ∈ f.code, okI i = true) := by
  simp [okF, and_assoc]
theorem okP_iff {fs : List Fn} : okP fs = true ↔ 0 < fs.length ∧ fs.length ≤ 255 ∧ ∀ f ∈ fs, okF f = true := by simp [okP, and_assoc]

theorem pIns_enc {i : Ins} (h : okI i = true) (r : List Int) : pIns (some (encI i ++ r)) = (i, some r) := by
  obtain ⟨h1, h2, h3⟩ := okI_iff.1 h
  obtain ⟨a0, a1⟩ := fitB_iff.1 h2
  obtain ⟨m0, m1⟩ := fitB_iff.1 h3
  unfold pIns encI
  simp only [List.cons_append, num_one, h1, need_true, List.append_assoc, num_le a0 a1, num_le m0 m1]
theorem pInss_enc {is : List Ins} (h : ∀ i ∈ is, okI i = true) (r : List Int) : pInss is.length (some (is.flatMap encI ++ r)) = (is, some r) := by
  induction is with
  | nil => rfl
  | cons i is ih =>
    simp only [List.length_cons, List.flatMap_cons, List.append_assoc, pInss]
    rw [pIns_enc (h i (by simp))]
    simp only [ih fun j hj => h j (by simp [hj])]
theorem pKinds_enc {ks : List Int} (h : ∀ k ∈ ks, kindB k = true) (r : List Int) : pKinds ks.length (some (ks ++ r)) = (ks, some r) := by
  induction ks with
  | nil => rfl
  | cons k ks ih =>
    simp only [List.length_cons, List.cons_append, pKinds, num_one, h k (by simp), need_true]
    simp only [ih fun j hj => h j (by simp [hj])]
theorem pFn_enc {f : Fn} (h : okF f = true) (r : List Int) : pFn (some (encF f ++ r)) = (f, some r) := by
  obtain ⟨h1, h2, h3, h4, h5, h6, h7, h8⟩ := okF_iff.1 h
  have hp : decide (f.params ≤ (f.locals.length : Int)) = true := by simpa using h4
  have hc : num 2 (some (le 2 f.code.length ++ (f.code.flatMap encI ++ r))) = ((f.code.length : Int), some (f.code.flatMap encI ++ r)) := num_le (by omega) (by omega) _
  have hr : ∀ x, pFlag (some ((if f.result then 1 else 0) :: x)) = (f.result, some x) := by
    intro x
    unfold pFlag
    rw [num_one]
    cases f.result <;> simp [need]
  have hk : ∀ x, pKeep (some (keepByte f.keep :: x)) = (f.keep, some x) := by
    intro x
    unfold pKeep
    rw [num_one]
    simp only [keepByte]
    congr 1
    split <;> (split <;> omega)
  unfold pFn encF
  simp only [List.cons_append, List.append_assoc, num_one, hp, need_true, Int.toNat_natCast, pKinds_enc h7, hr, hk, hc, pInss_enc h8]
theorem pFns_enc {fs : List Fn} (h : ∀ f ∈ fs, okF f = true) (r : List Int) : pFns fs.length (some (fs.flatMap encF ++ r)) = (fs, some r) := by
  induction fs with
  | nil => rfl
  | cons f fs ih =>
    simp only [List.length_cons, List.flatMap_cons, List.append_assoc, pFns]
    rw [pFn_enc (h f (by simp))]
    simp only [ih fun j hj => h j (by simp [hj])]
theorem pProg_enc {fs : List Fn} (h : okP fs = true) (r : List Int) : pProg (some (enc fs ++ r)) = (fs, some r) := by
  obtain ⟨h1, h2, h3⟩ := okP_iff.1 h
  have hn : decide ((0 : Int) < (fs.length : Int)) = true := by simp; omega
  unfold pProg enc
  simp only [List.cons_append, num_one, need_true, decide_true, hn, Int.toNat_natCast, pFns_enc h3]
theorem parse_enc {fs : List Fn} (h : okP fs = true) : parse (enc fs) = some fs := by
  have := pProg_enc h []
  rw [List.append_nil] at this
  unfold parse
  rw [this]
theorem parse_more {fs : List Fn} (h : okP fs = true) {x : Int} {r : List Int} : parse (enc fs ++ x :: r) = none := by
  unfold parse
  rw [pProg_enc h]

/-! what is read is what was written -/
theorem num_some {n : Nat} {s : St} {r : List Int} (h : (num n s).2 = some r) : ∃ l, s = some l ∧ n ≤ l.length ∧ (num n s).1 = leV (l.take n) ∧ r = l.drop n := by
  cases s with
  | none => simp [num] at h
  | some l =>
    simp only [num] at h ⊢
    split at h
    · rename_i hn
      simp only [Option.some.injEq] at h
      exact ⟨l, rfl, hn, by simp [hn], h.symm⟩
    · cases h
theorem need_some {c : Bool} {s : St} {r : List Int} (h : need c s = some r) : c = true ∧ s = some r := by
  cases c
  · cases h
  · exact ⟨rfl, h⟩
theorem num_back {n : Nat} {s : St} {r : List Int} (h : (num n s).2 = some r) : ∃ l, s = some l ∧ (Byt l → l = le n (num n s).1 ++ r ∧ 0 ≤ (num n s).1 ∧ (num n s).1 < 256 ^ n ∧ Byt r) := by
  obtain ⟨l, rfl, hn, hv, rfl⟩ := num_some h
  refine ⟨l, rfl, fun hb => ?_⟩
  have hl : (l.take n).length = n := by simp; omega
  have h1 := leV_bd (hb.take n)
  rw [hl] at h1
  have h2 := le_leV (hb.take n)
  rw [hl] at h2
  rw [hv, h2, List.take_append_drop]
  exact ⟨rfl, h1.1, h1.2, hb.drop n⟩
theorem num_back1 {s : St} {r : List Int} (h : (num 1 s).2 = some r) : ∃ l, s = some l ∧ (Byt l → l = (num 1 s).1 :: r ∧ 0 ≤ (num 1 s).1 ∧ (num 1 s).1 ≤ 255 ∧ Byt r) := by
  obtain ⟨l, hs, hl⟩ := num_back h
  refine ⟨l, hs, fun hb => ?_⟩
  obtain ⟨h1, h2, h3, h4⟩ := hl hb
  simp only [Int.reducePow] at h3
  exact ⟨by rw [le_one h2 (by omega)] at h1; exact h1, h2, by omega, h4⟩

theorem pIns_back {s : St} {r : List Int} (h : (pIns s).2 = some r) : ∃ l, s = some l ∧ (Byt l → l = encI (pIns s).1 ++ r ∧ okI (pIns s).1 = true ∧ Byt r) := by
  unfold pIns at h ⊢
  simp only at h ⊢
  obtain ⟨l3, e3, b3⟩ := num_back h
  obtain ⟨l2, e2, b2⟩ := num_back e3
  obtain ⟨hop, e2'⟩ := need_some e2
  obtain ⟨l1, e1, b1⟩ := num_back1 e2'
  refine ⟨l1, e1, fun hb => ?_⟩
  obtain ⟨c1, c2, c3, c4⟩ := b1 hb
  obtain ⟨d1, d2, d3, d4⟩ := b2 c4
  obtain ⟨f1, f2, f3, f4⟩ := b3 d4
  refine ⟨?_, okI_iff.2 ⟨hop, fitB_iff.2 ⟨d2, d3⟩, fitB_iff.2 ⟨f2, f3⟩⟩, f4⟩
  unfold encI
  simp only [List.cons_append, List.append_assoc]
  rw [← f1, ← d1, ← c1]
theorem pInss_back (n : Nat) {s : St} {r : List Int} (h : (pInss n s).2 = some r) : ∃ l, s = some l ∧ (Byt l → l = (pInss n s).1.flatMap encI ++ r ∧ (∀ i ∈ (pInss n s).1, okI i = true) ∧ (pInss n s).1.length = n ∧ Byt r) := by
  induction n generalizing s with
  | zero => exact ⟨r, h, fun hb => ⟨by simp [pInss], by simp [pInss], rfl, hb⟩⟩
  | succ n ih =>
    cases s with
    | none => cases h
    | some l =>
      simp only [pInss] at h ⊢
      obtain ⟨l1, e1, b1⟩ := ih h
      obtain ⟨l0, e0, b0⟩ := pIns_back e1
      injection e0 with e0
      subst e0
      refine ⟨l, rfl, fun hb => ?_⟩
      obtain ⟨c1, c2, c3⟩ := b0 hb
      obtain ⟨d1, d2, d3, d4⟩ := b1 c3
      refine ⟨?_, ?_, by simp [d3], d4⟩
      · rw [List.flatMap_cons, List.append_assoc, ← d1, ← c1]
      · intro i hi
        rcases List.mem_cons.1 hi with rfl | hi
        · exact c2
        · exact d2 i hi
theorem pKinds_back (n : Nat) {s : St} {r : List Int} (h : (pKinds n s).2 = some r) : ∃ l, s = some l ∧ (Byt l → l = (pKinds n s).1 ++ r ∧ (∀ i ∈ (pKinds n s).1, kindB i = true) ∧ (pKinds n s).1.length = n ∧ Byt r) := by
  induction n generalizing s with
  | zero => exact ⟨r, h, fun hb => ⟨by simp [pKinds], by simp [pKinds], rfl, hb⟩⟩
  | succ n ih =>
    cases s with
    | none => cases h
    | some l =>
      simp only [pKinds] at h ⊢
      obtain ⟨l1, e1, b1⟩ := ih h
      obtain ⟨hk, e1'⟩ := need_some e1
      obtain ⟨l0, e0, b0⟩ := num_back1 e1'
      injection e0 with e0
      subst e0
      refine ⟨l, rfl, fun hb => ?_⟩
      obtain ⟨c1, c2, c3, c4⟩ := b0 hb
      obtain ⟨d1, d2, d3, d4⟩ := b1 c4
      refine ⟨?_, ?_, by simp [d3], d4⟩
      · rw [List.cons_append, ← d1, ← c1]
      · intro i hi
        rcases List.mem_cons.1 hi with rfl | hi
        · exact hk
        · exact d2 i hi
theorem pFn_back {s : St} {r : List Int} (h : (pFn s).2 = some r) : ∃ l, s = some l ∧ (Byt l → l = encF (pFn s).1 ++ r ∧ okF (pFn s).1 = true ∧ Byt r) := by
  unfold pFn at h ⊢
  simp only at h ⊢
  obtain ⟨l6, e6, b6⟩ := pInss_back _ h
  obtain ⟨l5, e5, b5⟩ := num_back e6
  unfold pKeep at e5 b5 b6 ⊢
  simp only at e5 b5 b6 ⊢
  obtain ⟨l4, e4, b4⟩ := num_back1 e5
  unfold pFlag at e4 b4 b5 b6 ⊢
  simp only at e4 b4 b5 b6 ⊢
  obtain ⟨hf, e4'⟩ := need_some e4
  obtain ⟨l3, e3, b3⟩ := num_back1 e4'
  obtain ⟨l2, e2, b2⟩ := pKinds_back _ e3
  obtain ⟨hp, e2'⟩ := need_some e2
  obtain ⟨l1, e1, b1⟩ := num_back1 e2'
  obtain ⟨l0, e0, b0⟩ := num_back1 e1
  refine ⟨l0, e0, fun hb => ?_⟩
  obtain ⟨c1, c2, c3, c4⟩ := b0 hb
  obtain ⟨d1, d2, d3, d4⟩ := b1 c4
  obtain ⟨f1, f2, f3, f4⟩ := b2 d4
  obtain ⟨g1, g2, g3, g4⟩ := b3 f4
  obtain ⟨i1, i2, i3, i4⟩ := b4 g4
  obtain ⟨j1, j2, j3, j4⟩ := b5 i4
  obtain ⟨k1, k2, k3, k4⟩ := b6 j4
  generalize (num 1 s) = A at *
  generalize (num 1 A.2) = B at *
  generalize (pKinds B.1.toNat (need (decide (A.1 ≤ B.1)) B.2)) = K at *
  generalize (num 1 K.2) = R at *
  generalize (num 1 (need (decide (R.1 ≤ 1)) R.2)) = Q at *
  generalize (num 2 Q.2) = C at *
  generalize (pInss C.1.toNat C.2) = I at *
  simp only [decide_eq_true_eq] at hp hf
  simp only [Int.reducePow] at j3
  have hB : B.1 = (K.1.length : Int) := by omega
  have hC : C.1 = (I.1.length : Int) := by omega
  refine ⟨?_, okF_iff.2 ⟨by simp only; omega, by simp only; omega, c2, by simp only; omega, by simp only; split <;> omega, by simp only; split <;> omega, f2, k2⟩, k4⟩
  unfold encF
  simp only [List.cons_append, List.append_assoc]
  rw [← hB, ← hC, ← k1, ← j1]
  have hq : keepByte (if Q.1 = 255 then -1 else Q.1) = Q.1 := by
    unfold keepByte
    split <;> split at * <;> omega
  have hr : (if decide (R.1 = 1) = true then (1 : Int) else 0) = R.1 := by
    simp only [decide_eq_true_eq]
    split <;> omega
  rw [hq, hr, ← i1, ← g1, ← f1, ← d1, ← c1]
theorem pFns_back (n : Nat) {s : St} {r : List Int} (h : (pFns n s).2 = some r) : ∃ l, s = some l ∧ (Byt l → l = (pFns n s).1.flatMap encF ++ r ∧ (∀ i ∈ (pFns n s).1, okF i = true) ∧ (pFns n s).1.length = n ∧ Byt r) := by
  induction n generalizing s with
  | zero => exact ⟨r, h, fun hb => ⟨by simp [pFns], by simp [pFns], rfl, hb⟩⟩
  | succ n ih =>
    cases s with
    | none => cases h
    | some l =>
      simp only [pFns] at h ⊢
      obtain ⟨l1, e1, b1⟩ := ih h
      obtain ⟨l0, e0, b0⟩ := pFn_back e1
      injection e0 with e0
      subst e0
      refine ⟨l, rfl, fun hb => ?_⟩
      obtain ⟨c1, c2, c3⟩ := b0 hb
      obtain ⟨d1, d2, d3, d4⟩ := b1 c3
      refine ⟨?_, ?_, by simp [d3], d4⟩
      · rw [List.flatMap_cons, List.append_assoc, ← d1, ← c1]
      · intro i hi
        rcases List.mem_cons.1 hi with rfl | hi
        · exact c2
        · exact d2 i hi
theorem pProg_back {b r : List Int} (hb : Byt b) (h : (pProg (some b)).2 = some r) : b = enc (pProg (some b)).1 ++ r ∧ okP (pProg (some b)).1 = true := by
  unfold pProg at h ⊢
  simp only at h ⊢
  obtain ⟨l3, e3, b3⟩ := pFns_back _ h
  obtain ⟨hn, e3'⟩ := need_some e3
  obtain ⟨l2, e2, b2⟩ := num_back1 e3'
  obtain ⟨hq, e2'⟩ := need_some e2
  obtain ⟨l1, e1, b1⟩ := num_back1 e2'
  obtain ⟨hp, e1'⟩ := need_some e1
  obtain ⟨l0, e0, b0⟩ := num_back1 e1'
  injection e0 with e0
  subst e0
  obtain ⟨c1, c2, c3, c4⟩ := b0 hb
  obtain ⟨d1, d2, d3, d4⟩ := b1 c4
  obtain ⟨f1, f2, f3, f4⟩ := b2 d4
  obtain ⟨g1, g2, g3, g4⟩ := b3 f4
  simp only [decide_eq_true_eq] at hn hq hp
  generalize (num 1 (some b)) = A at *
  generalize (num 1 (need (decide (A.1 = 87)) A.2)) = B at *
  generalize (num 1 (need (decide (B.1 = 76)) B.2)) = C at *
  generalize (pFns C.1.toNat (need (decide (0 < C.1)) C.2)) = F at *
  have hC : C.1 = (F.1.length : Int) := by omega
  refine ⟨?_, okP_iff.2 ⟨by omega, by omega, g2⟩⟩
  unfold enc
  simp only [List.cons_append]
  rw [← hC, ← g1, ← f1, ← hq, ← d1, ← hp, ← c1]
theorem parse_back {b : List Int} (hb : Byt b) {fs : List Fn} (h : parse b = some fs) : b = enc fs ∧ okP fs = true := by
  unfold parse at h
  split at h
  · rename_i h0
    have h1 := pProg_back hb h0
    simp only [Option.some.injEq] at h
    rw [h, List.append_nil] at h1
    exact h1
  · cases h
/-- no beginning of a program is one -/
theorem parse_cut {fs : List Fn} (h : okP fs = true) (hb : Byt (enc fs)) {k : Nat} (hk : k < (enc fs).length) : parse ((enc fs).take k) = none := by
  cases hp : parse ((enc fs).take k) with
  | none => rfl
  | some gs =>
    exfalso
    obtain ⟨h1, h2⟩ := parse_back (hb.take k) hp
    have h3 := pProg_enc h2 ((enc fs).drop k)
    rw [← h1, List.take_append_drop] at h3
    have h4 := pProg_enc h []
    rw [List.append_nil, h3] at h4
    simp only [Prod.mk.injEq, Option.some.injEq] at h4
    have := congrArg List.length h4.2
    simp at this
    omega
theorem byt_encI {i : Ins} (h : okI i = true) : Byt (encI i) := by
  obtain ⟨h1, h2, h3⟩ := okI_iff.1 h
  have := opB_iff.1 h1
  exact Byt.cons (by omega) (by omega) ((byt_le _ _).app (byt_le _ _))
theorem byt_flat {α : Type} {l : List α} {f : α → List Int} (h : ∀ x ∈ l, Byt (f x)) : Byt (l.flatMap f) := by
  intro y hy
  obtain ⟨x, hx, hy⟩ := List.mem_flatMap.1 hy
  exact h x hx y hy
theorem byt_encF {f : Fn} (h : okF f = true) : Byt (encF f) := by
  obtain ⟨h1, h2, h3, h4, h5, h6, h7, h8⟩ := okF_iff.1 h
  refine Byt.cons h3 (by omega) (Byt.cons (by omega) (by omega) (Byt.app ?_ (Byt.cons (by split <;> omega) (by split <;> omega) (Byt.cons ?_ ?_ ((byt_le _ _).app (byt_flat fun i hi => byt_encI (h8 i hi)))))))
  · intro k hk
    have := kindB_iff.1 (h7 k hk)
    omega
  · unfold keepByte; split <;> omega
  · unfold keepByte; split <;> omega
theorem byt_enc {fs : List Fn} (h : okP fs = true) : Byt (enc fs) := by
  obtain ⟨h1, h2, h3⟩ := okP_iff.1 h
  exact Byt.cons (by omega) (by omega) (Byt.cons (by omega) (by omega) (Byt.cons (by omega) (by omega) (byt_flat fun f hf => byt_encF (h3 f hf))))
end Go.Proofs.Ytdoabcmfblmklaa

/-
  Words for memory: a slice that reads as a list, a block known whole, an append onto a row of the call's own (the guide's extra-words, copied as its page says).
-/
namespace Go.Proofs.Ytdoabcmfblmklaa
set_option linter.unusedVariables false
open Go.ChangeShapes Go.WideShapes Go.ChangeAt Go.RowKit

theorem block_of_add (a : Addr) (n : Nat) : (a.add n).block = a.block := by unfold Addr.add; split <;> rfl
theorem add_of_add (a : Addr) (i j : Nat) : (a.add i).add j = a.add (i + j) := by
  unfold Addr.add
  by_cases hi : i = 0 <;> by_cases hj : j = 0 <;> simp [hi, hj, Nat.add_assoc]

def Reads (w : World) (B size : Nat) (A : Option Addr) (n : Nat) (xs : List Value) : Prop :=
  xs.length = n * size ∧ (0 < n → ∃ ad, A = some ad ∧ ad.block < B ∧ ∀ j u, xs[j]? = some u → w.cell? (ad.add j) = some u)

section
variable {w w' : World} {B B' size n : Nat} {A : Option Addr} {xs : List Value}
theorem Reads.none_ : Reads w B size A 0 [] := ⟨by simp, fun h => absurd h (by omega)⟩
theorem Reads.at_ {k : Nat} (h : Reads w B 1 A n xs) (hk : k < n) : ∃ ad u, A = some ad ∧ ad.block < B ∧ xs[k]? = some u ∧ w.cell? (ad.add k) = some u := by
  obtain ⟨ad, e, hb, hc⟩ := h.2 (by omega)
  have hl : k < xs.length := by have := h.1; omega
  exact ⟨ad, xs[k], e, hb, List.getElem?_eq_getElem hl, hc k _ (List.getElem?_eq_getElem hl)⟩
theorem Reads.keep (h : Reads w B size A n xs) (hk : ∀ p : Addr, p.block < B → w'.cell? p = w.cell? p) : Reads w' B size A n xs :=
  ⟨h.1, fun hn => by
    obtain ⟨ad, e, hb, hc⟩ := h.2 hn
    exact ⟨ad, e, hb, fun j u hu => (hk _ (by rw [block_of_add]; exact hb)).trans (hc j u hu)⟩⟩
theorem Reads.more (h : Reads w B size A n xs) (hB : B ≤ B') : Reads w B' size A n xs :=
  ⟨h.1, fun hn => by
    obtain ⟨ad, e, hb, hc⟩ := h.2 hn
    exact ⟨ad, e, by omega, hc⟩⟩
theorem Reads.below (h : Reads w B size A n xs) (hb : Below B w w') : Reads w' B size A n xs := h.keep fun _ hp => hb.cell hp
theorem Reads.drew (h : Reads w B size A n xs) : Reads w.drew B size A n xs := h
theorem Reads.drewN (h : Reads w B size A n xs) (k : Nat) : Reads (w.drewN k) B size A n xs := h
theorem Reads.alloc (h : Reads w B size A n xs) (hB : B ≤ w.heap.size) (o : Obj) : Reads (w.alloc o) B size A n xs := h.keep fun p hp => World.cell?_alloc_lt w o p (by omega)
theorem Reads.setCell (h : Reads w B size A n xs) {p : Addr} (hB : B ≤ p.block) (u : Value) : Reads (w.setCell p u) B size A n xs :=
  h.keep fun q hq => World.cell?_setCell_other w p q u (fun e => by subst e; omega)
theorem Reads.grown (h : Reads w B size A n xs) {row : Option Nat} (hg : w.grownBy w' row) (hB : B ≤ w.heap.size) (hr : ∀ g, row = some g → B ≤ g) : Reads w' B size A n xs :=
  h.keep fun p hp => World.cell?_of_block (hg.block p.block (by omega) (fun e => by have := hr _ e.symm; omega))
theorem Reads.cut (h : Reads w B size A n xs) {k cap : Nat} (hk : k ≤ n) (hc : n ≤ cap) :
    Reads w B size (if cap = k then A else A.map (·.add (k * size))) (n - k) (xs.drop (k * size)) := by
  refine ⟨by rw [List.length_drop, h.1, Nat.sub_mul], fun hn => ?_⟩
  obtain ⟨ad, rfl, hb, hcell⟩ := h.2 (by omega)
  rw [if_neg (by omega)]
  refine ⟨ad.add (k * size), rfl, by rw [block_of_add]; exact hb, fun j u hu => ?_⟩
  rw [add_of_add]
  exact hcell _ u (by rw [← hu, List.getElem?_drop])
theorem Reads.of_own {base : Nat} {e : TypeId} {c : Nat} (h : w.ownsRow base e size (.slice A n c) n xs) : Reads w w.heap.size size A n xs := by
  refine ⟨h.1, fun hn => ?_⟩
  obtain ⟨g, cap, hv, _, hlt⟩ := h.form hn
  have hA : A = some ⟨g, 0, none⟩ := by injection hv
  subst hA
  exact ⟨_, rfl, hlt, h.cells (g := g) rfl⟩
end

def Blk (w : World) (g : Nat) (t : TypeId) (cs : Array Value) : Prop := w.heap[g]? = some (.cells cs t (0, 0))

section
variable {w w' : World} {g : Nat} {t : TypeId} {cs : Array Value}
theorem Blk.lt (h : Blk w g t cs) : g < w.heap.size := by
  rcases Nat.lt_or_ge g w.heap.size with hlt | hge
  · exact hlt
  · unfold Blk at h; rw [Array.getElem?_eq_none hge] at h; cases h
theorem Blk.cell (h : Blk w g t cs) (i : Nat) : w.cell? ⟨g, i, none⟩ = cs[i]? := cell_of_row w g i cs t (0, 0) h
theorem Blk.frozen (h : Blk w g t cs) (i : Nat) : w.frozen? ⟨g, i, none⟩ = false := by
  unfold Blk at h
  simp [World.frozen?, h]
theorem Blk.new (w : World) (t : TypeId) (cs : Array Value) : Blk (w.alloc (.cells cs t)) w.heap.size t cs := heap_alloc_new w _
theorem Blk.drew (h : Blk w g t cs) : Blk w.drew g t cs := h
theorem Blk.drewN (h : Blk w g t cs) (n : Nat) : Blk (w.drewN n) g t cs := h
theorem Blk.alloc (h : Blk w g t cs) (o : Obj) : Blk (w.alloc o) g t cs := (Below.heap_alloc w o g h.lt).trans h
theorem Blk.set_ (h : Blk w g t cs) (i : Nat) (u : Value) : Blk (w.setCell ⟨g, i, none⟩ u) g t (cs.setIfInBounds i u) := by
  unfold Blk at h ⊢
  simp [World.setCell, Array.getElem?_modify, h]
theorem Blk.far (h : Blk w g t cs) {p : Addr} (hp : g ≠ p.block) (u : Value) : Blk (w.setCell p u) g t cs := (Below.heap_setCell w p u g hp).trans h
theorem Blk.below {B : Nat} (h : Blk w g t cs) (hb : Below B w w') (hg : g < B) : Blk w' g t cs := (hb.block g hg).trans h
theorem Blk.grown {row : Option Nat} (h : Blk w g t cs) (hb : w.grownBy w' row) (hg : some g ≠ row) : Blk w' g t cs := (hb.block g h.lt hg).trans h
theorem Blk.ne_ {g' : Nat} {t' : TypeId} {cs' : Array Value} (h : Blk w g t cs) (h' : Blk w g' t' cs') (hne : t ≠ t') : g ≠ g' := by
  rintro rfl
  unfold Blk at h h'
  rw [h] at h'
  injection h' with h'
  injection h' with _ ht
  exact hne ht
theorem own_blk_ne {base : Nat} {e : TypeId} {size n : Nat} {v : Value} {xs : List Value} (h : w.ownsRow base e size v n xs) (hg : Blk w g t cs) (hne : e ≠ t) : v.ownBlock ≠ some g := by
  rcases h.2 with ⟨rfl, _⟩ | ⟨g', cap, cur, rfl, _, hh, _⟩
  · simp [Value.ownBlock]
  · intro he
    have : g' = g := by simpa [Value.ownBlock] using he
    subst this
    exact Blk.ne_ (t := e) hh hg hne rfl
end

section
variable {P : Program} (w : World)

theorem run_append_of_nil (base : Nat) (t ty e : TypeId) (i : TypeInfo) (size : Nat) (ht : P.underlying t = some (.slice e)) (hi : P.info? e = some i)
    (v : Value) (n : Nat) (xs : List Value) (hown : w.ownsRow base e size v n xs) (c : Nat) : (Builtin.append_ #[t, t] ty #[v, .slice none 0 c]).run P w = .ok v w := by
  rcases hown.2 with ⟨rfl, rfl⟩ | ⟨g, cap, cur, rfl, _, _, hnc, _⟩
  · simp [Builtin.append_, run_underlying ht, sizeOf, typeInfo, hi, Builtin.lenOf, Builtin.firstCells]
  · simp [Builtin.append_, run_underlying ht, sizeOf, typeInfo, hi, Builtin.lenOf, Builtin.firstCells, hnc, storeCells]

theorem run_append_any (base : Nat) (t ty e : TypeId) (i : TypeInfo) (z : Value) (size bytes : Nat) (ht : P.underlying t = some (.slice e)) (hi : P.info? e = some i) (hz : i.zero = some z)
    (hsize : i.size = size) (hby : i.bytes = bytes) (hzs : z.cells.size = size) (hsz : 0 < size)
    (v : Value) (n : Nat) (xs : List Value) (hown : w.ownsRow base e size v n xs)
    (B : Nat) (A : Option Addr) (m c : Nat) (news : List Value) (hr : Reads w B size A m news) (h1 : ∀ u ∈ news, u.oneCell' = true)
    (h63 : n + m ≤ maxLen) (hbytes : (n + m) * bytes ≤ 140737488355328) (hbase : base ≤ w.heap.size) :
    ∃ v' w', (Builtin.append_ #[t, t] ty #[v, .slice A m c]).run P w = .ok v' w' ∧ w'.ownsRow base e size v' (n + m) (xs ++ news) ∧ w.grownBy w' v.ownBlock ∧
      (v'.ownBlock = v.ownBlock ∨ v'.ownBlock = some w.heap.size) := by
  rcases A with _ | ad
  · have hm : m = 0 := by
      rcases Nat.eq_zero_or_pos m with h0 | h0
      · exact h0
      · obtain ⟨ad, h, _⟩ := hr.2 h0
        cases h
    subst hm
    have hn : news = [] := List.eq_nil_of_length_eq_zero (by simpa using hr.1)
    subst hn
    exact ⟨v, w, run_append_of_nil w base t ty e i size ht hi v n xs hown c, by simpa using hown, World.grownBy.refl w _, .inl rfl⟩
  · have hcells : ∀ j u, news[j]? = some u → w.cell? (ad.add j) = some u := by
      intro j u hu
      rcases Nat.eq_zero_or_pos m with h0 | h0
      · subst h0
        have hn : news = [] := List.eq_nil_of_length_eq_zero (by simpa using hr.1)
        subst hn
        simp at hu
      · obtain ⟨ad', h, _, hc⟩ := hr.2 h0
        injection h with h
        subst h
        exact hc j u hu
    obtain ⟨v', w', hrun, h2, h3, _, h5⟩ := run_append_own_at (P := P) w base t ty e i z size bytes ht hi hz hsize hby hzs hsz v n xs hown ad m c news hr.1 hcells h1 h63 hbytes hbase
    exact ⟨v', w', hrun, h2, h3, h5⟩

theorem wp_append_any {o : Oper} {a : Act} {K : Act → World → Prop} {Q : Exit → Act → World → Prop} (s x : Operand) (t : TypeId)
    (ho : o.op = .call { callee := .builtin .append, args := #[s, x], argTypes := #[t, t] })
    (base : Nat) (e : TypeId) (i : TypeInfo) (z : Value) (size bytes : Nat) (ht : P.underlying t = some (.slice e)) (hi : P.info? e = some i) (hz : i.zero = some z)
    (hsize : i.size = size) (hby : i.bytes = bytes) (hzs : z.cells.size = size) (hsz : 0 < size)
    (v : Value) (n : Nat) (xs : List Value) (hs : a.eval s = v) (hown : w.ownsRow base e size v n xs)
    (B : Nat) (A : Option Addr) (m c : Nat) (news : List Value) (hx : a.eval x = .slice A m c) (hr : Reads w B size A m news) (h1 : ∀ u ∈ news, u.oneCell' = true)
    (h63 : n + m ≤ maxLen) (hbytes : (n + m) * bytes ≤ 140737488355328) (hbase : base ≤ w.heap.size)
    (h : ∀ v' w', w'.ownsRow base e size v' (n + m) (xs ++ news) → w.grownBy w' v.ownBlock → (v'.ownBlock = v.ownBlock ∨ v'.ownBlock = some w.heap.size) → K (a.put o.dst v') w') : o.wp P a w K Q := by
  obtain ⟨v', w', hrun, h2, h3, h4⟩ := run_append_any (P := P) w base t o.type e i z size bytes ht hi hz hsize hby hzs hsz v n xs hown B A m c news hr h1 h63 hbytes hbase
  unfold Oper.wp execOp
  simp only [ho, resolve, invoke, builtin, Sem.run_bind, Sem.run_pure, Result.andThen_ok, List.map_toArray, List.map_cons, List.map_nil, hs, hx, hrun]
  exact h v' w' h2 h3 h4

theorem wpList_append_any {ops : Array Oper} {rest : List Oper} {o : Oper} {a : Act} {Q : Exit → Act → World → Prop} (hgd : o.guard = none) (s x : Operand) (t : TypeId)
    (ho : o.op = .call { callee := .builtin .append, args := #[s, x], argTypes := #[t, t] })
    (base : Nat) (e : TypeId) (i : TypeInfo) (z : Value) (size bytes : Nat) (ht : P.underlying t = some (.slice e)) (hi : P.info? e = some i) (hz : i.zero = some z)
    (hsize : i.size = size) (hby : i.bytes = bytes) (hzs : z.cells.size = size) (hsz : 0 < size)
    (v : Value) (n : Nat) (xs : List Value) (hs : a.eval s = v) (hown : w.ownsRow base e size v n xs)
    (B : Nat) (A : Option Addr) (m c : Nat) (news : List Value) (hx : a.eval x = .slice A m c) (hr : Reads w B size A m news) (h1 : ∀ u ∈ news, u.oneCell' = true)
    (h63 : n + m ≤ maxLen) (hbytes : (n + m) * bytes ≤ 140737488355328) (hbase : base ≤ w.heap.size)
    (h : ∀ v' w', w'.ownsRow base e size v' (n + m) (xs ++ news) → w.grownBy w' v.ownBlock → (v'.ownBlock = v.ownBlock ∨ v'.ownBlock = some w.heap.size) → wpList P ops Q rest (a.put o.dst v') w') : wpList P ops Q (o :: rest) a w :=
  wpList_plain hgd fun _ hK => wp_append_any w s x t ho base e i z size bytes ht hi hz hsize hby hzs hsz v n xs hs hown B A m c news hx hr h1 h63 hbytes hbase fun v' w' h2 h3 h4 => hK _ _ (h v' w' h2 h3 h4)

theorem step_append_any {ops : Array Oper} {o : Oper} {a : Act} {K : Act → World → Prop} {Q : Exit → Act → World → Prop} {E : Prop} (hgd : o.guard = none) (s x : Operand) (t : TypeId)
    (ho : o.op = .call { callee := .builtin .append, args := #[s, x], argTypes := #[t, t] })
    (base : Nat) (e : TypeId) (i : TypeInfo) (z : Value) (size bytes : Nat) (ht : P.underlying t = some (.slice e)) (hi : P.info? e = some i) (hz : i.zero = some z)
    (hsize : i.size = size) (hby : i.bytes = bytes) (hzs : z.cells.size = size) (hsz : 0 < size)
    (v : Value) (n : Nat) (xs : List Value) (hs : a.eval s = v) (hown : w.ownsRow base e size v n xs)
    (B : Nat) (A : Option Addr) (m c : Nat) (news : List Value) (hx : a.eval x = .slice A m c) (hr : Reads w B size A m news) (h1 : ∀ u ∈ news, u.oneCell' = true)
    (h63 : n + m ≤ maxLen) (hbytes : (n + m) * bytes ≤ 140737488355328) (hbase : base ≤ w.heap.size)
    (h : ∀ v' w', w'.ownsRow base e size v' (n + m) (xs ++ news) → w.grownBy w' v.ownBlock → (v'.ownBlock = v.ownBlock ∨ v'.ownBlock = some w.heap.size) → K (a.put o.dst v') w') :
    if Region.wanted o (yielded ops a.tmps) = true then Oper.wp P o a w K Q else E := by
  have hw : Region.wanted o (yielded ops a.tmps) = true := by simp [Region.wanted, hgd]
  rw [if_pos hw]
  exact wp_append_any w s x t ho base e i z size bytes ht hi hz hsize hby hzs hsz v n xs hs hown B A m c news hx hr h1 h63 hbytes hbase h
end

theorem below_drewN {B : Nat} {a w : World} (h : Below B a w) (n : Nat) : Below B a (w.drewN n) := ⟨h.os, h.tape, h.output, h.size, h.block⟩

/-- A slice's address written out: where there is an element, there is a block and a place in it. -/
theorem Reads.lit {w : World} {B size n : Nat} {A : Option Addr} {xs : List Value} (h : Reads w B size A n xs) (hn : 0 < n) (hs : 0 < size) :
    ∃ b off, A = some ⟨b, off, none⟩ ∧ b < B ∧ ∀ j u, xs[j]? = some u → w.cell? ⟨b, off + j, none⟩ = some u := by
  obtain ⟨ad, rfl, hb, hc⟩ := h.2 hn
  obtain ⟨b, off, spot⟩ := ad
  have hl : 0 < xs.length := by rw [h.1]; exact Nat.mul_pos hn hs
  have h0 := hc 0 _ (List.getElem?_eq_getElem hl)
  have hspot : spot = none := by simpa [Addr.add] using World.cell?_spot h0
  subst hspot
  refine ⟨b, off, rfl, hb, fun j u hj => ?_⟩
  have ea : (⟨b, off, none⟩ : Addr).add j = ⟨b, off + j, none⟩ := by simp [Addr.add]
  rw [← ea]; exact hc j u hj
theorem own_slice {w : World} {base size n : Nat} {e : TypeId} {v : Value} {xs : List Value} (h : w.ownsRow base e size v n xs) : ∃ A c, v = .slice A n c := by
  rcases h.2 with ⟨rfl, rfl⟩ | ⟨g, cap, cur, rfl, _⟩
  · exact ⟨_, _, rfl⟩
  · exact ⟨_, _, rfl⟩
theorem own_kept {w w' : World} {base size n : Nat} {e : TypeId} {v : Value} {xs : List Value} (h : w.ownsRow base e size v n xs) (hk : ∀ i, v.ownBlock = some i → w'.heap[i]? = w.heap[i]?) : w'.ownsRow base e size v n xs := by
  obtain ⟨h1, h2⟩ := h
  refine ⟨h1, ?_⟩
  rcases h2 with h2 | ⟨g, cap, cur, rfl, hg, hb, hr⟩
  · exact .inl h2
  · exact .inr ⟨g, cap, cur, rfl, hg, (hk g rfl).trans hb, hr⟩
theorem own_block_le {w : World} {base size n : Nat} {e : TypeId} {v : Value} {xs : List Value} (h : w.ownsRow base e size v n xs) {i : Nat} (hi : v.ownBlock = some i) : base ≤ i ∧ i < w.heap.size := by
  rcases h.2 with ⟨rfl, _⟩ | ⟨g, cap, cur, rfl, hg, hb, _⟩
  · simp [Value.ownBlock] at hi
  · simp [Value.ownBlock] at hi
    subst hi
    exact ⟨hg, Blk.lt (t := e) (cs := cur) hb⟩
theorem own_cap {w : World} {base size n c : Nat} {A : Option Addr} {e : TypeId} {xs : List Value} (h : w.ownsRow base e size (.slice A n c) n xs) : n ≤ c := by
  rcases h.2 with ⟨he, rfl⟩ | ⟨g, cap, cur, he, _, _, hnc, _⟩
  · omega
  · injection he with _ _ he; subst he; exact hnc
theorem own_none (w : World) (B : Nat) (e : TypeId) (size : Nat) : w.ownsRow B e size (.slice none 0 0) 0 [] := ⟨by simp, .inl ⟨rfl, rfl⟩⟩
theorem own_more {w : World} {base base' size n : Nat} {e : TypeId} {v : Value} {xs : List Value} (h : w.ownsRow base e size v n xs) (hb : base' ≤ base) : w.ownsRow base' e size v n xs := by
  obtain ⟨h1, h2⟩ := h
  refine ⟨h1, ?_⟩
  rcases h2 with h2 | ⟨g, cap, cur, rfl, hg, hr⟩
  · exact .inl h2
  · exact .inr ⟨g, cap, cur, rfl, by omega, hr⟩
/-- only block g and what is new has turned -/
theorem grown_refl (w : World) (row : Option Nat) : w.grownBy w row := World.grownBy.refl w row
theorem grown_trans' {a b c : World} {g : Nat} (h : a.grownBy b (some g)) (k : b.grownBy c (some g)) : a.grownBy c (some g) :=
  ⟨k.os.trans h.os, k.tape.trans h.tape, k.output.trans h.output, Nat.le_trans h.size k.size, fun i hi hn => (k.block i (Nat.lt_of_lt_of_le hi h.size) hn).trans (h.block i hi hn)⟩
theorem only_drewN {a w : World} {row : Option Nat} (h : a.grownBy w row) (n : Nat) : a.grownBy (w.drewN n) row := ⟨h.os, h.tape, h.output, h.size, h.block⟩
theorem only_drew {a w : World} {row : Option Nat} (h : a.grownBy w row) : a.grownBy w.drew row := ⟨h.os, h.tape, h.output, h.size, h.block⟩
theorem only_alloc {a w : World} {row : Option Nat} (h : a.grownBy w row) (o : Obj) : a.grownBy (w.alloc o) row :=
  ⟨h.os, h.tape, h.output, Nat.le_trans h.size (by simp), fun i hi hne => (Below.heap_alloc w o i (Nat.lt_of_lt_of_le hi h.size)).trans (h.block i hi hne)⟩
theorem only_setCell {a w : World} {g : Nat} (h : a.grownBy w (some g)) {p : Addr} (hp : p.block = g ∨ a.heap.size ≤ p.block) (u : Value) : a.grownBy (w.setCell p u) (some g) :=
  ⟨h.os, h.tape, h.output, by simpa [World.setCell] using h.size, fun i hi hne => (Below.heap_setCell w p u i (by
    rintro rfl
    rcases hp with hp | hp
    · exact hne (by rw [hp])
    · omega)).trans (h.block i hi hne)⟩
theorem only_of_below {a w : World} (h : Below a.heap.size a w) (row : Option Nat) : a.grownBy w row := ⟨h.os, h.tape, h.output, h.size, fun i hi _ => h.block i hi⟩
/-- a row of the call's own has grown: beside block g nothing old has turned -/
theorem only_grown {a w w' : World} {g : Nat} {row : Option Nat} (h : a.grownBy w (some g)) (k : w.grownBy w' row) (hr : ∀ i, row = some i → a.heap.size ≤ i) : a.grownBy w' (some g) :=
  ⟨k.os.trans h.os, k.tape.trans h.tape, k.output.trans h.output, Nat.le_trans h.size k.size, fun i hi hn => (k.block i (Nat.lt_of_lt_of_le hi h.size) (fun e => by have := hr i e.symm; omega)).trans (h.block i hi hn)⟩
theorem below_grown {w w' : World} {B g : Nat} (h : w.grownBy w' (some g)) (hg : B ≤ g) (hB : B ≤ w.heap.size) : Below B w w' :=
  (Below.refl B w).grown h hB (by intro k hk; injection hk with hk; omega)
theorem below_old {a b : World} {g : Nat} (h : a.grownBy b (some g)) : ∀ p : Addr, p.block < a.heap.size → p.block ≠ g → b.cell? p = a.cell? p :=
  fun p hp hn => World.cell?_of_block (h.block p.block hp (fun e => hn (by injection e)))
theorem Reads.only {w w' : World} {B size n g : Nat} {A : Option Addr} {xs : List Value} (h : Reads w B size A n xs) (hg : w.grownBy w' (some g)) (hB : B ≤ w.heap.size) (hr : B ≤ g) : Reads w' B size A n xs :=
  h.grown hg hB fun i hi => by injection hi with hi; omega
/-- cells of bytes and of kinds -/
def u8c (l : List Int) : List Value := l.map (Value.int .u8)
theorem length_u8c (l : List Int) : (u8c l).length = l.length := by simp [u8c]
theorem u8c_append (a b : List Int) : u8c (a ++ b) = u8c a ++ u8c b := by simp [u8c]
theorem u8c_at {l : List Int} {k : Nat} {x : Int} (h : l[k]? = some x) : (u8c l)[k]? = some (.int .u8 x) := by simp [u8c, h]
theorem u8c_one (l : List Int) : ∀ u ∈ u8c l, u.oneCell' = true := by
  intro u hu
  simp [u8c] at hu
  obtain ⟨x, _, rfl⟩ := hu
  rfl
/-- cells of instructions, three each -/
def insOne (i : Ins) : List Value := [.int .u8 i.op, .int .i64 i.arg, .int .u64 i.imm]
def insc (l : List Ins) : List Value := l.flatMap insOne
theorem length_insc (l : List Ins) : (insc l).length = l.length * 3 := by
  induction l with
  | nil => rfl
  | cons p l ih => unfold insc at *; rw [List.flatMap_cons, List.length_append, ih]; simp [insOne]; omega
theorem insc_append (a b : List Ins) : insc (a ++ b) = insc a ++ insc b := by simp [insc]
theorem insOne_one (x : Ins) : ∀ u ∈ insOne x, u.oneCell' = true := by
  intro u hu
  simp [insOne] at hu
  rcases hu with rfl | rfl | rfl <;> rfl
theorem insc_one (l : List Ins) : ∀ u ∈ insc l, u.oneCell' = true := by
  intro u hu
  simp only [insc, List.mem_flatMap] at hu
  obtain ⟨p, _, hu⟩ := hu
  exact insOne_one p u hu
/-- cells of rows of m: where the k-th row's j-th cell lies -/
theorem flat_at {α : Type} (f : α → List Value) (m : Nat) (hf : ∀ x, (f x).length = m) (l : List α) (k j : Nat) (x : α) (hk : l[k]? = some x) (hj : j < m) : (l.flatMap f)[k * m + j]? = (f x)[j]? := by
  induction l generalizing k with
  | nil => simp at hk
  | cons y l ih =>
    rw [List.flatMap_cons]
    cases k with
    | zero =>
      simp at hk
      subst hk
      rw [Nat.zero_mul, Nat.zero_add, List.getElem?_append_left (by rw [hf]; exact hj)]
    | succ k =>
      rw [List.getElem?_append_right (by rw [hf, Nat.succ_mul]; omega), hf, show (k + 1) * m + j - m = k * m + j by rw [Nat.succ_mul]; omega]
      exact ih k (by simpa using hk)
theorem insc_at {l : List Ins} {k : Nat} {x : Ins} (h : l[k]? = some x) : (insc l)[k * 3]? = some (.int .u8 x.op) ∧ (insc l)[k * 3 + 1]? = some (.int .i64 x.arg) ∧ (insc l)[k * 3 + 2]? = some (.int .u64 x.imm) := by
  refine ⟨?_, ?_, ?_⟩
  · exact flat_at insOne 3 (fun _ => rfl) l k 0 x h (by omega)
  · exact flat_at insOne 3 (fun _ => rfl) l k 1 x h (by omega)
  · exact flat_at insOne 3 (fun _ => rfl) l k 2 x h (by omega)
theorem Reads.byte {w : World} {B n : Nat} {A : Option Addr} {l : List Int} (h : Reads w B 1 A n (u8c l)) {k : Nat} (hk : k < n) :
    ∃ b off x, A = some ⟨b, off, none⟩ ∧ b < B ∧ Hid (l[k]? = some x) ∧ w.cell? ⟨b, off + k, none⟩ = some (.int .u8 x) := by
  obtain ⟨b, off, rfl, hb, hc⟩ := h.lit (by omega) (by omega)
  have hl : k < l.length := by have := h.1; rw [length_u8c] at this; omega
  exact ⟨b, off, l[k], rfl, hb, List.getElem?_eq_getElem hl, hc _ _ (u8c_at (List.getElem?_eq_getElem hl))⟩
theorem Reads.ins {w : World} {B n : Nat} {A : Option Addr} {l : List Ins} (h : Reads w B 3 A n (insc l)) {k : Nat} (hk : k < n) :
    ∃ b off x, A = some ⟨b, off, none⟩ ∧ b < B ∧ Hid (l[k]? = some x) ∧ w.cell? ⟨b, off + k * 3, none⟩ = some (.int .u8 x.op) ∧ w.cell? ⟨b, off + k * 3 + 1, none⟩ = some (.int .i64 x.arg) ∧ w.cell? ⟨b, off + k * 3 + 2, none⟩ = some (.int .u64 x.imm) := by
  obtain ⟨b, off, rfl, hb, hc⟩ := h.lit (by omega) (by omega)
  have hl : k < l.length := by have := h.1; rw [length_insc] at this; omega
  obtain ⟨h1, h2, h3⟩ := insc_at (List.getElem?_eq_getElem hl)
  exact ⟨b, off, l[k], rfl, hb, List.getElem?_eq_getElem hl, hc _ _ h1, by rw [Nat.add_assoc]; exact hc _ _ h2, by rw [Nat.add_assoc]; exact hc _ _ h3⟩

/-- A function in memory: its data, and where its two slices lie. -/
structure Raw where
  fn : Fn
  lo : Option Addr
  lc : Nat
  co : Option Addr
  cc : Nat
def rawOne (r : Raw) : List Value := [.int .i64 r.fn.params, .slice r.lo r.fn.locals.length r.lc, .bool r.fn.result, .int .i64 r.fn.keep, .slice r.co r.fn.code.length r.cc]
def rawc (l : List Raw) : List Value := l.flatMap rawOne
theorem rawc_append (a b : List Raw) : rawc (a ++ b) = rawc a ++ rawc b := by simp [rawc]
theorem length_rawc (l : List Raw) : (rawc l).length = l.length * 5 := by
  induction l with
  | nil => rfl
  | cons p l ih => unfold rawc at *; rw [List.flatMap_cons, List.length_append, ih]; simp [rawOne]; omega
theorem rawOne_one (x : Raw) : ∀ u ∈ rawOne x, u.oneCell' = true := by
  intro u hu
  simp [rawOne] at hu
  rcases hu with rfl | rfl | rfl | rfl | rfl <;> rfl
theorem rawc_one (l : List Raw) : ∀ u ∈ rawc l, u.oneCell' = true := by
  intro u hu
  simp only [rawc, List.mem_flatMap] at hu
  obtain ⟨p, _, hu⟩ := hu
  exact rawOne_one p u hu
theorem rawc_at {l : List Raw} {k : Nat} {x : Raw} (h : l[k]? = some x) : (rawc l)[k * 5]? = some (.int .i64 x.fn.params) ∧ (rawc l)[k * 5 + 1]? = some (.slice x.lo x.fn.locals.length x.lc) ∧ (rawc l)[k * 5 + 2]? = some (.bool x.fn.result) ∧ (rawc l)[k * 5 + 3]? = some (.int .i64 x.fn.keep) ∧ (rawc l)[k * 5 + 4]? = some (.slice x.co x.fn.code.length x.cc) := by
  refine ⟨?_, ?_, ?_, ?_, ?_⟩
  · exact flat_at rawOne 5 (fun _ => rfl) l k 0 x h (by omega)
  · exact flat_at rawOne 5 (fun _ => rfl) l k 1 x h (by omega)
  · exact flat_at rawOne 5 (fun _ => rfl) l k 2 x h (by omega)
  · exact flat_at rawOne 5 (fun _ => rfl) l k 3 x h (by omega)
  · exact flat_at rawOne 5 (fun _ => rfl) l k 4 x h (by omega)

/-- a function's two slices read as its data; they are of no more than may be -/
structure RdF (w : World) (B : Nat) (r : Raw) : Prop where
  locals : Reads w B 1 r.lo r.fn.locals.length (u8c r.fn.locals)
  code : Reads w B 3 r.co r.fn.code.length (insc r.fn.code)
  cap : r.fn.locals.length ≤ r.lc
/-- what a function's numbers may be, and how long its slices -/
structure WfI (i : Ins) : Prop where
  o0 : 0 ≤ i.op
  o1 : i.op ≤ 255
  a0 : -9223372036854775808 ≤ i.arg
  a1 : i.arg ≤ 9223372036854775807
  m0 : 0 ≤ i.imm
  m1 : i.imm ≤ 18446744073709551615
structure WfF (f : Fn) : Prop where
  p0 : -9223372036854775808 ≤ f.params
  p1 : f.params ≤ 9223372036854775807
  k0 : -9223372036854775808 ≤ f.keep
  k1 : f.keep ≤ 9223372036854775807
  locals : Byt f.locals
  code : ∀ i ∈ f.code, WfI i
  ll : f.locals.length ≤ 140737488351232
  cl : f.code.length * 24 ≤ 140737488351232
/-- A program in memory: n functions at A. -/
structure RdP (w : World) (B : Nat) (A : Option Addr) (n : Nat) (rs : List Raw) : Prop where
  row : Reads w B 5 A n (rawc rs)
  len : rs.length = n
  each : ∀ r ∈ rs, RdF w B r
  wf : ∀ r ∈ rs, WfF r.fn
  sz : n * 72 ≤ 140737488351232
def fns (rs : List Raw) : List Fn := rs.map Raw.fn
theorem fns_append (a b : List Raw) : fns (a ++ b) = fns a ++ fns b := by simp [fns]
theorem length_fns (rs : List Raw) : (fns rs).length = rs.length := by simp [fns]
section
variable {w w' : World} {B B' n : Nat} {A : Option Addr} {rs : List Raw} {r : Raw}
theorem RdF.keep (h : RdF w B r) (hk : ∀ p : Addr, p.block < B → w'.cell? p = w.cell? p) : RdF w' B r := ⟨h.locals.keep hk, h.code.keep hk, h.cap⟩
theorem RdF.more (h : RdF w B r) (hB : B ≤ B') : RdF w B' r := ⟨h.locals.more hB, h.code.more hB, h.cap⟩
theorem RdP.keep (h : RdP w B A n rs) (hk : ∀ p : Addr, p.block < B → w'.cell? p = w.cell? p) : RdP w' B A n rs := ⟨h.row.keep hk, h.len, fun r hr => (h.each r hr).keep hk, h.wf, h.sz⟩
theorem RdP.more (h : RdP w B A n rs) (hB : B ≤ B') : RdP w B' A n rs := ⟨h.row.more hB, h.len, fun r hr => (h.each r hr).more hB, h.wf, h.sz⟩
theorem RdP.below (h : RdP w B A n rs) (hb : Below B w w') : RdP w' B A n rs := h.keep fun _ hp => hb.cell hp
theorem RdP.drewN (h : RdP w B A n rs) (k : Nat) : RdP (w.drewN k) B A n rs := h.keep fun _ _ => rfl
theorem RdP.alloc (h : RdP w B A n rs) (hB : B ≤ w.heap.size) (o : Obj) : RdP (w.alloc o) B A n rs := h.keep fun p hp => World.cell?_alloc_lt w o p (by omega)
theorem RdP.setCell (h : RdP w B A n rs) {p : Addr} (hB : B ≤ p.block) (u : Value) : RdP (w.setCell p u) B A n rs :=
  h.keep fun q hq => World.cell?_setCell_other w p q u (fun e => by subst e; omega)
theorem RdF.below (h : RdF w B r) (hb : Below B w w') : RdF w' B r := h.keep fun _ hp => hb.cell hp
/-- the k-th function: where its five cells lie -/
theorem RdP.fn (h : RdP w B A n rs) {k : Nat} (hk : k < n) :
    ∃ b off r, A = some ⟨b, off, none⟩ ∧ b < B ∧ Hid (rs[k]? = some r) ∧ Hid (RdF w B r) ∧ Hid (WfF r.fn) ∧ w.cell? ⟨b, off + k * 5, none⟩ = some (.int .i64 r.fn.params) ∧ w.cell? ⟨b, off + k * 5 + 1, none⟩ = some (.slice r.lo r.fn.locals.length r.lc) ∧
      w.cell? ⟨b, off + k * 5 + 2, none⟩ = some (.bool r.fn.result) ∧ w.cell? ⟨b, off + k * 5 + 3, none⟩ = some (.int .i64 r.fn.keep) ∧ w.cell? ⟨b, off + k * 5 + 4, none⟩ = some (.slice r.co r.fn.code.length r.cc) := by
  obtain ⟨b, off, rfl, hb, hc⟩ := h.row.lit (by omega) (by omega)
  have hl : k < rs.length := by have := h.len; omega
  have hm := List.getElem_mem hl
  obtain ⟨h1, h2, h3, h4, h5⟩ := rawc_at (List.getElem?_eq_getElem hl)
  exact ⟨b, off, rs[k], rfl, hb, List.getElem?_eq_getElem hl, h.each _ hm, h.wf _ hm, hc _ _ h1, by rw [Nat.add_assoc]; exact hc _ _ h2, by rw [Nat.add_assoc]; exact hc _ _ h3, by rw [Nat.add_assoc]; exact hc _ _ h4, by rw [Nat.add_assoc]; exact hc _ _ h5⟩
end
end Go.Proofs.Ytdoabcmfblmklaa

/-
  Append at the four types of the code's slices.
-/
namespace Go.Proofs.Ytdoabcmfblmklaa
set_option linter.unusedVariables false
open Go.ChangeShapes Go.WideShapes Go.ChangeAt Go.RowKit

theorem Try.info47 : (Try.prog.info? 47).map (fun i => (i.zero, i.size, i.bytes)) = some (some (.int .u8 0), 1, 1) := by kernel_rfl
theorem Try.info43 : (Try.prog.info? 43).map (fun i => (i.zero, i.size, i.bytes)) = some (some (.agg #[.int .u8 0, .int .i64 0, .int .u64 0]), 3, 24) := by kernel_rfl
theorem Try.info46 : (Try.prog.info? 46).map (fun i => (i.zero, i.size, i.bytes)) = some (some (.agg #[.int .i64 0, .slice none 0 0, .bool false, .int .i64 0, .slice none 0 0]), 5, 72) := by kernel_rfl
theorem Try.info5 : (Try.prog.info? 5).map (fun i => (i.zero, i.size, i.bytes)) = some (some (.int .u8 0), 1, 1) := by kernel_rfl

theorem one_reads (w : World) (t : TypeId) (cs : List Value) (size : Nat) (hs : cs.length = size) : Reads (w.alloc (.cells cs.toArray t)) (w.heap.size + 1) size (some ⟨w.heap.size, 0, none⟩) 1 cs :=
  ⟨by omega, fun _ => ⟨_, rfl, by simp, fun j u hj => by
    have ea : (⟨w.heap.size, 0, none⟩ : Addr).add j = ⟨w.heap.size, j, none⟩ := by simp [Addr.add]; exact Eq.symm
    rw [ea, (Blk.new w t _).cell]
    simpa using hj⟩⟩

/-! append at the four types -/
theorem app_kind {w : World} {ops : Array Oper} {rest : List Oper} {o : Oper} {a : Act} {Q : Exit → Act → World → Prop} (hgd : o.guard = none) (s x : Operand)
    (ho : o.op = .call { callee := .builtin .append, args := #[s, x], argTypes := #[44, 44] }) (base : Nat)
    (v : Value) (n : Nat) (xs : List Value) (hs : a.eval s = v) (hown : w.ownsRow base 47 1 v n xs)
    (B : Nat) (A : Option Addr) (m c : Nat) (news : List Value) (hx : a.eval x = .slice A m c) (hr : Reads w B 1 A m news) (h1 : ∀ u ∈ news, u.oneCell' = true)
    (hbytes : (n + m) * 1 ≤ 140737488355328) (hbase : base ≤ w.heap.size)
    (h : ∀ v' w', w'.ownsRow base 47 1 v' (n + m) (xs ++ news) → w.grownBy w' v.ownBlock → (v'.ownBlock = v.ownBlock ∨ v'.ownBlock = some w.heap.size) → wpList Try.prog ops Q rest (a.put o.dst v') w') : wpList Try.prog ops Q (o :: rest) a w := by
  obtain ⟨i0, hi, hz0, hz1, hz2⟩ := info_parts Try.info47
  exact wpList_append_any w hgd s x _ ho base 47 i0 (.int .u8 0) 1 1 Try.underlying44 hi hz0 hz1 hz2 rfl (by decide) v n xs hs hown B A m c news hx hr h1 (by unfold maxLen; omega) hbytes hbase h
theorem step_kind {w : World} {ops : Array Oper} {o : Oper} {a : Act} {K : Act → World → Prop} {Q : Exit → Act → World → Prop} {E : Prop} (hgd : o.guard = none) (s x : Operand)
    (ho : o.op = .call { callee := .builtin .append, args := #[s, x], argTypes := #[44, 44] }) (base : Nat)
    (v : Value) (n : Nat) (xs : List Value) (hs : a.eval s = v) (hown : w.ownsRow base 47 1 v n xs)
    (B : Nat) (A : Option Addr) (m c : Nat) (news : List Value) (hx : a.eval x = .slice A m c) (hr : Reads w B 1 A m news) (h1 : ∀ u ∈ news, u.oneCell' = true)
    (hbytes : (n + m) * 1 ≤ 140737488355328) (hbase : base ≤ w.heap.size)
    (h : ∀ v' w', w'.ownsRow base 47 1 v' (n + m) (xs ++ news) → w.grownBy w' v.ownBlock → (v'.ownBlock = v.ownBlock ∨ v'.ownBlock = some w.heap.size) → K (a.put o.dst v') w') :
    if Region.wanted o (yielded ops a.tmps) = true then Oper.wp Try.prog o a w K Q else E := by
  obtain ⟨i0, hi, hz0, hz1, hz2⟩ := info_parts Try.info47
  exact step_append_any w hgd s x _ ho base 47 i0 (.int .u8 0) 1 1 Try.underlying44 hi hz0 hz1 hz2 rfl (by decide) v n xs hs hown B A m c news hx hr h1 (by unfold maxLen; omega) hbytes hbase h
theorem app_byte {w : World} {ops : Array Oper} {rest : List Oper} {o : Oper} {a : Act} {Q : Exit → Act → World → Prop} (hgd : o.guard = none) (s x : Operand)
    (ho : o.op = .call { callee := .builtin .append, args := #[s, x], argTypes := #[52, 52] }) (base : Nat)
    (v : Value) (n : Nat) (xs : List Value) (hs : a.eval s = v) (hown : w.ownsRow base 5 1 v n xs)
    (B : Nat) (A : Option Addr) (m c : Nat) (news : List Value) (hx : a.eval x = .slice A m c) (hr : Reads w B 1 A m news) (h1 : ∀ u ∈ news, u.oneCell' = true)
    (hbytes : (n + m) * 1 ≤ 140737488355328) (hbase : base ≤ w.heap.size)
    (h : ∀ v' w', w'.ownsRow base 5 1 v' (n + m) (xs ++ news) → w.grownBy w' v.ownBlock → (v'.ownBlock = v.ownBlock ∨ v'.ownBlock = some w.heap.size) → wpList Try.prog ops Q rest (a.put o.dst v') w') : wpList Try.prog ops Q (o :: rest) a w := by
  obtain ⟨i0, hi, hz0, hz1, hz2⟩ := info_parts Try.info5
  exact wpList_append_any w hgd s x _ ho base 5 i0 (.int .u8 0) 1 1 Try.underlying52 hi hz0 hz1 hz2 rfl (by decide) v n xs hs hown B A m c news hx hr h1 (by unfold maxLen; omega) hbytes hbase h
theorem step_byte {w : World} {ops : Array Oper} {o : Oper} {a : Act} {K : Act → World → Prop} {Q : Exit → Act → World → Prop} {E : Prop} (hgd : o.guard = none) (s x : Operand)
    (ho : o.op = .call { callee := .builtin .append, args := #[s, x], argTypes := #[52, 52] }) (base : Nat)
    (v : Value) (n : Nat) (xs : List Value) (hs : a.eval s = v) (hown : w.ownsRow base 5 1 v n xs)
    (B : Nat) (A : Option Addr) (m c : Nat) (news : List Value) (hx : a.eval x = .slice A m c) (hr : Reads w B 1 A m news) (h1 : ∀ u ∈ news, u.oneCell' = true)
    (hbytes : (n + m) * 1 ≤ 140737488355328) (hbase : base ≤ w.heap.size)
    (h : ∀ v' w', w'.ownsRow base 5 1 v' (n + m) (xs ++ news) → w.grownBy w' v.ownBlock → (v'.ownBlock = v.ownBlock ∨ v'.ownBlock = some w.heap.size) → K (a.put o.dst v') w') :
    if Region.wanted o (yielded ops a.tmps) = true then Oper.wp Try.prog o a w K Q else E := by
  obtain ⟨i0, hi, hz0, hz1, hz2⟩ := info_parts Try.info5
  exact step_append_any w hgd s x _ ho base 5 i0 (.int .u8 0) 1 1 Try.underlying52 hi hz0 hz1 hz2 rfl (by decide) v n xs hs hown B A m c news hx hr h1 (by unfold maxLen; omega) hbytes hbase h
theorem app_ins {w : World} {ops : Array Oper} {rest : List Oper} {o : Oper} {a : Act} {Q : Exit → Act → World → Prop} (hgd : o.guard = none) (s x : Operand)
    (ho : o.op = .call { callee := .builtin .append, args := #[s, x], argTypes := #[40, 40] }) (base : Nat)
    (v : Value) (n : Nat) (xs : List Value) (hs : a.eval s = v) (hown : w.ownsRow base 43 3 v n xs)
    (B : Nat) (A : Option Addr) (m c : Nat) (news : List Value) (hx : a.eval x = .slice A m c) (hr : Reads w B 3 A m news) (h1 : ∀ u ∈ news, u.oneCell' = true)
    (hbytes : (n + m) * 24 ≤ 140737488355328) (hbase : base ≤ w.heap.size)
    (h : ∀ v' w', w'.ownsRow base 43 3 v' (n + m) (xs ++ news) → w.grownBy w' v.ownBlock → (v'.ownBlock = v.ownBlock ∨ v'.ownBlock = some w.heap.size) → wpList Try.prog ops Q rest (a.put o.dst v') w') : wpList Try.prog ops Q (o :: rest) a w := by
  obtain ⟨i0, hi, hz0, hz1, hz2⟩ := info_parts Try.info43
  exact wpList_append_any w hgd s x _ ho base 43 i0 (.agg #[.int .u8 0, .int .i64 0, .int .u64 0]) 3 24 Try.underlying40 hi hz0 hz1 hz2 rfl (by decide) v n xs hs hown B A m c news hx hr h1 (by unfold maxLen; omega) hbytes hbase h
theorem step_ins {w : World} {ops : Array Oper} {o : Oper} {a : Act} {K : Act → World → Prop} {Q : Exit → Act → World → Prop} {E : Prop} (hgd : o.guard = none) (s x : Operand)
    (ho : o.op = .call { callee := .builtin .append, args := #[s, x], argTypes := #[40, 40] }) (base : Nat)
    (v : Value) (n : Nat) (xs : List Value) (hs : a.eval s = v) (hown : w.ownsRow base 43 3 v n xs)
    (B : Nat) (A : Option Addr) (m c : Nat) (news : List Value) (hx : a.eval x = .slice A m c) (hr : Reads w B 3 A m news) (h1 : ∀ u ∈ news, u.oneCell' = true)
    (hbytes : (n + m) * 24 ≤ 140737488355328) (hbase : base ≤ w.heap.size)
    (h : ∀ v' w', w'.ownsRow base 43 3 v' (n + m) (xs ++ news) → w.grownBy w' v.ownBlock → (v'.ownBlock = v.ownBlock ∨ v'.ownBlock = some w.heap.size) → K (a.put o.dst v') w') :
    if Region.wanted o (yielded ops a.tmps) = true then Oper.wp Try.prog o a w K Q else E := by
  obtain ⟨i0, hi, hz0, hz1, hz2⟩ := info_parts Try.info43
  exact step_append_any w hgd s x _ ho base 43 i0 (.agg #[.int .u8 0, .int .i64 0, .int .u64 0]) 3 24 Try.underlying40 hi hz0 hz1 hz2 rfl (by decide) v n xs hs hown B A m c news hx hr h1 (by unfold maxLen; omega) hbytes hbase h
theorem app_fn {w : World} {ops : Array Oper} {rest : List Oper} {o : Oper} {a : Act} {Q : Exit → Act → World → Prop} (hgd : o.guard = none) (s x : Operand)
    (ho : o.op = .call { callee := .builtin .append, args := #[s, x], argTypes := #[22, 22] }) (base : Nat)
    (v : Value) (n : Nat) (xs : List Value) (hs : a.eval s = v) (hown : w.ownsRow base 46 5 v n xs)
    (B : Nat) (A : Option Addr) (m c : Nat) (news : List Value) (hx : a.eval x = .slice A m c) (hr : Reads w B 5 A m news) (h1 : ∀ u ∈ news, u.oneCell' = true)
    (hbytes : (n + m) * 72 ≤ 140737488355328) (hbase : base ≤ w.heap.size)
    (h : ∀ v' w', w'.ownsRow base 46 5 v' (n + m) (xs ++ news) → w.grownBy w' v.ownBlock → (v'.ownBlock = v.ownBlock ∨ v'.ownBlock = some w.heap.size) → wpList Try.prog ops Q rest (a.put o.dst v') w') : wpList Try.prog ops Q (o :: rest) a w := by
  obtain ⟨i0, hi, hz0, hz1, hz2⟩ := info_parts Try.info46
  exact wpList_append_any w hgd s x _ ho base 46 i0 (.agg #[.int .i64 0, .slice none 0 0, .bool false, .int .i64 0, .slice none 0 0]) 5 72 Try.underlying22 hi hz0 hz1 hz2 rfl (by decide) v n xs hs hown B A m c news hx hr h1 (by unfold maxLen; omega) hbytes hbase h
theorem step_fn {w : World} {ops : Array Oper} {o : Oper} {a : Act} {K : Act → World → Prop} {Q : Exit → Act → World → Prop} {E : Prop} (hgd : o.guard = none) (s x : Operand)
    (ho : o.op = .call { callee := .builtin .append, args := #[s, x], argTypes := #[22, 22] }) (base : Nat)
    (v : Value) (n : Nat) (xs : List Value) (hs : a.eval s = v) (hown : w.ownsRow base 46 5 v n xs)
    (B : Nat) (A : Option Addr) (m c : Nat) (news : List Value) (hx : a.eval x = .slice A m c) (hr : Reads w B 5 A m news) (h1 : ∀ u ∈ news, u.oneCell' = true)
    (hbytes : (n + m) * 72 ≤ 140737488355328) (hbase : base ≤ w.heap.size)
    (h : ∀ v' w', w'.ownsRow base 46 5 v' (n + m) (xs ++ news) → w.grownBy w' v.ownBlock → (v'.ownBlock = v.ownBlock ∨ v'.ownBlock = some w.heap.size) → K (a.put o.dst v') w') :
    if Region.wanted o (yielded ops a.tmps) = true then Oper.wp Try.prog o a w K Q else E := by
  obtain ⟨i0, hi, hz0, hz1, hz2⟩ := info_parts Try.info46
  exact step_append_any w hgd s x _ ho base 46 i0 (.agg #[.int .i64 0, .slice none 0 0, .bool false, .int .i64 0, .slice none 0 0]) 5 72 Try.underlying22 hi hz0 hz1 hz2 rfl (by decide) v n xs hs hown B A m c news hx hr h1 (by unfold maxLen; omega) hbytes hbase h

/-- what an append onto a row of the call's own leaves of any other row of the call's own, of other elements -/
theorem own_grown {w w' : World} {b1 b2 s1 s2 n1 n2 : Nat} {e1 e2 : TypeId} {v1 v2 : Value} {x1 x2 : List Value} (h1 : w.ownsRow b1 e1 s1 v1 n1 x1) (h2 : w.ownsRow b2 e2 s2 v2 n2 x2) (hg : w.grownBy w' v1.ownBlock) (hne : e2 ≠ e1) : w'.ownsRow b2 e2 s2 v2 n2 x2 := by
  refine own_kept h2 fun i hi => hg.block i (own_block_le h2 hi).2 fun e => ?_
  rcases h1.2 with ⟨rfl, _⟩ | ⟨g, cap, cur, rfl, _, hb, _⟩
  · simp [Value.ownBlock] at e
  · have : i = g := by simpa [Value.ownBlock] using e
    subst this
    exact own_blk_ne h2 (t := e1) (cs := cur) hb hne hi
theorem fits_app {n m b : Nat} (h : n + m ≤ 1048576) (hb : b ≤ 72) : (n + m) * b ≤ 140737488355328 :=
  Nat.le_trans (Nat.mul_le_mul h hb) (by omega)
end Go.Proofs.Ytdoabcmfblmklaa

/-
  Rows of the call's own beside other blocks.
-/
namespace Go.Proofs.Ytdoabcmfblmklaa
set_option linter.unusedVariables false
open Go.ChangeShapes Go.WideShapes Go.ChangeAt Go.RowKit

theorem own_far {w : World} {base size n p : Nat} {e t : TypeId} {v : Value} {xs : List Value} {cs : Array Value} (h : w.ownsRow base e size v n xs) (hb : Blk w p t cs) (hne : e ≠ t) (i : Nat) (u : Value) : (w.setCell ⟨p, i, none⟩ u).ownsRow base e size v n xs :=
  own_kept h fun j hj => Below.heap_setCell _ _ _ _ fun hij => own_blk_ne h hb hne (by rw [hj, hij])
theorem own_alloc {w : World} {base size n : Nat} {e : TypeId} {v : Value} {xs : List Value} (h : w.ownsRow base e size v n xs) (o : Obj) : (w.alloc o).ownsRow base e size v n xs := h.alloc o
theorem blk_grown {w w' : World} {base size n p : Nat} {e t : TypeId} {v : Value} {xs : List Value} {cs : Array Value} (hb : Blk w p t cs) (h : w.ownsRow base e size v n xs) (hg : w.grownBy w' v.ownBlock) (hne : e ≠ t) : Blk w' p t cs :=
  hb.grown hg fun e' => own_blk_ne h hb hne e'.symm

end Go.Proofs.Ytdoabcmfblmklaa

/-
  Memory by roles: every block of the call's own has a role (a number); what touches the blocks of some roles leaves those of all others.
-/
namespace Go.Proofs.Ytdoabcmfblmklaa
set_option linter.unusedVariables false
set_option linter.unusedSimpArgs false
open Go.ChangeShapes Go.WideShapes Go.ChangeAt Go.RowKit

/-- blocks of the roles in ex may have turned, no other old one; old blocks keep their roles -/
structure Kr (ex : Nat → Prop) (ow ow' : Nat → Nat) (W W' : World) : Prop where
  os : W'.os = W.os
  tape : W'.tape = W.tape
  output : W'.output = W.output
  size : W.heap.size ≤ W'.heap.size
  block : ∀ i, i < W.heap.size → ¬ ex (ow i) → W'.heap[i]? = W.heap[i]?
  old : ∀ i, i < W.heap.size → ow' i = ow i
/-- a block of a role -/
structure OB (W : World) (ow : Nat → Nat) (base r g : Nat) (t : TypeId) (cs : Array Value) : Prop where
  blk : Blk W g t cs
  role : ow g = r
  le : base ≤ g
/-- a row of a role -/
structure OR (W : World) (ow : Nat → Nat) (base r : Nat) (e : TypeId) (size : Nat) (v : Value) (n : Nat) (xs : List Value) : Prop where
  own : W.ownsRow base e size v n xs
  role : ∀ g, v.ownBlock = some g → ow g = r
/-- these roles -/
def e1 (r : Nat) : Nat → Prop := fun x => x = r
def e2 (a b : Nat) : Nat → Prop := fun x => x = a ∨ x = b
theorem ne1 {r x : Nat} (h : x ≠ r) : ¬ e1 r x := h
theorem ne2 {a b x : Nat} (h : x ≠ a) (h' : x ≠ b) : ¬ e2 a b x := fun hx => hx.elim h h'
/-- new blocks are of role r -/
def up (ow : Nat → Nat) (n r : Nat) : Nat → Nat := fun g => if g < n then ow g else r
theorem up_old {ow : Nat → Nat} {n r g : Nat} (h : g < n) : up ow n r g = ow g := if_pos h
theorem up_new {ow : Nat → Nat} {n r g : Nat} (h : n ≤ g) : up ow n r g = r := if_neg (by omega)
section
variable {ex ex' : Nat → Prop} {ow ow' ow2 : Nat → Nat} {W W' W1 W2 w8 : World} {base r rb g n m k size c i : Nat} {t e : TypeId} {cs : Array Value} {v v8 : Value} {xs news : List Value} {A : Option Addr}
theorem own_lt' {w : World} (h : w.ownsRow base e size v n xs) (hg : v.ownBlock = some g) : base ≤ g ∧ g < w.heap.size := own_block_le h hg
theorem Kr.refl (ow : Nat → Nat) (W : World) (ex : Nat → Prop) : Kr ex ow ow W W := ⟨rfl, rfl, rfl, Nat.le_refl _, fun _ _ _ => rfl, fun _ _ => rfl⟩
theorem Kr.wider (h : Kr ex ow ow' W W') (he : ∀ x, ex x → ex' x) : Kr ex' ow ow' W W' := ⟨h.os, h.tape, h.output, h.size, fun i hi hn => h.block i hi fun hx => hn (he _ hx), h.old⟩
theorem Kr.trans (h : Kr ex ow ow' W W1) (k : Kr ex ow' ow2 W1 W2) : Kr ex ow ow2 W W2 :=
  ⟨k.os.trans h.os, k.tape.trans h.tape, k.output.trans h.output, Nat.le_trans h.size k.size, fun i hi hn => (k.block i (Nat.lt_of_lt_of_le hi h.size) (by rw [h.old i hi]; exact hn)).trans (h.block i hi hn), fun i hi => (k.old i (Nat.lt_of_lt_of_le hi h.size)).trans (h.old i hi)⟩
theorem Kr.of_below (h : Below W.heap.size W W') (ow : Nat → Nat) (ex : Nat → Prop) : Kr ex ow ow W W' := ⟨h.os, h.tape, h.output, h.size, fun i hi _ => h.block i hi, fun _ _ => rfl⟩
/-- new blocks alone, of a role -/
theorem Kr.of_new (h : Below W.heap.size W W') (ow : Nat → Nat) (r : Nat) (ex : Nat → Prop) : Kr ex ow (up ow W.heap.size r) W W' := ⟨h.os, h.tape, h.output, h.size, fun i hi _ => h.block i hi, fun i hi => up_old hi⟩
theorem Kr.drew (h : Kr ex ow ow' W W') : Kr ex ow ow' W W'.drew := ⟨h.os, h.tape, h.output, h.size, h.block, h.old⟩
theorem OB.kr (h : OB W ow base r g t cs) (k : Kr ex ow ow' W W') (hr : ¬ ex r) : OB W' ow' base r g t cs :=
  ⟨(k.block g h.blk.lt (by rw [h.role]; exact hr)).trans h.blk, (k.old g h.blk.lt).trans h.role, h.le⟩
theorem OR.kr (h : OR W ow base r e size v n xs) (k : Kr ex ow ow' W W') (hr : ¬ ex r) : OR W' ow' base r e size v n xs :=
  ⟨own_kept h.own fun i hi => k.block i (own_lt' h.own hi).2 (by rw [h.role i hi]; exact hr), fun g hg => (k.old g (own_lt' h.own hg).2).trans (h.role g hg)⟩
theorem Kr.set (h : OB W ow base r g t cs) (i : Nat) (u : Value) : Kr (e1 r) ow ow W (W.setCell ⟨g, i, none⟩ u) :=
  ⟨rfl, rfl, rfl, by simp [World.setCell], fun j hj hn => Below.heap_setCell W ⟨g, i, none⟩ u j (by rintro rfl; exact hn h.role), fun _ _ => rfl⟩
theorem OB.set_ (h : OB W ow base r g t cs) (i : Nat) (u : Value) : OB (W.setCell ⟨g, i, none⟩ u) ow base r g t (cs.setIfInBounds i u) := ⟨h.blk.set_ i u, h.role, h.le⟩
theorem Kr.below {w0 : World} (h : Below base w0 W) (k : Kr ex ow ow' W W') (hb : base ≤ W.heap.size) (he : ∀ i, i < base → ¬ ex (ow i)) : Below base w0 W' :=
  ⟨k.os.trans h.os, k.tape.trans h.tape, k.output.trans h.output, Nat.le_trans h.size k.size, fun i hi => (k.block i (by omega) (he i hi)).trans (h.block i hi)⟩
theorem OR.slice (h : OR W ow base r e size v n xs) : ∃ A c, v = .slice A n c := own_slice h.own
theorem OR.len (h : OR W ow base r e size v n xs) : xs.length = n * size := h.own.1
/-- a row is cut -/
theorem own_cut (h : W.ownsRow base e size (.slice A n c) n xs) (hk : k ≤ n) : W.ownsRow base e size (.slice A k c) k (xs.take (k * size)) := by
  have hl := h.1
  refine ⟨by rw [List.length_take, hl]; exact Nat.min_eq_left (Nat.mul_le_mul_right _ hk), ?_⟩
  rcases h.2 with ⟨he, h0⟩ | ⟨g, cap, cur, he, hb, hh, hnc, hcm, hcs, hx⟩
  · injection he with h1 h2 h3
    subst h1 h3
    have : k = 0 := by omega
    subst this
    exact .inl ⟨rfl, rfl⟩
  · injection he with h1 h2 h3
    subst h1 h3
    refine .inr ⟨g, c, cur, rfl, hb, hh, by omega, hcm, hcs, ?_⟩
    rw [← hx, List.take_take, Nat.min_eq_left (Nat.mul_le_mul_right _ hk)]
theorem OR.cut (h : OR W ow base r e size (.slice A n c) n xs) (hk : k ≤ n) : OR W ow base r e size (.slice A k c) k (xs.take (k * size)) := ⟨own_cut h.own hk, fun g hg => h.role g (by
  cases A with
  | none => cases hg
  | some a => exact hg)⟩
/-- .. and the cut row is laid into a struct -/
theorem cut_set (hB : OB W ow base rb g t cs) (hO : OR W ow base r e size (.slice A n c) n xs) (hr : r ≠ rb) (hk : k ≤ n) (i : Nat) :
    OB (W.setCell ⟨g, i, none⟩ (.slice A k c)) ow base rb g t (cs.setIfInBounds i (.slice A k c)) ∧ OR (W.setCell ⟨g, i, none⟩ (.slice A k c)) ow base r e size (.slice A k c) k (xs.take (k * size)) ∧ Kr (e1 rb) ow ow W (W.setCell ⟨g, i, none⟩ (.slice A k c)) :=
  ⟨hB.set_ i _, (hO.cut hk).kr (Kr.set hB i _) hr, Kr.set hB i _⟩
/-- a row grows: what is kept -/
theorem Kr.grown (hO : OR W ow base r e size v n xs) (hb : Below W.heap.size W W1) (hg : W1.grownBy w8 v.ownBlock) : Kr (e1 r) ow (up ow W.heap.size r) W w8 :=
  ⟨hg.os.trans hb.os, hg.tape.trans hb.tape, hg.output.trans hb.output, Nat.le_trans hb.size hg.size, fun i hi hn => (hg.block i (Nat.lt_of_lt_of_le hi hb.size) fun he => hn (hO.role i he.symm)).trans (hb.block i hi), fun i hi => up_old hi⟩
theorem OR.grown (hO : OR W ow base r e size v n xs) (hb : Below W.heap.size W W1) (hown : w8.ownsRow base e size v8 m news) (hor : v8.ownBlock = v.ownBlock ∨ ∃ q, v8.ownBlock = some q ∧ W.heap.size ≤ q) : OR w8 (up ow W.heap.size r) base r e size v8 m news :=
  ⟨hown, fun q hq => by
    rcases hor with h | ⟨q', h, hl⟩
    · rw [h] at hq
      rw [up_old (own_lt' hO.own hq).2]
      exact hO.role q hq
    · rw [h] at hq
      injection hq with hq
      subst hq
      exact up_new hl⟩
/-- a row grows, and is laid into a struct -/
theorem app_set (hB : OB W ow base rb g t cs) (hO : OR W ow base r e size v n xs) (hr : r ≠ rb) (hb : Below W.heap.size W W1) (hown : w8.ownsRow base e size v8 m news) (hg : W1.grownBy w8 v.ownBlock) (hor : v8.ownBlock = v.ownBlock ∨ v8.ownBlock = some W1.heap.size) (i : Nat) :
    Blk w8 g t cs ∧ OB (w8.setCell ⟨g, i, none⟩ v8) (up ow W.heap.size r) base rb g t (cs.setIfInBounds i v8) ∧ OR (w8.setCell ⟨g, i, none⟩ v8) (up ow W.heap.size r) base r e size v8 m news ∧ Kr (e2 r rb) ow (up ow W.heap.size r) W (w8.setCell ⟨g, i, none⟩ v8) := by
  have hk := Kr.grown hO hb hg
  have hB8 : OB w8 (up ow W.heap.size r) base rb g t cs := hB.kr hk (fun h => hr h.symm)
  have hO8 : OR w8 (up ow W.heap.size r) base r e size v8 m news := hO.grown hb hown (hor.imp (fun h => h) fun h => ⟨_, h, hb.size⟩)
  exact ⟨hB8.blk, hB8.set_ i _, hO8.kr (Kr.set hB8 i _) hr, (hk.wider fun x h => .inl h).trans ((Kr.set hB8 i _).wider fun x h => .inr h)⟩
/-- cells of words -/
def u64c (l : List Int) : List Value := l.map (Value.int .u64)
theorem length_u64c (l : List Int) : (u64c l).length = l.length := by simp [u64c]
theorem u64c_append (a b : List Int) : u64c (a ++ b) = u64c a ++ u64c b := by simp [u64c]
theorem u64c_take (l : List Int) (k : Nat) : (u64c l).take k = u64c (l.take k) := by simp [u64c, List.map_take]
theorem u64c_drop (l : List Int) (k : Nat) : (u64c l).drop k = u64c (l.drop k) := by simp [u64c, List.map_drop]
theorem u64c_at {l : List Int} {k : Nat} {x : Int} (h : l[k]? = some x) : (u64c l)[k]? = some (.int .u64 x) := by simp [u64c, h]
theorem u64c_one (l : List Int) : ∀ u ∈ u64c l, u.oneCell' = true := by
  intro u hu
  simp [u64c] at hu
  obtain ⟨x, _, rfl⟩ := hu
  rfl
/-- an element of a row is read -/
theorem OR.at_ {l : List Int} {x : Int} (h : OR W ow base r e 1 v n (u64c l)) (hx : l[k]? = some x) : ∃ q c, v = .slice (some ⟨q, 0, none⟩) n c ∧ base ≤ q ∧ q < W.heap.size ∧ W.cell? ⟨q, k, none⟩ = some (.int .u64 x) ∧ W.frozen? ⟨q, k, none⟩ = false := by
  have hn : k < n := by
    have h1 := h.own.1
    rw [length_u64c] at h1
    have := (List.getElem?_eq_some_iff.1 hx).1
    omega
  rcases h.own.2 with ⟨_, h0⟩ | ⟨q, cap, cur, he, hb, hh, hnc, hcm, hcs, hxs⟩
  · omega
  · have hbk : Blk W q e cur := hh
    refine ⟨q, cap, he, hb, hbk.lt, ?_, hbk.frozen k⟩
    rw [hbk.cell]
    have h2 : (cur.toList.take (n * 1))[k]? = some (.int .u64 x) := by rw [hxs]; exact u64c_at hx
    rw [List.getElem?_take, if_pos (by omega)] at h2
    rw [← Array.getElem?_toList]
    exact h2
/-- .. and written -/
theorem OR.put {l : List Int} {q : Nat} (h : OR W ow base r e 1 (.slice (some ⟨q, 0, none⟩) n c) n (u64c l)) (hk : k < n) (x : Int) :
    OR (W.setCell ⟨q, k, none⟩ (.int .u64 x)) ow base r e 1 (.slice (some ⟨q, 0, none⟩) n c) n (u64c (l.set k x)) ∧ Kr (e1 r) ow ow W (W.setCell ⟨q, k, none⟩ (.int .u64 x)) := by
  have hq : ow q = r := h.role q rfl
  refine ⟨⟨⟨by rw [length_u64c, List.length_set]; have := h.own.1; rwa [length_u64c] at this, ?_⟩, h.role⟩, ?_⟩
  · rcases h.own.2 with ⟨he, _⟩ | ⟨q', cap, cur, he, hb, hh, hnc, hcm, hcs, hxs⟩
    · cases he
    · injection he with h1 h2 h3
      injection h1 with h1
      injection h1 with h1
      subst h1 h3
      refine .inr ⟨q, c, cur.setIfInBounds k (.int .u64 x), rfl, hb, (show Blk W q e cur from hh).set_ k _, hnc, hcm, by simpa using hcs, ?_⟩
      rw [Array.toList_setIfInBounds, List.take_set, hxs]
      unfold u64c
      rw [List.map_set]
  · exact ⟨rfl, rfl, rfl, by simp [World.setCell], fun j hj hn => Below.heap_setCell W ⟨q, k, none⟩ _ j (by rintro rfl; exact hn hq), fun _ _ => rfl⟩
end
end Go.Proofs.Ytdoabcmfblmklaa

/-
  Plain mathematics of the rules of kinds: what an instruction takes and leaves, what is reached with which stack, when all is well, and two facts by which a walk that goes along the paths knows that it has come to its end. Nothing here speaks of the code.
-/
namespace Go.Proofs.Ytdoabcmfblmklaa
set_option linter.unusedVariables false

/-- kinds on the operand stack, the last one on top -/
abbrev Stk := List Int
def resOf (f : Fn) : Stk := if f.result then [0] else []
def locK (f : Fn) (i : Ins) : Int := f.locals.getD i.arg.toNat 0
def parK (fs : List Fn) (i : Ins) : Stk := match fs[i.arg.toNat]? with
  | some g => g.locals.take g.params.toNat
  | none => []
def resK (fs : List Fn) (i : Ins) : Stk := match fs[i.arg.toNat]? with
  | some g => resOf g
  | none => []
def takesK (fs : List Fn) (f : Fn) (i : Ins) (top : Int) : Stk :=
  if i.op = 3 then [locK f i] else if i.op = 5 then [1] else if i.op = 6 then [1, 0]
  else if i.op = 22 ∨ i.op = 26 ∨ i.op = 29 ∨ i.op = 30 then [0]
  else if i.op = 23 ∨ i.op = 25 then parK fs i
  else if i.op = 24 then resOf f
  else if i.op = 31 ∨ i.op = 32 then [top]
  else if 7 ≤ i.op ∧ i.op ≤ 20 then [0, 0] else []
def leavesK (fs : List Fn) (f : Fn) (i : Ins) (top : Int) : Stk :=
  if i.op = 1 ∨ i.op = 28 ∨ i.op = 5 then [0]
  else if i.op = 2 then [locK f i] else if i.op = 4 then [1]
  else if i.op = 23 then resK fs i else if i.op = 27 then [0, 0] else if i.op = 32 then [top, top]
  else if 7 ≤ i.op ∧ i.op ≤ 20 then [0] else []
def topK (s : Stk) : Int := s.getLast?.getD 0
def afterK (fs : List Fn) (f : Fn) (i : Ins) (s : Stk) : Option Stk :=
  if (takesK fs f i (topK s)).length ≤ s.length ∧ s.drop (s.length - (takesK fs f i (topK s)).length) = takesK fs f i (topK s) ∧ ¬(i.op = 24 ∧ (takesK fs f i (topK s)).length < s.length)
  then some (s.take (s.length - (takesK fs f i (topK s)).length) ++ leavesK fs f i (topK s)) else none
def succK (a : Nat) (i : Ins) : List Nat :=
  if i.op = 21 then [i.arg.toNat] else if i.op = 22 then [a + 1, i.arg.toNat] else if i.op = 24 ∨ i.op = 26 ∨ i.op = 30 then [] else [a + 1]

theorem resOf_len (f : Fn) : (resOf f).length ≤ 1 := by unfold resOf; split <;> simp
theorem leavesK_len (fs : List Fn) (f : Fn) (i : Ins) (t : Int) : (leavesK fs f i t).length ≤ 2 := by
  unfold leavesK
  split
  · simp
  split
  · simp
  split
  · simp
  split
  · unfold resK; split
    · have := resOf_len ‹_›; omega
    · simp
  split
  · simp
  split
  · simp
  split <;> simp
theorem afterK_len {fs : List Fn} {f : Fn} {i : Ins} {s s' : Stk} (h : afterK fs f i s = some s') : s'.length ≤ s.length + 2 := by
  unfold afterK at h
  split at h
  · injection h with h
    rw [← h, List.length_append, List.length_take]
    have := leavesK_len fs f i (topK s)
    omega
  · cases h
theorem succK_len (a : Nat) (i : Ins) : (succK a i).length ≤ 2 := by unfold succK; split; · simp
                                                                     split; · simp
                                                                     split <;> simp

/-- an instruction is reached with a stack -/
inductive Reach (fs : List Fn) (f : Fn) : Nat → Stk → Prop where
  | base : Reach fs f 0 []
  | step {a : Nat} {s : Stk} {i : Ins} {s' : Stk} {b : Nat} : Reach fs f a s → f.code[a]? = some i → afterK fs f i s = some s' → b ∈ succK a i → Reach fs f b s'
/-- no rule about stacks or successors is broken -/
def Fine (fs : List Fn) (f : Fn) : Prop := ∀ a s, Reach fs f a s → (∃ i s', f.code[a]? = some i ∧ afterK fs f i s = some s') ∧ ∀ s2, Reach fs f a s2 → s2 = s
/-- what is known of a function's stacks, and what is still to be gone on from -/
def cnt (l : List (Option Stk)) : Nat := l.countP Option.isNone
structure Inv (fs : List Fn) (f : Fn) (l : List (Option Stk)) (o : List Nat) : Prop where
  len : l.length = f.code.length
  zero : l[0]? = some (some [])
  sound : ∀ (a : Nat) s, l[a]? = some (some s) → Reach fs f a s
  opened : ∀ a ∈ o, ∃ s, l[a]? = some (some s)
  closed : ∀ (a : Nat) s, l[a]? = some (some s) → a ∉ o → ∃ i s', f.code[a]? = some i ∧ afterK fs f i s = some s' ∧ ∀ b ∈ succK a i, l[b]? = some (some s')
  short : ∀ (a : Nat) s, l[a]? = some (some s) → s.length + 2 + 2 * cnt l ≤ 2 * l.length
/-- the whole answer of a function -/
structure Sol (fs : List Fn) (f : Fn) (l : List (Option Stk)) : Prop where
  len : l.length = f.code.length
  fine : Fine fs f
  iff : ∀ (a : Nat) s, l[a]? = some (some s) ↔ Reach fs f a s

section
variable {fs : List Fn} {f : Fn} {l l' : List (Option Stk)} {o o' : List Nat} {a b : Nat} {s s' : Stk} {i : Ins}
theorem cnt_set (hb : l[b]? = some none) (s : Stk) : cnt (l.set b (some s)) + 1 = cnt l := by
  obtain ⟨hlt, he⟩ := List.getElem?_eq_some_iff.1 hb
  have hp : 0 < l.countP Option.isNone := List.countP_pos_iff.2 ⟨none, List.mem_of_getElem? hb, rfl⟩
  unfold cnt
  rw [List.countP_set hlt, he]
  simp
  omega
theorem cnt_le (l : List (Option Stk)) : cnt l ≤ l.length := List.countP_le_length
theorem not_fine_code (h : Reach fs f a s) (hc : f.code[a]? = none) : ¬ Fine fs f := fun hf => by
  obtain ⟨⟨i, _, hi, _⟩, _⟩ := hf a s h
  rw [hc] at hi
  cases hi
theorem not_fine_after (h : Reach fs f a s) (hc : f.code[a]? = some i) (hn : afterK fs f i s = none) : ¬ Fine fs f := fun hf => by
  obtain ⟨⟨j, _, hj, hs⟩, _⟩ := hf a s h
  rw [hc] at hj
  injection hj with hj
  subst hj
  rw [hn] at hs
  cases hs
theorem not_fine_two {s2 : Stk} (h : Reach fs f a s) (h2 : Reach fs f a s2) (hn : s ≠ s2) : ¬ Fine fs f := fun hf => hn ((hf a s2 h2).2 s h)
theorem Inv.start (hc : 0 < f.code.length) : Inv fs f ((List.replicate f.code.length none).set 0 (some [])) [0] := by
  have h0 : (List.replicate f.code.length (none : Option Stk))[0]? = some none := by rw [List.getElem?_replicate]; simp [hc]
  have hat : ∀ (a : Nat) s, ((List.replicate f.code.length none).set 0 (some ([] : Stk)))[a]? = some (some s) → a = 0 ∧ s = [] := by
    intro a s h
    rw [List.getElem?_set] at h
    split at h
    · subst_vars
      split at h
      · simp at h; exact ⟨rfl, h⟩
      · cases h
    · rw [List.getElem?_replicate] at h
      split at h <;> simp at h
  refine ⟨by simp, by rw [List.getElem?_set]; simp [hc], fun a s h => ?_, fun a ha => ?_, fun a s h hn => ?_, fun a s h => ?_⟩
  · obtain ⟨rfl, rfl⟩ := hat a s h
    exact .base
  · obtain rfl : a = 0 := by simpa using ha
    exact ⟨[], by rw [List.getElem?_set]; simp [hc]⟩
  · obtain ⟨rfl, rfl⟩ := hat a s h
    simp at hn
  · obtain ⟨rfl, rfl⟩ := hat a s h
    have h1 := cnt_set h0 ([] : Stk)
    have h2 := cnt_le (List.replicate f.code.length (none : Option Stk))
    simp at h2 ⊢
    omega
/-- a new one is reached -/
theorem Inv.reach (h : Inv fs f l o) (hb : l[b]? = some none) (hr : Reach fs f b s) (hs : s.length + 2 * cnt l ≤ 2 * l.length) : Inv fs f (l.set b (some s)) (o ++ [b]) := by
  obtain ⟨hlt, he⟩ := List.getElem?_eq_some_iff.1 hb
  have hcs := cnt_set hb s
  have hsame : ∀ a, a ≠ b → (l.set b (some s))[a]? = l[a]? := fun a ha => List.getElem?_set_ne (Ne.symm ha)
  have hself : (l.set b (some s))[b]? = some (some s) := by rw [List.getElem?_set]; simp [hlt]
  have hkeep : ∀ (a : Nat) t, l[a]? = some (some t) → (l.set b (some s))[a]? = some (some t) := fun a t ht => by
    rw [hsame a (by rintro rfl; rw [hb] at ht; cases ht)]; exact ht
  refine ⟨by rw [List.length_set]; exact h.len, hkeep _ _ h.zero, fun a t ht => ?_, fun a ha => ?_, fun a t ht hn => ?_, fun a t ht => ?_⟩
  · by_cases hab : a = b
    · subst hab; rw [hself] at ht; injection ht with ht; injection ht with ht; subst ht; exact hr
    · rw [hsame a hab] at ht; exact h.sound a t ht
  · rcases List.mem_append.1 ha with ha | ha
    · obtain ⟨t, ht⟩ := h.opened a ha; exact ⟨t, hkeep _ _ ht⟩
    · obtain rfl : a = b := by simpa using ha
      exact ⟨s, hself⟩
  · simp only [List.mem_append, List.mem_singleton, not_or] at hn
    rw [hsame a hn.2] at ht
    obtain ⟨i, t', h1, h2, h3⟩ := h.closed a t ht hn.1
    exact ⟨i, t', h1, h2, fun c hc => hkeep _ _ (h3 c hc)⟩
  · rw [List.length_set]
    by_cases hab : a = b
    · subst hab; rw [hself] at ht; injection ht with ht; injection ht with ht; subst ht; omega
    · rw [hsame a hab] at ht; have := h.short a t ht; omega
theorem Inv.more (h : Inv fs f l o) (hs : ∀ x ∈ o, x ∈ o') (ho : ∀ x ∈ o', ∃ s, l[x]? = some (some s)) : Inv fs f l o' :=
  ⟨h.len, h.zero, h.sound, ho, fun a s ha hn => h.closed a s ha fun hx => hn (hs a hx), h.short⟩
/-- one is gone on from -/
theorem Inv.close (h : Inv fs f l (a :: o)) (ha : l[a]? = some (some s)) (hc : f.code[a]? = some i) (hs : afterK fs f i s = some s') (hb : ∀ b ∈ succK a i, l[b]? = some (some s')) : Inv fs f l o :=
  ⟨h.len, h.zero, h.sound, fun x hx => h.opened x (by simp [hx]), fun x t ht hn => by
    by_cases hxa : x = a
    · subst hxa; rw [ha] at ht; injection ht with ht; injection ht with ht; subst ht; exact ⟨i, s', hc, hs, hb⟩
    · exact h.closed x t ht (by simp [hxa, hn]), h.short⟩
/-- nothing is left to be gone on from: that is the whole answer -/
theorem Inv.sol (h : Inv fs f l []) : Sol fs f l := by
  have hall : ∀ a s, Reach fs f a s → l[a]? = some (some s) := by
    intro a s hr
    induction hr with
    | base => exact h.zero
    | step _ hc hs hb ih =>
      obtain ⟨i, s', h1, h2, h3⟩ := h.closed _ _ ih (by simp)
      rw [hc] at h1
      injection h1 with h1
      subst h1
      rw [hs] at h2
      injection h2 with h2
      subst h2
      exact h3 _ hb
  refine ⟨h.len, fun a s hr => ⟨?_, fun s2 hr2 => ?_⟩, fun a s => ⟨h.sound a s, hall a s⟩⟩
  · obtain ⟨i, s', h1, h2, _⟩ := h.closed a s (hall a s hr) (by simp)
    exact ⟨i, s', h1, h2⟩
  · have h1 := hall a s hr
    rw [hall a s2 hr2] at h1
    injection h1 with h1
    injection h1 with h1
theorem Inv.step (h : Inv fs f l o) (ha : l[a]? = some (some s)) (hc : f.code[a]? = some i) (hs : afterK fs f i s = some s') (hb : b ∈ succK a i) : Reach fs f b s' := .step (h.sound a s ha) hc hs hb
theorem Sol.eq_ (h : Sol fs f l) (h' : Sol fs f l') : l = l' := by
  refine List.ext_getElem? fun a => ?_
  have key : ∀ {m m' : List (Option Stk)}, Sol fs f m → Sol fs f m' → ∀ x, m[a]? = some x → m'[a]? = some x := by
    intro m m' k k' x hx
    cases x with
    | some s => exact (k'.iff a s).2 ((k.iff a s).1 hx)
    | none =>
      obtain ⟨hlt, _⟩ := List.getElem?_eq_some_iff.1 hx
      have hlt' : a < m'.length := by rw [k'.len, ← k.len]; exact hlt
      cases hm : m'[a] with
      | none => rw [List.getElem?_eq_getElem hlt', hm]
      | some s =>
        have h1 := (k.iff a s).2 ((k'.iff a s).1 (by rw [List.getElem?_eq_getElem hlt', hm]))
        rw [hx] at h1
        cases h1
  cases hx : l[a]? with
  | some x => exact (key h h' x hx).symm
  | none =>
    cases hy : l'[a]? with
    | none => rfl
    | some y => rw [key h' h y hy] at hx; cases hx
theorem Sol.zero (h : Sol fs f l) : l[0]? = some (some []) := (h.iff 0 []).2 .base
theorem Sol.pos (h : Sol fs f l) : 0 < f.code.length := by
  have := (List.getElem?_eq_some_iff.1 h.zero).1
  rw [h.len] at this
  exact this
theorem Sol.next (h : Sol fs f l) (ha : l[a]? = some (some s)) (hc : f.code[a]? = some i) : ∃ s', afterK fs f i s = some s' ∧ ∀ b ∈ succK a i, l[b]? = some (some s') := by
  have hr := (h.iff a s).1 ha
  obtain ⟨⟨j, s', hj, hs⟩, _⟩ := h.fine a s hr
  rw [hc] at hj
  injection hj with hj
  subst hj
  exact ⟨s', hs, fun b hb => (h.iff b s').2 (.step hr hc hs hb)⟩
end
/-- is a stack too deep? -/
def deepO (x : Option Stk) : Bool := match x with
  | some s => decide (16 < s.length)
  | none => false
def Deep (fs : List Fn) : Prop := ∃ f ∈ fs, ∃ a s, Reach fs f a s ∧ 16 < s.length

/-! the rules that ask nothing of a stack -/
def numL (f : Fn) (x : Int) : Bool := decide (x < f.locals.length) && decide (f.locals.getD x.toNat 0 = 0)
def hasDef (f : Fn) : Bool := f.code.any fun i => decide (i.op = 25)
def keepsB (f : Fn) : Bool := if f.keep = -1 then !f.result || !hasDef f else numL f f.keep
def insRef (fs : List Fn) (f : Fn) (i : Ins) : Bool :=
  if i.op = 2 ∨ i.op = 3 then decide (i.arg < f.locals.length)
  else if i.op = 4 then numL f i.arg
  else if i.op = 21 ∨ i.op = 22 then decide (i.arg < f.code.length)
  else if i.op = 23 ∨ i.op = 25 then decide (i.arg < fs.length) else true
def fnRef (fs : List Fn) (f : Fn) : Bool := keepsB f && f.code.all (insRef fs f)
def mainB (fs : List Fn) : Bool := match fs with
  | m :: _ => decide (m.params ≤ 0) && !m.result
  | [] => true
def refB (fs : List Fn) : Bool := mainB fs && fs.all (fnRef fs)
open Classical in
/-- the error: 0 for none -/
noncomputable def verd (fs : List Fn) : Int :=
  if okP fs = false then 30 else if bnd fs = false then 31 else if refB fs = false then 50 else if ¬ ∀ f ∈ fs, Fine fs f then 50 else if Deep fs then 31 else 0
/-- the answers of all functions -/
def Sols (fs gs : List Fn) (ls : List (List (Option Stk))) : Prop := ls.length = gs.length ∧ ∀ (k : Nat) f, gs[k]? = some f → ∃ l, ls[k]? = some l ∧ Sol fs f l
section
variable {fs : List Fn}
theorem verd_form (h : okP fs = false) : verd fs = 30 := by unfold verd; rw [if_pos h]
theorem verd_big (h : okP fs = true) (hb : bnd fs = false) : verd fs = 31 := by unfold verd; rw [if_neg (by simp [h]), if_pos hb]
theorem verd_ref (h : okP fs = true) (hb : bnd fs = true) (hr : refB fs = false) : verd fs = 50 := by unfold verd; rw [if_neg (by simp [h]), if_neg (by simp [hb]), if_pos hr]
theorem verd_fine (h : okP fs = true) (hb : bnd fs = true) (hr : refB fs = true) {f : Fn} (hf : f ∈ fs) (hn : ¬ Fine fs f) : verd fs = 50 := by
  unfold verd; rw [if_neg (by simp [h]), if_neg (by simp [hb]), if_neg (by simp [hr]), if_pos fun hall => hn (hall f hf)]
theorem Sols.fine {ls : List (List (Option Stk))} (h : Sols fs fs ls) : ∀ f ∈ fs, Fine fs f := fun f hf => by
  obtain ⟨k, hk, he⟩ := List.getElem_of_mem hf
  obtain ⟨l, _, hl⟩ := h.2 k f (by rw [List.getElem?_eq_getElem hk, he])
  exact hl.fine
theorem Sols.deep {ls : List (List (Option Stk))} (h : Sols fs fs ls) : Deep fs ↔ ls.any (fun l => l.any deepO) = true := by
  constructor
  · rintro ⟨f, hf, a, s, hr, hs⟩
    obtain ⟨k, hk, he⟩ := List.getElem_of_mem hf
    obtain ⟨l, hl, hS⟩ := h.2 k f (by rw [List.getElem?_eq_getElem hk, he])
    exact List.any_eq_true.2 ⟨l, List.mem_of_getElem? hl, List.any_eq_true.2 ⟨some s, List.mem_of_getElem? ((hS.iff a s).2 hr), by simp [deepO, hs]⟩⟩
  · intro hd
    obtain ⟨l, hl, hd⟩ := List.any_eq_true.1 hd
    obtain ⟨x, hx, hd⟩ := List.any_eq_true.1 hd
    obtain ⟨k, hk, he⟩ := List.getElem_of_mem hl
    have hk' : k < fs.length := by rw [← h.1]; exact hk
    obtain ⟨l', hl', hS⟩ := h.2 k fs[k] (List.getElem?_eq_getElem hk')
    rw [List.getElem?_eq_getElem hk, he] at hl'
    injection hl' with hl'
    subst hl'
    obtain ⟨a, ha, hxa⟩ := List.getElem_of_mem hx
    cases x with
    | none => cases hd
    | some s => exact ⟨fs[k], List.getElem_mem hk', a, s, (hS.iff a s).1 (by rw [List.getElem?_eq_getElem ha, hxa]), by simpa [deepO] using hd⟩
theorem verd_deep (h : okP fs = true) (hb : bnd fs = true) (hr : refB fs = true) {ls : List (List (Option Stk))} (hs : Sols fs fs ls) (hd : ls.any (fun l => l.any deepO) = true) : verd fs = 31 := by
  unfold verd; rw [if_neg (by simp [h]), if_neg (by simp [hb]), if_neg (by simp [hr]), if_neg (fun hn => hn hs.fine), if_pos (hs.deep.2 hd)]
theorem verd_ok (h : okP fs = true) (hb : bnd fs = true) (hr : refB fs = true) {ls : List (List (Option Stk))} (hs : Sols fs fs ls) (hd : ls.any (fun l => l.any deepO) = false) : verd fs = 0 := by
  unfold verd; rw [if_neg (by simp [h]), if_neg (by simp [hb]), if_neg (by simp [hr]), if_neg (fun hn => hn hs.fine), if_neg (fun hn => by rw [hs.deep.1 hn] at hd; cases hd)]
end
end Go.Proofs.Ytdoabcmfblmklaa

/-
  Words, and what package word makes of them: the error, the value.
-/
namespace Go.Proofs.Ytdoabcmfblmklaa
set_option linter.unusedVariables false
open Go.ChangeShapes Go.WideShapes Go.ChangeAt Go.RowKit

/-- a word: an integer from 0 to 2^64 - 1 -/
def isW (a : Int) : Prop := 0 ≤ a ∧ a < 18446744073709551616
def wadd (a b : Int) : Int := IntKind.u64.wrap (a + b)
def wsub (a b : Int) : Int := IntKind.u64.wrap (a - b)
def wmul (a b : Int) : Int := IntKind.u64.wrap (a * b)
def wand (a b : Int) : Int := bits BinOp.and IntKind.u64 a b
def wor (a b : Int) : Int := bits BinOp.or IntKind.u64 a b
def wxor (a b : Int) : Int := bits BinOp.xor IntKind.u64 a b
def wdiv (a b : Int) : Int := IntKind.u64.wrap (wrap64 ((wrap64 a).tdiv (wrap64 b)))
def wrem (a b : Int) : Int := IntKind.u64.wrap ((wrap64 a).tmod (wrap64 b))
def wshl (a b : Int) : Int := IntKind.u64.wrap (a * 2 ^ min b.toNat 64)
def wshr (a b : Int) : Int := a / 2 ^ min b.toNat 64
def wsar (a b : Int) : Int := IntKind.u64.wrap (wrap64 a / 2 ^ min b.toNat 64)
def wbit (b : Bool) : Int := if b then 1 else 0
def weq (a b : Int) : Int := wbit (a == b)
def wlt (a b : Int) : Int := wbit (decide (wrap64 a < wrap64 b))
def wbe (a b : Int) : Int := wbit (decide (a < b))

theorem wrap_u64_eq (n : Int) : IntKind.u64.wrap n = n % 18446744073709551616 := IntKind.wrap_u64 n
theorem wrap64_eq (n : Int) : wrap64 n = (n + 9223372036854775808) % 18446744073709551616 - 9223372036854775808 := by unfold wrap64; rfl

/-! ### Bits -/
theorem wrap64_ne {b : Int} (hb : isW b) (h : ¬ b = 0) : ¬ wrap64 b = 0 := by
  unfold isW at hb
  rw [wrap64_eq]
  omega
/-- the ending with a word and an error -/
def wend (v : Int) (e : Int) : Ending := .returned (.tuple #[.int .u64 v, .int .i64 e])

theorem do_add (a b : Int) (w : World) : Calls Try.prog 65 #[.int .u8 7, .int .u64 a, .int .u64 b] w fun e w' => e = wend (wadd a b) 0 ∧ w = w' := by
  go_enter Try.func65, Try.ntmps65
  go_wp2
  go_ret2
  exact ⟨rfl, rfl⟩
theorem do_sub (a b : Int) (w : World) : Calls Try.prog 65 #[.int .u8 8, .int .u64 a, .int .u64 b] w fun e w' => e = wend (wsub a b) 0 ∧ w = w' := by
  go_enter Try.func65, Try.ntmps65
  go_wp2
  go_ret2
  exact ⟨rfl, rfl⟩
theorem do_mul (a b : Int) (w : World) : Calls Try.prog 65 #[.int .u8 9, .int .u64 a, .int .u64 b] w fun e w' => e = wend (wmul a b) 0 ∧ w = w' := by
  go_enter Try.func65, Try.ntmps65
  go_wp2
  go_ret2
  exact ⟨rfl, rfl⟩
theorem do_and (a b : Int) (w : World) : Calls Try.prog 65 #[.int .u8 12, .int .u64 a, .int .u64 b] w fun e w' => e = wend (wand a b) 0 ∧ w = w' := by
  go_enter Try.func65, Try.ntmps65
  go_wp2
  go_ret2
  exact ⟨rfl, rfl⟩
theorem do_or (a b : Int) (w : World) : Calls Try.prog 65 #[.int .u8 13, .int .u64 a, .int .u64 b] w fun e w' => e = wend (wor a b) 0 ∧ w = w' := by
  go_enter Try.func65, Try.ntmps65
  go_wp2
  go_ret2
  exact ⟨rfl, rfl⟩
theorem do_xor (a b : Int) (w : World) : Calls Try.prog 65 #[.int .u8 14, .int .u64 a, .int .u64 b] w fun e w' => e = wend (wxor a b) 0 ∧ w = w' := by
  go_enter Try.func65, Try.ntmps65
  go_wp2
  go_ret2
  exact ⟨rfl, rfl⟩
theorem do_div0 (a : Int) (w : World) : Calls Try.prog 65 #[.int .u8 10, .int .u64 a, .int .u64 0] w fun e w' => e = wend 0 10 ∧ w = w' := by
  go_enter Try.func65, Try.ntmps65
  go_wp2
  go_ret2
  exact ⟨rfl, rfl⟩
theorem do_rem0 (a : Int) (w : World) : Calls Try.prog 65 #[.int .u8 11, .int .u64 a, .int .u64 0] w fun e w' => e = wend 0 10 ∧ w = w' := by
  go_enter Try.func65, Try.ntmps65
  go_wp2
  go_ret2
  exact ⟨rfl, rfl⟩
theorem do_div (a b : Int) (w : World) (hb : (b == 0) = false) (hc : ¬ wrap64 b = 0) : Calls Try.prog 65 #[.int .u8 10, .int .u64 a, .int .u64 b] w fun e w' => e = wend (wdiv a b) 0 ∧ w = w' := by
  go_enter Try.func65, Try.ntmps65
  go_wp2
  go_ret2
  exact ⟨rfl, rfl⟩
theorem do_rem (a b : Int) (w : World) (hb : (b == 0) = false) (hc : ¬ wrap64 b = 0) : Calls Try.prog 65 #[.int .u8 11, .int .u64 a, .int .u64 b] w fun e w' => e = wend (wrem a b) 0 ∧ w = w' := by
  go_enter Try.func65, Try.ntmps65
  go_wp2
  go_ret2
  exact ⟨rfl, rfl⟩
theorem do_shl (a b : Int) (w : World) (h0 : 0 ≤ b) : Calls Try.prog 65 #[.int .u8 15, .int .u64 a, .int .u64 b] w fun e w' => e = wend (wshl a b) 0 ∧ w = w' := by
  go_enter Try.func65, Try.ntmps65
  go_wp2
  go_ret2
  exact ⟨rfl, rfl⟩
theorem do_shr (a b : Int) (w : World) (h0 : 0 ≤ b) : Calls Try.prog 65 #[.int .u8 16, .int .u64 a, .int .u64 b] w fun e w' => e = wend (wshr a b) 0 ∧ w = w' := by
  go_enter Try.func65, Try.ntmps65
  go_wp2
  go_ret2
  exact ⟨rfl, rfl⟩
theorem do_sar (a b : Int) (w : World) (h0 : 0 ≤ b) : Calls Try.prog 65 #[.int .u8 17, .int .u64 a, .int .u64 b] w fun e w' => e = wend (wsar a b) 0 ∧ w = w' := by
  go_enter Try.func65, Try.ntmps65
  go_wp2
  go_ret2
  exact ⟨rfl, rfl⟩
theorem do_eq (a b : Int) (w : World) : Calls Try.prog 65 #[.int .u8 18, .int .u64 a, .int .u64 b] w fun e w' => e = wend (weq a b) 0 ∧ w = w' := by
  cases h : (a == b)
  all_goals
    have hv : Hid (weq a b = wbit (a == b)) := rfl
    rw [h] at hv
    go_enter Try.func65, Try.ntmps65
    go_wp2
    go_ret2
    exact ⟨by rw [hv]; rfl, rfl⟩
theorem do_lt (a b : Int) (w : World) : Calls Try.prog 65 #[.int .u8 19, .int .u64 a, .int .u64 b] w fun e w' => e = wend (wlt a b) 0 ∧ w = w' := by
  cases h : decide (wrap64 a < wrap64 b)
  all_goals
    have hv : Hid (wlt a b = wbit (decide (wrap64 a < wrap64 b))) := rfl
    rw [h] at hv
    go_enter Try.func65, Try.ntmps65
    go_wp2
    go_ret2
    exact ⟨by rw [hv]; rfl, rfl⟩
theorem do_be (a b : Int) (w : World) : Calls Try.prog 65 #[.int .u8 20, .int .u64 a, .int .u64 b] w fun e w' => e = wend (wbe a b) 0 ∧ w = w' := by
  cases h : decide (a < b)
  all_goals
    have hv : Hid (wbe a b = wbit (decide (a < b))) := rfl
    rw [h] at hv
    go_enter Try.func65, Try.ntmps65
    go_wp2
    go_ret2
    exact ⟨by rw [hv]; rfl, rfl⟩

/-- the error of an operation, and what it makes -/
def doE (op b : Int) : Int := if (op = 10 ∨ op = 11) ∧ b = 0 then 10 else 0
def doV (op a b : Int) : Int :=
  if op = 7 then wadd a b else if op = 8 then wsub a b else if op = 9 then wmul a b
  else if op = 10 then (if b = 0 then 0 else wdiv a b) else if op = 11 then (if b = 0 then 0 else wrem a b)
  else if op = 12 then wand a b else if op = 13 then wor a b else if op = 14 then wxor a b
  else if op = 15 then wshl a b else if op = 16 then wshr a b else if op = 17 then wsar a b
  else if op = 18 then weq a b else if op = 19 then wlt a b else wbe a b
theorem do_any (op a b : Int) (w : World) (h7 : 7 ≤ op) (h20 : op ≤ 20) (hb : isW b) : Calls Try.prog 65 #[.int .u8 op, .int .u64 a, .int .u64 b] w fun e w' => e = wend (doV op a b) (doE op b) ∧ w = w' := by
  have h0 := hb.1
  obtain rfl | rfl | rfl | rfl | rfl | rfl | rfl | rfl | rfl | rfl | rfl | rfl | rfl | rfl : op = 7 ∨ op = 8 ∨ op = 9 ∨ op = 10 ∨ op = 11 ∨ op = 12 ∨ op = 13 ∨ op = 14 ∨ op = 15 ∨ op = 16 ∨ op = 17 ∨ op = 18 ∨ op = 19 ∨ op = 20 := by omega
  · exact do_add a b w
  · exact do_sub a b w
  · exact do_mul a b w
  · by_cases h : b = 0
    · subst h; exact do_div0 a w
    · rw [show doV 10 a b = wdiv a b by simp [doV, h], show doE 10 b = 0 by simp [doE, h]]
      exact do_div a b w (by simpa using h) (wrap64_ne hb h)
  · by_cases h : b = 0
    · subst h; exact do_rem0 a w
    · rw [show doV 11 a b = wrem a b by simp [doV, h], show doE 11 b = 0 by simp [doE, h]]
      exact do_rem a b w (by simpa using h) (wrap64_ne hb h)
  · exact do_and a b w
  · exact do_or a b w
  · exact do_xor a b w
  · exact do_shl a b w h0
  · exact do_shr a b w h0
  · exact do_sar a b w h0
  · exact do_eq a b w
  · exact do_lt a b w
  · exact do_be a b w
end Go.Proofs.Ytdoabcmfblmklaa
