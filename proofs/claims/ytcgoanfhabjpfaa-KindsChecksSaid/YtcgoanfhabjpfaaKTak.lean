/-
  Package kinds: topOf, resultOf, successors, takes.
-/
import Derived.Test.YtcgoanfhabjpfaaKMem
import Derived.Test.YtcgoanfhabjpfaaKMath
import Derived.StillTailTactics
namespace Go.Proofs.Ytcgoanfhabjpfaa
set_option linter.unusedVariables false
open Go.ChangeShapes Go.WideShapes Go.ChangeAt Go.RowKit

/-- what a function's walker holds -/
def WkC (A : Option Addr) (n c : Nat) (r : Raw) (rv sv wv : Value) : Array Value :=
  #[.slice A n c, .int .i64 r.fn.params, .slice r.lo r.fn.locals.length r.lc, .bool r.fn.result, .int .i64 r.fn.keep, .slice r.co r.fn.code.length r.cc, rv, sv, wv]
/-- a walker and its program -/
structure Wk (w : World) (B g : Nat) (A : Option Addr) (n c : Nat) (rs : List Raw) (r : Raw) (rv sv wv : Value) : Prop where
  blk : Blk w g 78 (WkC A n c r rv sv wv)
  prog : RdP w B A n rs
  fn : RdF w B r
  wf : WfF r.fn
  le : B ≤ w.heap.size
  ok : okP (fns rs) = true
  okf : okF r.fn = true
  bg : B ≤ g
section
variable {w w' : World} {B g n c : Nat} {A : Option Addr} {rs : List Raw} {r : Raw} {rv sv wv : Value}
theorem Wk.below (h : Wk w B g A n c rs r rv sv wv) (hb : Below w.heap.size w w') : Wk w' B g A n c rs r rv sv wv :=
  ⟨h.blk.below hb h.blk.lt, h.prog.below (hb.mono h.le), h.fn.below (hb.mono h.le), h.wf, by have := hb.size; have := h.le; omega, h.ok, h.okf, h.bg⟩
theorem Wk.alloc (h : Wk w B g A n c rs r rv sv wv) (o : Obj) : Wk (w.alloc o) B g A n c rs r rv sv wv := h.below ((Below.refl _ _).alloc (Nat.le_refl _) o)
theorem Wk.cells (h : Wk w B g A n c rs r rv sv wv) : w.cell? ⟨g, 0, none⟩ = some (.slice A n c) ∧ w.cell? ⟨g, 1, none⟩ = some (.int .i64 r.fn.params) ∧ w.cell? ⟨g, 2, none⟩ = some (.slice r.lo r.fn.locals.length r.lc) ∧
    w.cell? ⟨g, 3, none⟩ = some (.bool r.fn.result) ∧ w.cell? ⟨g, 4, none⟩ = some (.int .i64 r.fn.keep) ∧ w.cell? ⟨g, 5, none⟩ = some (.slice r.co r.fn.code.length r.cc) ∧ w.cell? ⟨g, 6, none⟩ = some rv ∧ w.cell? ⟨g, 7, none⟩ = some sv ∧ w.cell? ⟨g, 8, none⟩ = some wv :=
  ⟨h.blk.cell 0, h.blk.cell 1, h.blk.cell 2, h.blk.cell 3, h.blk.cell 4, h.blk.cell 5, h.blk.cell 6, h.blk.cell 7, h.blk.cell 8⟩
end
theorem newK_at {w W : World} (l : List Int) (m : Nat) (hm : m = l.length) (hl : m ≤ 100) (hb : Below w.heap.size w W) : NewK w l (.returned (.slice (some ⟨W.heap.size, 0, none⟩) m m)) (W.alloc (.cells (u8c l).toArray 57)) := by
  refine ⟨_, m, _, rfl, hm, ⟨by rw [length_u8c]; omega, .inr ⟨W.heap.size, m, (u8c l).toArray, rfl, hb.size, heap_alloc_new _ _, Nat.le_refl _, by unfold maxLen; omega, by simp [length_u8c]; omega, ?_⟩⟩, hb.alloc hb.size _⟩
  rw [List.take_of_length_le (by simp [length_u8c]; omega)]
theorem rdK_at {w W : World} (l : List Int) (m : Nat) (hm : m = l.length) (hl : m ≤ 100) (hb : Below w.heap.size w W) : RdK w l (.returned (.slice (some ⟨W.heap.size, 0, none⟩) m m)) (W.alloc (.cells (u8c l).toArray 57)) := (newK_at l m hm hl hb).rdK
theorem rdK_nil {w W : World} (hb : Below w.heap.size w W) : RdK w [] (.returned (.slice none 0 0)) W := ⟨none, 0, 0, rfl, rfl, Nat.le_refl _, Reads.none_, hb⟩

set_option maxRecDepth 100000 in
set_option maxHeartbeats 1600000 in
theorem topOf_any (B : Nat) (A : Option Addr) (n c : Nat) (s : Stk) (w : World) (h : Reads w B 1 A n (u8c s)) (hn : n ≤ 100000) :
    Calls Try.prog 60 #[.slice A n c] w fun e w' => e = .returned (.int .u8 (topK s)) ∧ w = w' := by
  have hl : s.length = n := by have := h.1; rw [length_u8c] at this; omega
  rcases Nat.eq_zero_or_pos n with rfl | hp
  · have hs : s = [] := List.eq_nil_of_length_eq_zero hl
    subst hs
    clear h hl
    go_enter Try.func60, Try.ntmps60
    go_wp2
    go_ret
    exact ⟨rfl, rfl⟩
  · obtain ⟨k, rfl⟩ : ∃ k, n = k + 1 := ⟨n - 1, by omega⟩
    obtain ⟨b, off, x, rfl, hb, HX, x0⟩ := h.byte (k := k) (by omega)
    have HT : Hid (topK s = x) := Lib.hid (by
      unfold topK
      rw [List.getLast?_eq_getElem?, hl, Nat.add_sub_cancel, HX.out]; rfl)
    rw [HT.out]
    have g0 : ((k : Int) + 1 == 0) = false := by simp; omega
    have hk1 : ((k : Int) + 1) - 1 = (k : Int) := by omega
    have h0 : (0 : Int) ≤ (k : Int) := by omega
    have h1 : (k : Int) < (k : Int) + 1 := by omega
    clear h hl hp
    go_enter Try.func60, Try.ntmps60
    go_wp2
    go_ret
    exact ⟨rfl, rfl⟩
set_option maxRecDepth 100000 in
theorem resultOf_any (r : Raw) (w : World) :
    Calls Try.prog 64 #[.agg #[.int .i64 r.fn.params, .slice r.lo r.fn.locals.length r.lc, .bool r.fn.result, .int .i64 r.fn.keep, .slice r.co r.fn.code.length r.cc]] w (NewK w (resOf r.fn)) := by
  have HB : ∀ o : Obj, Hid (Below w.heap.size w (w.alloc o)) := fun o => (Below.refl _ _).alloc (Nat.le_refl _) o
  unfold resOf
  cases hr : r.fn.result with
  | false =>
    clear hr
    obtain ⟨⟨p, ls, fl, kp, is⟩, lo, lc, co, cc⟩ := r
    go_enter Try.func64, Try.ntmps64
    go_wp2
    go_ret
    exact ⟨none, 0, 0, rfl, rfl, own_none _ _ _ _, (HB _).out⟩
  | true =>
    clear hr
    obtain ⟨⟨p, ls, fl, kp, is⟩, lo, lc, co, cc⟩ := r
    go_enter Try.func64, Try.ntmps64
    go_wp2
    go_ret
    have h := newK_at [0] 1 rfl (by omega) (HB (.cells #[.int .i64 p, .slice lo ls.length lc, .bool true, .int .i64 kp, .slice co is.length cc] 47)).out
    rw [World.size_alloc] at h
    exact h
/-- a new row of ints -/
def intc (l : List Nat) : List Value := l.map fun x : Nat => Value.int .i64 (x : Int)
def NewI (w : World) (l : List Nat) (e : Ending) (w' : World) : Prop :=
  ∃ A m, e = .returned (.slice A m m) ∧ m = l.length ∧ Reads w' w'.heap.size 1 A m (intc l) ∧ (∀ ad, A = some ad → w.heap.size ≤ ad.block) ∧ Below w.heap.size w w'
theorem newI_at {w W : World} (l : List Nat) (m : Nat) (hm : m = l.length) (hb : Below w.heap.size w W) : NewI w l (.returned (.slice (some ⟨W.heap.size, 0, none⟩) m m)) (W.alloc (.cells (intc l).toArray 3)) :=
  ⟨_, m, rfl, hm, reads_blk (Blk.new W 3 (intc l).toArray) (by simp [intc]; omega), (fun ad h => by injection h with h; subst h; exact hb.size), hb.alloc hb.size _⟩
set_option maxRecDepth 100000 in
set_option maxHeartbeats 1600000 in
theorem succ_any (a : Nat) (i : Ins) (w : World) (ha : a ≤ 100000) (h0 : 0 ≤ i.arg) :
    Calls Try.prog 57 #[.int .i64 a, .agg #[.int .u8 i.op, .int .i64 i.arg, .int .u64 i.imm]] w (NewI w (succK a i)) := by
  have HB : ∀ o : Obj, Hid (Below w.heap.size w (w.alloc o)) := fun o => (Below.refl _ _).alloc (Nat.le_refl _) o
  obtain ⟨op, arg, imm⟩ := i
  simp only at h0 ⊢
  obtain ⟨t, rfl⟩ : ∃ t : Nat, arg = (t : Int) := ⟨arg.toNat, by omega⟩
  unfold succK
  simp only [Int.toNat_natCast]
  by_cases c1 : op = 21
  · rw [if_pos c1]
    subst c1
    go_enter Try.func57, Try.ntmps57
    go_wp2
    go_ret
    have h := newI_at [t] 1 rfl (HB (.cells #[.int .u8 21, .int .i64 t, .int .u64 imm] 51)).out
    rw [World.size_alloc] at h
    exact h
  rw [if_neg c1]
  have g1 : (op == 21) = false := by simpa using c1
  by_cases c2 : op = 22
  · rw [if_pos c2]
    subst c2
    clear c1 g1
    go_enter Try.func57, Try.ntmps57
    go_wp2
    go_ret
    have h := newI_at [a + 1, t] 2 rfl (HB (.cells #[.int .u8 22, .int .i64 t, .int .u64 imm] 51)).out
    rw [World.size_alloc] at h
    exact h
  rw [if_neg c2]
  have g2 : (op == 22) = false := by simpa using c2
  by_cases c3 : op = 24 ∨ op = 26 ∨ op = 30
  · rw [if_pos c3]
    clear c1 c2 g1 g2
    rcases c3 with rfl | rfl | rfl
    all_goals
      go_enter Try.func57, Try.ntmps57
      go_wp2
      go_ret
      exact ⟨none, 0, rfl, rfl, Reads.none_, (fun ad h => by cases h), (HB _).out⟩
  rw [if_neg c3]
  have g3 : (op == 24) = false := by simp; omega
  have g4 : (op == 26) = false := by simp; omega
  have g5 : (op == 30) = false := by simp; omega
  clear c1 c2 c3
  go_enter Try.func57, Try.ntmps57
  go_wp2
  go_ret
  have h := newI_at [a + 1] 1 rfl (HB (.cells #[.int .u8 op, .int .i64 t, .int .u64 imm] 51)).out
  rw [World.size_alloc] at h
  exact h
end Go.Proofs.Ytcgoanfhabjpfaa
