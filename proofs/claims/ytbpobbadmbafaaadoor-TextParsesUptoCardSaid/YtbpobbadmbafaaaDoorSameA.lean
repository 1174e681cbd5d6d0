/-
  Programs compared: slices.Equal at kinds and instructions, slices.EqualFunc, package code's Same.
-/
import Derived.Test.YtbpobbadmbafaaaDoorApp
namespace Go.Proofs.YtbpobbadmbafaaaDoor
set_option linter.unusedVariables false
open Go.ChangeShapes Go.WideShapes Go.ChangeAt Go.RowKit

theorem eq_len {α : Type} [DecidableEq α] {a b : List α} (h : a.length ≠ b.length) : decide (a = b) = false := by
  simp only [decide_eq_false_iff_not]
  intro e
  exact h (by rw [e])
theorem eq_at {α : Type} [DecidableEq α] {a b : List α} {k : Nat} {x y : α} (hx : a[k]? = some x) (hy : b[k]? = some y) (h : x ≠ y) : decide (a = b) = false := by
  simp only [decide_eq_false_iff_not]
  intro e
  rw [e, hy] at hx
  exact h (by simpa using hx.symm)
theorem take_snoc {α : Type} {l : List α} {k : Nat} {x : α} (h : l[k]? = some x) : l.take (k + 1) = l.take k ++ [x] := by
  rw [List.take_add_one, h]; rfl
/-- '==' and '!=' of two instructions. -/
theorem equalIn_ins (a b : Ins) (w : World) : Sem.run Tryd.prog (Op.equalIn 10000 40 (.agg #[.int .u8 a.op, .int .i64 a.arg, .int .u64 a.imm]) (.agg #[.int .u8 b.op, .int .i64 b.arg, .int .u64 b.imm])) w = .ok (decide (a = b)) w := by
  have hS : Tryd.prog.underlying 40 = some (.struct (Tryd.prog.fieldsOf 40)) := by kernel_rfl
  have hp : Tryd.prog.stoodInHeld 40 = false := by kernel_rfl
  have u1 := Tryd.underlying37
  have u2 := Tryd.underlying3
  have u3 := Tryd.underlying38
  have a1 := Tryd.isAgg37
  have a2 := Tryd.isAgg3
  have a3 := Tryd.isAgg38
  have z1 := Tryd.sizeOf37
  have z2 := Tryd.sizeOf3
  have z3 := Tryd.sizeOf38
  show (Op.equalIn 10000 40 (.agg #[.int .u8 a.op, .int .i64 a.arg, .int .u64 a.imm]) (.agg #[.int .u8 b.op, .int .i64 b.arg, .int .u64 b.imm])).run Tryd.prog w = _
  rw [show (10000 : Nat) = 9999 + 1 from rfl, run_equalIn_agg w 9999 40 _ _ hS hp]
  simp only [Program.fieldsOf, Tryd.underlying40]
  go_simp
  obtain ⟨a1, a2, a3⟩ := a
  obtain ⟨b1, b2, b3⟩ := b
  by_cases h1 : a1 = b1 <;> by_cases h2 : a2 = b2 <;> by_cases h3 : a3 = b3 <;> simp [h1, h2, h3]

end Go.Proofs.YtbpobbadmbafaaaDoor
