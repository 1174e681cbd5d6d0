/-
  Programs compared: slices.Equal at kinds and instructions, slices.EqualFunc, package code's Same.
-/
import Derived.Test.YtcgoanfhabjpfaaApp
namespace Go.Proofs.Ytcgoanfhabjpfaa
set_option linter.unusedVariables false
open Go.ChangeShapes Go.WideShapes Go.ChangeAt Go.RowKit

theorem eq_len {α : Type} [DecidableEq α] {a b : List α} (h : a.length ≠ b.length) : decide (a = b) = false := by
  simp only [decide_eq_false_iff_not]
  intro e
  exact h (by rw [e])
theorem eq_at {α : Type} [DecidableEq α] {a b : List α} {k : Nat} {x y : α} (hx : a[k]? = some x) (hy : b[k]? = some y) (h : x ≠ y) : decide (a = b) = false := by
  simp only [decide_eq_false_iff_not]
  intro e
  rw [e, hy] at hx
  exact h (by simpa using hx.symm)
theorem take_snoc {α : Type} {l : List α} {k : Nat} {x : α} (h : l[k]? = some x) : l.take (k + 1) = l.take k ++ [x] := by
  rw [List.take_add_one, h]; rfl
/-- '==' and '!=' of two instructions. -/
theorem equalIn_ins (a b : Ins) (w : World) : Sem.run Try.prog (Op.equalIn 10000 51 (.agg #[.int .u8 a.op, .int .i64 a.arg, .int .u64 a.imm]) (.agg #[.int .u8 b.op, .int .i64 b.arg, .int .u64 b.imm])) w = .ok (decide (a = b)) w := by
  have hS : Try.prog.underlying 51 = some (.struct (Try.prog.fieldsOf 51)) := by kernel_rfl
  have hp : Try.prog.stoodInHeld 51 = false := by kernel_rfl
  have u1 := Try.underlying48
  have u2 := Try.underlying3
  have u3 := Try.underlying49
  have a1 := Try.isAgg48
  have a2 := Try.isAgg3
  have a3 := Try.isAgg49
  have z1 := Try.sizeOf48
  have z2 := Try.sizeOf3
  have z3 := Try.sizeOf49
  show (Op.equalIn 10000 51 (.agg #[.int .u8 a.op, .int .i64 a.arg, .int .u64 a.imm]) (.agg #[.int .u8 b.op, .int .i64 b.arg, .int .u64 b.imm])).run Try.prog w = _
  rw [show (10000 : Nat) = 9999 + 1 from rfl, run_equalIn_agg w 9999 51 _ _ hS hp]
  simp only [Program.fieldsOf, Try.underlying51]
  go_simp
  obtain ⟨a1, a2, a3⟩ := a
  obtain ⟨b1, b2, b3⟩ := b
  by_cases h1 : a1 = b1 <;> by_cases h2 : a2 = b2 <;> by_cases h3 : a3 = b3 <;> simp [h1, h2, h3]

end Go.Proofs.Ytcgoanfhabjpfaa
