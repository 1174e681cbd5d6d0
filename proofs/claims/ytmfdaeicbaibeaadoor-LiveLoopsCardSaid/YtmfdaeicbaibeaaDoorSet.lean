/-
  Package bits: one bit; is a number one that a set can have?; the words of nil sets.
-/
import Derived.Test.YtmfdaeicbaibeaaDoorMem
namespace Go.Proofs.YtmfdaeicbaibeaaDoor
set_option linter.unusedVariables false
set_option linter.unusedSimpArgs false
open Go.ChangeShapes Go.WideShapes Go.ChangeAt Go.RowKit

theorem wrap_u64_eq (n : Int) : IntKind.u64.wrap n = n % 18446744073709551616 := IntKind.wrap_u64 n
theorem pow_lt64 {c : Nat} (h : c < 64) : (2 : Nat) ^ c < 18446744073709551616 := Nat.pow_lt_pow_right (by decide) h
theorem pow_int (c : Nat) : (2 : Int) ^ c = ((2 ^ c : Nat) : Int) := by rw [Int.natCast_pow]; rfl
theorem wrap_small {x : Nat} (h : x < 18446744073709551616) : IntKind.u64.wrap (x : Int) = (x : Int) := by
  rw [wrap_u64_eq]
  omega
theorem bit_wrap {c : Nat} (h : c < 64) : IntKind.u64.wrap ((2 : Int) ^ c) = ((2 ^ c : Nat) : Int) := by
  rw [pow_int]
  exact wrap_small (pow_lt64 h)
theorem bit_any (i : Int) (c : Nat) (hc : i.tmod 64 = (c : Int)) (h : c < 64) (w : World) : Calls Tryd.prog 74 #[.int .i64 i] w fun e w' => e = .returned (.int .u64 ((2 ^ c : Nat) : Int)) ∧ w' = w := by
  have hb := bit_wrap h
  have hm : min c 64 = c := Nat.min_eq_left (by omega)
  have g0 : decide ((c : Int) < 0) = false := by simp
  go_enter Tryd.func74, Tryd.ntmps74
  go_wp2
  go_ret
  refine ⟨?_, rfl⟩
  simp [hm]
  try exact hb.trans (pow_int c).symm
theorem takes_nil (i : Int) (w : World) : Calls Tryd.prog 72 #[.pointer none, .int .i64 i] w fun e w' => e = .returned (.bool false) ∧ w' = w := by
  go_enter Tryd.func72, Tryd.ntmps72
  go_wp2
  go_ret
  exact ⟨rfl, rfl⟩
theorem takes_yes (p : Nat) (i n : Int) (w : World) (h0 : w.cell? ⟨p, 0, none⟩ = some (.int .i64 n)) (h1 : 0 ≤ i) (h2 : i < n) : Calls Tryd.prog 72 #[.pointer (some ⟨p, 0, none⟩), .int .i64 i] w fun e w' => e = .returned (.bool true) ∧ w' = w := by
  have g0 : decide (i ≥ 0) = true := by simpa using h1
  have g1 : decide (0 ≤ i) = true := by simpa using h1
  have g2 : decide (i < n) = true := by simpa using h2
  clear h1 h2
  go_enter Tryd.func72, Tryd.ntmps72
  go_wp2
  go_ret
  exact ⟨rfl, rfl⟩
theorem takes_no (p : Nat) (i n : Int) (w : World) (h0 : w.cell? ⟨p, 0, none⟩ = some (.int .i64 n)) (h1 : i < 0 ∨ n ≤ i) : Calls Tryd.prog 72 #[.pointer (some ⟨p, 0, none⟩), .int .i64 i] w fun e w' => e = .returned (.bool false) ∧ w' = w := by
  by_cases hi : i < 0
  · have g0 : decide (i ≥ 0) = false := by simpa using hi
    have g1 : decide (0 ≤ i) = false := by simpa using hi
    clear h1 hi
    go_enter Tryd.func72, Tryd.ntmps72
    go_wp2
    go_ret
    exact ⟨rfl, rfl⟩
  · have g0 : decide (i ≥ 0) = true := by simp; omega
    have g1 : decide (0 ≤ i) = true := by simp; omega
    have g2 : decide (i < n) = false := by simp; omega
    clear h1 hi
    go_enter Tryd.func72, Tryd.ntmps72
    go_wp2
    go_ret
    exact ⟨rfl, rfl⟩
end Go.Proofs.YtmfdaeicbaibeaaDoor
