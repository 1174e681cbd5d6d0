/-
  What word.Do answers, operation by operation: contracts of the calls, for all words.
-/
import Derived.Test.YtnjdlcdadaeomaaRows
import Derived.Test.YtnjdlcdadaeomaaMath
import Derived.WalkKit
import Derived.ProofKit
import Derived.OpenShut
import Derived.Laws.Shifts
namespace Go.Proofs.Ytnjdlcdadaeomaa
open Go.ChangeShapes Go.WideShapes Go.ChangeAt Go.RowKit

/-- the ending with a word and an error -/
def wend (v : Int) (e : Int) : Ending := .returned (.tuple #[.int .u64 v, .int .i64 e])

theorem do_add (a b : Int) (w : World) : Calls Try.prog 11 #[.int .u8 7, .int .u64 a, .int .u64 b] w fun e w' => e = wend (wadd a b) 0 ∧ w = w' := by
  go_enter Try.func11, Try.ntmps11
  go_wp2
  go_ret2
  exact ⟨rfl, rfl⟩
theorem do_sub (a b : Int) (w : World) : Calls Try.prog 11 #[.int .u8 8, .int .u64 a, .int .u64 b] w fun e w' => e = wend (wsub a b) 0 ∧ w = w' := by
  go_enter Try.func11, Try.ntmps11
  go_wp2
  go_ret2
  exact ⟨rfl, rfl⟩
theorem do_mul (a b : Int) (w : World) : Calls Try.prog 11 #[.int .u8 9, .int .u64 a, .int .u64 b] w fun e w' => e = wend (wmul a b) 0 ∧ w = w' := by
  go_enter Try.func11, Try.ntmps11
  go_wp2
  go_ret2
  exact ⟨rfl, rfl⟩
theorem do_and (a b : Int) (w : World) : Calls Try.prog 11 #[.int .u8 12, .int .u64 a, .int .u64 b] w fun e w' => e = wend (wand a b) 0 ∧ w = w' := by
  go_enter Try.func11, Try.ntmps11
  go_wp2
  go_ret2
  exact ⟨rfl, rfl⟩
theorem do_or (a b : Int) (w : World) : Calls Try.prog 11 #[.int .u8 13, .int .u64 a, .int .u64 b] w fun e w' => e = wend (wor a b) 0 ∧ w = w' := by
  go_enter Try.func11, Try.ntmps11
  go_wp2
  go_ret2
  exact ⟨rfl, rfl⟩
theorem do_xor (a b : Int) (w : World) : Calls Try.prog 11 #[.int .u8 14, .int .u64 a, .int .u64 b] w fun e w' => e = wend (wxor a b) 0 ∧ w = w' := by
  go_enter Try.func11, Try.ntmps11
  go_wp2
  go_ret2
  exact ⟨rfl, rfl⟩
theorem do_div0 (a : Int) (w : World) : Calls Try.prog 11 #[.int .u8 10, .int .u64 a, .int .u64 0] w fun e w' => e = wend 0 10 ∧ w = w' := by
  go_enter Try.func11, Try.ntmps11
  go_wp2
  go_ret2
  exact ⟨rfl, rfl⟩
theorem do_rem0 (a : Int) (w : World) : Calls Try.prog 11 #[.int .u8 11, .int .u64 a, .int .u64 0] w fun e w' => e = wend 0 10 ∧ w = w' := by
  go_enter Try.func11, Try.ntmps11
  go_wp2
  go_ret2
  exact ⟨rfl, rfl⟩
theorem do_div (a b : Int) (w : World) (hb : (b == 0) = false) (hc : ¬ wrap64 b = 0) : Calls Try.prog 11 #[.int .u8 10, .int .u64 a, .int .u64 b] w fun e w' => e = wend (wdiv a b) 0 ∧ w = w' := by
  go_enter Try.func11, Try.ntmps11
  go_wp2
  go_ret2
  exact ⟨rfl, rfl⟩
theorem do_rem (a b : Int) (w : World) (hb : (b == 0) = false) (hc : ¬ wrap64 b = 0) : Calls Try.prog 11 #[.int .u8 11, .int .u64 a, .int .u64 b] w fun e w' => e = wend (wrem a b) 0 ∧ w = w' := by
  go_enter Try.func11, Try.ntmps11
  go_wp2
  go_ret2
  exact ⟨rfl, rfl⟩
theorem do_shl (a b : Int) (w : World) (h0 : 0 ≤ b) : Calls Try.prog 11 #[.int .u8 15, .int .u64 a, .int .u64 b] w fun e w' => e = wend (wshl a b) 0 ∧ w = w' := by
  go_enter Try.func11, Try.ntmps11
  go_wp2
  go_ret2
  exact ⟨rfl, rfl⟩
theorem do_shr (a b : Int) (w : World) (h0 : 0 ≤ b) : Calls Try.prog 11 #[.int .u8 16, .int .u64 a, .int .u64 b] w fun e w' => e = wend (wshr a b) 0 ∧ w = w' := by
  go_enter Try.func11, Try.ntmps11
  go_wp2
  go_ret2
  exact ⟨rfl, rfl⟩
theorem do_sar (a b : Int) (w : World) (h0 : 0 ≤ b) : Calls Try.prog 11 #[.int .u8 17, .int .u64 a, .int .u64 b] w fun e w' => e = wend (wsar a b) 0 ∧ w = w' := by
  go_enter Try.func11, Try.ntmps11
  go_wp2
  go_ret2
  exact ⟨rfl, rfl⟩
theorem do_eq (a b : Int) (w : World) : Calls Try.prog 11 #[.int .u8 18, .int .u64 a, .int .u64 b] w fun e w' => e = wend (weq a b) 0 ∧ w = w' := by
  cases h : (a == b)
  all_goals
    have hv : Hid (weq a b = wbit (a == b)) := rfl
    rw [h] at hv
    go_enter Try.func11, Try.ntmps11
    go_wp2
    go_ret2
    exact ⟨by rw [hv]; rfl, rfl⟩
theorem do_lt (a b : Int) (w : World) : Calls Try.prog 11 #[.int .u8 19, .int .u64 a, .int .u64 b] w fun e w' => e = wend (wlt a b) 0 ∧ w = w' := by
  cases h : decide (wrap64 a < wrap64 b)
  all_goals
    have hv : Hid (wlt a b = wbit (decide (wrap64 a < wrap64 b))) := rfl
    rw [h] at hv
    go_enter Try.func11, Try.ntmps11
    go_wp2
    go_ret2
    exact ⟨by rw [hv]; rfl, rfl⟩
theorem do_be (a b : Int) (w : World) : Calls Try.prog 11 #[.int .u8 20, .int .u64 a, .int .u64 b] w fun e w' => e = wend (wbe a b) 0 ∧ w = w' := by
  cases h : decide (a < b)
  all_goals
    have hv : Hid (wbe a b = wbit (decide (a < b))) := rfl
    rw [h] at hv
    go_enter Try.func11, Try.ntmps11
    go_wp2
    go_ret2
    exact ⟨by rw [hv]; rfl, rfl⟩
end Go.Proofs.Ytnjdlcdadaeomaa
