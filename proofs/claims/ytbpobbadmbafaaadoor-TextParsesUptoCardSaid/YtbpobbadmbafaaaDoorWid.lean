/-
  The document's Width.
-/
import Derived.Test.YtbpobbadmbafaaaDoorMem
namespace Go.Proofs.YtbpobbadmbafaaaDoor
set_option linter.unusedVariables false
open Go.ChangeShapes Go.WideShapes Go.ChangeAt Go.RowKit

/-- how wide the document calls an operation's operand -/
def widthD (op : Int) : Int := if opB op then ((argW op + immW op : Nat) : Int) else -1
set_option maxHeartbeats 1600000 in
theorem width_any (k : Int) (w : World) :
    Calls Tryd.prog 38 #[.int .u8 k] w fun e w' => e = .returned (.int .i64 (widthD k)) ∧ w = w' := by
  by_cases ho : opB k = true
  · have hb := opB_iff.1 ho
    obtain ⟨h0, h1⟩ := hb
    have g0 : decide (k < 1) = false := by simp; omega
    have g1 : decide (32 < k) = false := by simp; omega
    by_cases hs : k = 1 ∨ k = 2 ∨ k = 3 ∨ k = 4 ∨ k = 21 ∨ k = 22 ∨ k = 23 ∨ k = 25
    · clear g0 g1 h0 h1 ho
      rcases hs with rfl | rfl | rfl | rfl | rfl | rfl | rfl | rfl
      all_goals
        go_enter Tryd.func38, Tryd.ntmps38
        go_wp2
        go_ret
        exact ⟨rfl, rfl⟩
    · have hw : widthD k = 0 := by
        unfold widthD argW immW
        rw [if_pos ho, if_neg (by omega), if_neg (by omega), if_neg (by omega)]; rfl
      have g2 : (k == 2) = false := by simp; omega
      have g3 : (k == 3) = false := by simp; omega
      have g4 : (k == 4) = false := by simp; omega
      have g5 : (k == 21) = false := by simp; omega
      have g6 : (k == 22) = false := by simp; omega
      have g7 : (k == 23) = false := by simp; omega
      have g8 : (k == 25) = false := by simp; omega
      have g9 : (k == 1) = false := by simp; omega
      rw [hw]
      clear hw hs ho
      go_enter Tryd.func38, Tryd.ntmps38
      go_wp2
      go_ret
      exact ⟨rfl, rfl⟩
  · have hn : ¬ (1 ≤ k ∧ k ≤ 32) := fun h => ho (opB_iff.2 h)
    have hw : widthD k = -1 := by unfold widthD; rw [if_neg ho]
    rw [hw]
    clear hw ho
    by_cases h0 : k < 1
    · go_enter Tryd.func38, Tryd.ntmps38
      go_wp2
      go_ret
      exact ⟨rfl, rfl⟩
    · have g0 : decide (k < 1) = false := by simp; omega
      have h1 : 32 < k := by omega
      go_enter Tryd.func38, Tryd.ntmps38
      go_wp2
      go_ret
      exact ⟨rfl, rfl⟩
end Go.Proofs.YtbpobbadmbafaaaDoor
