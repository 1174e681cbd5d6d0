/-
  The small functions on operations and kinds: isKind, isOp, argSize, immSize; the document's Width.
-/
import Derived.Test.YtcgoanfhabjpfaaMem
namespace Go.Proofs.Ytcgoanfhabjpfaa
set_option linter.unusedVariables false
open Go.ChangeShapes Go.WideShapes Go.ChangeAt Go.RowKit

set_option maxHeartbeats 800000 in
theorem isKind_any (k : Int) (w : World) :
    Calls Try.prog 49 #[.int .u8 k] w fun e w' => e = .returned (.bool (kindB k)) ∧ w = w' := by
  by_cases h0 : k = 0
  · subst h0
    go_enter Try.func49, Try.ntmps49
    go_wp2
    go_ret
    exact ⟨rfl, rfl⟩
  · have g0 : (k == 0) = false := by simpa using h0
    by_cases h1 : k = 1
    · subst h1
      clear g0 h0
      go_enter Try.func49, Try.ntmps49
      go_wp2
      go_ret
      exact ⟨rfl, rfl⟩
    · have g1 : (k == 1) = false := by simpa using h1
      have hk : kindB k = false := by simp [kindB, h0, h1]
      have HK := Lib.hid hk
      clear hk h0 h1
      rw [HK.out]
      go_enter Try.func49, Try.ntmps49
      go_wp2
      go_ret
      exact ⟨rfl, rfl⟩
set_option maxHeartbeats 800000 in
theorem isOp_any (k : Int) (w : World) :
    Calls Try.prog 58 #[.int .u8 k] w fun e w' => e = .returned (.bool (opB k)) ∧ w = w' := by
  by_cases h0 : 1 ≤ k
  · by_cases h1 : k ≤ 32
    · have hk : opB k = true := by simp [opB, h0, h1]
      rw [hk]
      clear hk
      go_enter Try.func58, Try.ntmps58
      go_wp2
      go_ret
      exact ⟨rfl, rfl⟩
    · have hk : opB k = false := by simp [opB, h0, h1]
      rw [hk]
      clear hk
      have g1 : decide (k ≤ 32) = false := by simpa using h1
      go_enter Try.func58, Try.ntmps58
      go_wp2
      go_ret
      exact ⟨rfl, rfl⟩
  · have hk : opB k = false := by simp [opB, h0]
    rw [hk]
    clear hk
    have g1 : decide (1 ≤ k) = false := by simpa using h0
    go_enter Try.func58, Try.ntmps58
    go_wp2
    go_ret
    exact ⟨rfl, rfl⟩
set_option maxHeartbeats 1600000 in
theorem argSize_any (k : Int) (w : World) :
    Calls Try.prog 41 #[.int .u8 k] w fun e w' => e = .returned (.int .i64 (argW k : Nat)) ∧ w = w' := by
  by_cases hs : k = 2 ∨ k = 3 ∨ k = 4 ∨ k = 21 ∨ k = 22 ∨ k = 23 ∨ k = 25
  · rcases hs with rfl | rfl | rfl | rfl | rfl | rfl | rfl
    all_goals
      go_enter Try.func41, Try.ntmps41
      go_wp2
      go_ret
      exact ⟨rfl, rfl⟩
  · have hw : argW k = 0 := by
      unfold argW
      rw [if_neg (by omega), if_neg (by omega)]
    have g2 : (k == 2) = false := by simp; omega
    have g3 : (k == 3) = false := by simp; omega
    have g4 : (k == 4) = false := by simp; omega
    have g5 : (k == 21) = false := by simp; omega
    have g6 : (k == 22) = false := by simp; omega
    have g7 : (k == 23) = false := by simp; omega
    have g8 : (k == 25) = false := by simp; omega
    rw [hw]
    clear hw hs
    go_enter Try.func41, Try.ntmps41
    go_wp2
    go_ret
    exact ⟨rfl, rfl⟩
set_option maxHeartbeats 1600000 in
theorem immSize_any (k : Int) (w : World) :
    Calls Try.prog 42 #[.int .u8 k] w fun e w' => e = .returned (.int .i64 (immW k : Nat)) ∧ w = w' := by
  by_cases hs : k = 1
  · subst hs
    go_enter Try.func42, Try.ntmps42
    go_wp2
    go_ret
    exact ⟨rfl, rfl⟩
  · have hw : immW k = 0 := by
      unfold immW
      rw [if_neg hs]
    have g2 : (k == 1) = false := by simp; omega
    rw [hw]
    clear hw hs
    go_enter Try.func42, Try.ntmps42
    go_wp2
    go_ret
    exact ⟨rfl, rfl⟩
/-- how wide the document calls an operation's operand -/
def widthD (op : Int) : Int := if opB op then ((argW op + immW op : Nat) : Int) else -1
set_option maxHeartbeats 1600000 in
theorem width_any (k : Int) (w : World) :
    Calls Try.prog 34 #[.int .u8 k] w fun e w' => e = .returned (.int .i64 (widthD k)) ∧ w = w' := by
  by_cases ho : opB k = true
  · have hb := opB_iff.1 ho
    obtain ⟨h0, h1⟩ := hb
    have g0 : decide (k < 1) = false := by simp; omega
    have g1 : decide (32 < k) = false := by simp; omega
    by_cases hs : k = 1 ∨ k = 2 ∨ k = 3 ∨ k = 4 ∨ k = 21 ∨ k = 22 ∨ k = 23 ∨ k = 25
    · clear g0 g1 h0 h1 ho
      rcases hs with rfl | rfl | rfl | rfl | rfl | rfl | rfl | rfl
      all_goals
        go_enter Try.func34, Try.ntmps34
        go_wp2
        go_ret
        exact ⟨rfl, rfl⟩
    · have hw : widthD k = 0 := by
        unfold widthD argW immW
        rw [if_pos ho, if_neg (by omega), if_neg (by omega), if_neg (by omega)]; rfl
      have g2 : (k == 2) = false := by simp; omega
      have g3 : (k == 3) = false := by simp; omega
      have g4 : (k == 4) = false := by simp; omega
      have g5 : (k == 21) = false := by simp; omega
      have g6 : (k == 22) = false := by simp; omega
      have g7 : (k == 23) = false := by simp; omega
      have g8 : (k == 25) = false := by simp; omega
      have g9 : (k == 1) = false := by simp; omega
      rw [hw]
      clear hw hs ho
      go_enter Try.func34, Try.ntmps34
      go_wp2
      go_ret
      exact ⟨rfl, rfl⟩
  · have hn : ¬ (1 ≤ k ∧ k ≤ 32) := fun h => ho (opB_iff.2 h)
    have hw : widthD k = -1 := by unfold widthD; rw [if_neg ho]
    rw [hw]
    clear hw ho
    by_cases h0 : k < 1
    · go_enter Try.func34, Try.ntmps34
      go_wp2
      go_ret
      exact ⟨rfl, rfl⟩
    · have g0 : decide (k < 1) = false := by simp; omega
      have h1 : 32 < k := by omega
      go_enter Try.func34, Try.ntmps34
      go_wp2
      go_ret
      exact ⟨rfl, rfl⟩
end Go.Proofs.Ytcgoanfhabjpfaa
