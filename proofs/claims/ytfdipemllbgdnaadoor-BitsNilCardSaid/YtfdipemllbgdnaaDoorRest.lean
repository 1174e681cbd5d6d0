/-
  Package bits: nil sets; how many; the same?
-/
import Derived.Test.YtfdipemllbgdnaaDoorAdd
import Derived.LoopTactic
namespace Go.Proofs.YtfdipemllbgdnaaDoor
set_option linter.unusedVariables false
set_option linter.unusedSimpArgs false
open Go.ChangeShapes Go.WideShapes Go.ChangeAt Go.RowKit

theorem all_nil (w : World) : Calls Tryd.prog 17 #[.pointer none] w fun e w' => e = .returned (.slice none 0 0) ∧ w' = w := by
  go_enter Tryd.func17, Tryd.ntmps17
  go_wp2
  go_ret
  exact ⟨rfl, rfl⟩
theorem all_some (p : Nat) (A : Option Addr) (q c : Nat) (w : World) (h1 : w.cell? ⟨p, 1, none⟩ = some (.slice A q c)) : Calls Tryd.prog 17 #[.pointer (some ⟨p, 0, none⟩)] w fun e w' => e = .returned (.slice A q c) ∧ w' = w := by
  go_enter Tryd.func17, Tryd.ntmps17
  go_wp2
  go_ret
  exact ⟨rfl, rfl⟩
theorem shared_left (p b q : Nat) (w : World) (h1 : w.cell? ⟨p, 1, none⟩ = some (.slice (some ⟨b, 0, none⟩) q q)) : Calls Tryd.prog 21 #[.pointer none, .pointer (some ⟨p, 0, none⟩)] w fun e w' => e = .returned (.slice (some ⟨b, 0, none⟩) 0 q) ∧ w' = w := by
  have HA := Lib.hid (all_some p _ q q w h1)
  go_enter Tryd.func21, Tryd.ntmps21
  go_wp2_with (first
    | (go_at_call 17; with_reducible refine HA.out.mono ?_; rintro e w1 ⟨rfl, rfl⟩)
    | (go_at_call 17; with_reducible refine (all_nil _).mono ?_; rintro e w1 ⟨rfl, rfl⟩))
  go_ret
  exact ⟨rfl, rfl⟩
theorem shared_right (p b q : Nat) (w : World) (h1 : w.cell? ⟨p, 1, none⟩ = some (.slice (some ⟨b, 0, none⟩) q q)) : Calls Tryd.prog 21 #[.pointer (some ⟨p, 0, none⟩), .pointer none] w fun e w' => e = .returned (.slice none 0 0) ∧ w' = w := by
  rcases Nat.eq_zero_or_pos q with rfl | hq
  · have HA := Lib.hid (all_some p _ _ _ w h1)
    go_enter Tryd.func21, Tryd.ntmps21
    go_wp2_with (first
      | (go_at_call 17; with_reducible refine HA.out.mono ?_; rintro e w1 ⟨rfl, rfl⟩)
      | (go_at_call 17; with_reducible refine (all_nil _).mono ?_; rintro e w1 ⟨rfl, rfl⟩))
    go_ret
    exact ⟨rfl, rfl⟩
  · have HA := Lib.hid (all_some p _ _ _ w h1)
    go_enter Tryd.func21, Tryd.ntmps21
    go_wp2_with (first
      | (go_at_call 17; with_reducible refine HA.out.mono ?_; rintro e w1 ⟨rfl, rfl⟩)
      | (go_at_call 17; with_reducible refine (all_nil _).mono ?_; rintro e w1 ⟨rfl, rfl⟩))
    go_ret
    exact ⟨rfl, rfl⟩
theorem or_left (p b q : Nat) (w : World) (h1 : w.cell? ⟨p, 1, none⟩ = some (.slice (some ⟨b, 0, none⟩) q q)) : Calls Tryd.prog 12 #[.pointer none, .pointer (some ⟨p, 0, none⟩)] w fun e w' => e = .returned (.bool false) ∧ w' = w := by
  have HA := Lib.hid (shared_left p b q w h1)
  go_enter Tryd.func12, Tryd.ntmps12
  go_wp2_with (go_at_call 21; refine HA.out.mono ?_; rintro e w1 ⟨rfl, rfl⟩)
  go_loopw [5, 13] (fun v i wr => v = .bool false ∧ i = .int .i64 0 ∧ wr = w1) (fun _ i _ => 0)
  case atStart => exact ⟨rfl, rfl, rfl⟩
  case round =>
    obtain ⟨rfl, rfl, rfl⟩ := hrel
    go_wp2
    go_ret
    exact ⟨rfl, rfl⟩
theorem or_right (p b q : Nat) (w : World) (h1 : w.cell? ⟨p, 1, none⟩ = some (.slice (some ⟨b, 0, none⟩) q q)) : Calls Tryd.prog 12 #[.pointer (some ⟨p, 0, none⟩), .pointer none] w fun e w' => e = .returned (.bool false) ∧ w' = w := by
  have HA := Lib.hid (shared_right p b q w h1)
  go_enter Tryd.func12, Tryd.ntmps12
  go_wp2_with (go_at_call 21; refine HA.out.mono ?_; rintro e w1 ⟨rfl, rfl⟩)
  go_loopw [5, 13] (fun v i wr => v = .bool false ∧ i = .int .i64 0 ∧ wr = w1) (fun _ i _ => 0)
  case atStart => exact ⟨rfl, rfl, rfl⟩
  case round =>
    obtain ⟨rfl, rfl, rfl⟩ := hrel
    go_wp2
    go_ret
    exact ⟨rfl, rfl⟩
theorem minus_right (p b q : Nat) (w : World) (h1 : w.cell? ⟨p, 1, none⟩ = some (.slice (some ⟨b, 0, none⟩) q q)) : Calls Tryd.prog 13 #[.pointer (some ⟨p, 0, none⟩), .pointer none] w fun e w' => e = .returned (.bool false) ∧ w' = w := by
  have HA := Lib.hid (shared_right p b q w h1)
  go_enter Tryd.func13, Tryd.ntmps13
  go_wp2_with (go_at_call 21; refine HA.out.mono ?_; rintro e w1 ⟨rfl, rfl⟩)
  go_loopw [5, 13] (fun v i wr => v = .bool false ∧ i = .int .i64 0 ∧ wr = w1) (fun _ i _ => 0)
  case atStart => exact ⟨rfl, rfl, rfl⟩
  case round =>
    obtain ⟨rfl, rfl, rfl⟩ := hrel
    go_wp2
    go_ret
    exact ⟨rfl, rfl⟩
theorem len_nil (w : World) : Calls Tryd.prog 9 #[.pointer none] w fun e w' => e = .returned (.int .i64 0) ∧ w' = w := by
  go_enter Tryd.func9, Tryd.ntmps9
  go_wp2_with (go_at_call 17; refine (all_nil _).mono ?_; rintro e w1 ⟨rfl, rfl⟩)
  go_loopw [3, 9] (fun v i wr => v = .int .i64 0 ∧ i = .int .i64 0 ∧ wr = w1) (fun _ i _ => 0)
  case atStart => exact ⟨rfl, rfl, rfl⟩
  case round =>
    obtain ⟨rfl, rfl, rfl⟩ := hrel
    go_wp2
    go_ret
    exact ⟨rfl, rfl⟩
theorem info_int' : (Tryd.prog.info? 3).map (fun i => (i.zero, i.size, i.bytes)) = some (some (.int .i64 0), 1, 8) := by kernel_rfl
theorem list_nil (w : World) : Calls Tryd.prog 10 #[.pointer none] w fun e w' => (∃ A c, e = .returned (.slice A 0 c)) ∧ Below w.heap.size w w' := by
  have hmk : ∀ W : World, (Instr.makeSlice 27 (.int .i64 0) (.int .i64 0)).run Tryd.prog W = .ok (.slice (some ⟨W.heap.size, 0, none⟩) 0 0) (W.alloc (.cells (madeCells #[.int .i64 0] 0) 3)) := fun W => run_make_row' _ _ _ 8 Tryd.underlying27 info_int' rfl .i64 .i64 0 (by omega) (by omega) W
  go_enter Tryd.func10, Tryd.ntmps10
  go_wp2_with (first
    | (go_at_call 9; refine (len_nil _).mono ?_; rintro e w1 ⟨rfl, rfl⟩)
    | (go_at_call 17; refine (all_nil _).mono ?_; rintro e w2 ⟨rfl, rfl⟩))
  obtain ⟨w3, hw3⟩ : ∃ W, W = w1.alloc (.cells (madeCells #[.int .i64 0] 0) 3) := ⟨_, rfl⟩
  go_loopw [3, 12] (fun v i wr => (∃ A c, v = .slice A 0 c) ∧ i = .int .i64 0 ∧ Hid (Below w1.heap.size w1 wr)) (fun _ i _ => 0)
  case atStart => exact ⟨⟨_, _, rfl⟩, rfl, Lib.hid ((Below.refl _ _).alloc (Nat.le_refl _) _)⟩
  case round =>
    obtain ⟨⟨A, c, rfl⟩, rfl, HB⟩ := hrel
    go_wp2
    go_ret
    exact ⟨⟨_, _, rfl⟩, HB.out⟩
theorem copy_nil (w : World) : Calls Tryd.prog 11 #[.pointer none] w fun e w' => e = .returned (.pointer none) ∧ w' = w := by
  go_enter Tryd.func11, Tryd.ntmps11
  go_wp2
  go_ret
  exact ⟨rfl, rfl⟩
theorem equal_none (A B : Option Addr) (c d : Nat) (w : World) : Calls Tryd.prog 23 #[.slice A 0 c, .slice B 0 d] w fun e w' => e = .returned (.bool true) ∧ w' = w := by
  go_enter Tryd.func23, Tryd.ntmps23
  go_wp2
  go_loopw [13] (fun i wr => i = .int .i64 0 ∧ wr = w) (fun i _ => 0)
  case atStart => exact ⟨rfl, rfl⟩
  case round =>
    obtain ⟨rfl, rfl⟩ := hrel
    go_wp2
    go_ret
    exact ⟨rfl, rfl⟩
theorem empty_none (A : Option Addr) (c : Nat) (w : World) : Calls Tryd.prog 24 #[.slice A 0 c] w fun e w' => e = .returned (.bool true) ∧ w' = w := by
  go_enter Tryd.func24, Tryd.ntmps24
  go_wp2
  go_loopw [7] (fun i wr => i = .int .i64 0 ∧ wr = w) (fun i _ => 0)
  case atStart => exact ⟨rfl, rfl⟩
  case round =>
    obtain ⟨rfl, rfl⟩ := hrel
    go_wp2
    go_ret
    exact ⟨rfl, rfl⟩
theorem empty_one (b : Nat) (w : World) (h : w.cell? ⟨b, 0, none⟩ = some (.int .u64 0)) : Calls Tryd.prog 24 #[.slice (some ⟨b, 0, none⟩) 1 1] w fun e w' => e = .returned (.bool true) ∧ w' = w := by
  go_enter Tryd.func24, Tryd.ntmps24
  go_wp2
  go_loopw [7] (fun i wr => ∃ k : Nat, k ≤ 1 ∧ i = .int .i64 k ∧ wr = w) (fun i _ => 1 - (intOf i).toNat)
  case atStart => exact ⟨0, by omega, rfl, rfl⟩
  case round =>
    obtain ⟨k, hk, rfl, rfl⟩ := hrel
    rcases (show k = 0 ∨ k = 1 by omega) with rfl | rfl
    · go_wp2
      go_roundw
      case rel => exact ⟨1, by omega, by go_num, by first | rfl | trivial⟩
      case measure => simp [intOf]
    · go_wp2
      go_ret
      exact ⟨rfl, rfl⟩
theorem empty_q (b q : Nat) (w : World) (hq : q = 1) (h : w.cell? ⟨b, 0, none⟩ = some (.int .u64 0)) : Calls Tryd.prog 24 #[.slice (some ⟨b, 0, none⟩) q q] w fun e w' => e = .returned (.bool true) ∧ w' = w := by
  subst hq
  exact empty_one b w h
end Go.Proofs.YtfdipemllbgdnaaDoor
