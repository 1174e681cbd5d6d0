/-
  The document's Width and Says.
-/
import Derived.Test.YtbpobbadmbafaaaDoorApp
import Derived.Test.YtbpobbadmbafaaaDoorWid
namespace Go.Proofs.YtbpobbadmbafaaaDoor
set_option linter.unusedVariables false
open Go.ChangeShapes Go.WideShapes Go.ChangeAt Go.RowKit

theorem width_q (k : Int) (v : Int) (w : World) (h : widthD k = v) : Calls Tryd.prog 38 #[.int .u8 k] w fun e w' => e = .returned (.int .i64 v) ∧ w = w' := by
  rw [← h]; exact width_any k w
theorem fit0 (v : Int) : fitB 0 v = (v == 0) := by unfold fitB; rw [Bool.eq_iff_iff]; simp; omega
theorem fit8 {v : Int} (h0 : 0 ≤ v) (h1 : v ≤ 18446744073709551615) : fitB 8 v = true := by unfold fitB; simp; omega
theorem fit1 (v : Int) : fitB 1 v = (decide (0 ≤ v) && decide (v ≤ 255)) := by unfold fitB; rw [Bool.eq_iff_iff]; simp; omega
theorem fit2 (v : Int) : fitB 2 v = (decide (0 ≤ v) && decide (v ≤ 65535)) := by unfold fitB; rw [Bool.eq_iff_iff]; simp; omega
set_option maxRecDepth 100000 in
set_option maxHeartbeats 6400000 in
theorem says_any (i : Ins) (w : World) (hw : WfI i) :
    Calls Tryd.prog 24 #[.agg #[.int .u8 i.op, .int .i64 i.arg, .int .u64 i.imm]] w fun e w' => e = .returned (.bool (okI i)) ∧ Below w.heap.size w w' := by
  obtain ⟨o0, o1, a0, a1, m0, m1⟩ := hw
  obtain ⟨op, arg, imm⟩ := i
  simp only at *
  have hAB : ∀ o : Obj, Hid (Below w.heap.size w (w.alloc o)) := fun o => (Below.refl _ _).alloc (Nat.le_refl _) o
  unfold okI
  simp only
  cases ho : opB op with
  | false =>
    have HW : Hid (widthD op = -1) := Lib.hid (by unfold widthD; rw [ho]; rfl)
    clear ho
    go_enter Tryd.func24, Tryd.ntmps24
    go_wp2_with (go_at_call 38; refine (width_q op (-1) _ HW.out).mono ?_; rintro e w2 ⟨rfl, rfl⟩)
    go_ret
    exact ⟨rfl, (hAB _).out⟩
  | true =>
    have hb := opB_iff.1 ho
    by_cases h1 : op = 1
    · subst h1
      rw [show argW 1 = 0 from rfl, show immW 1 = 8 from rfl, fit0, fit8 m0 m1]
      have HW : Hid (widthD 1 = 8) := rfl
      clear ho
      cases hq : (arg == 0)
      all_goals
        go_enter Tryd.func24, Tryd.ntmps24
        go_wp2_with (go_at_call 38; refine (width_q 1 8 _ HW.out).mono ?_; rintro e w2 ⟨rfl, rfl⟩)
        go_ret
        exact ⟨rfl, (hAB _).out⟩
    · have hiw : immW op = 0 := by unfold immW; rw [if_neg h1]
      rw [hiw, fit0]
      by_cases h2 : op = 21 ∨ op = 22
      · have haw : argW op = 2 := by unfold argW; rw [if_neg (by omega), if_pos h2]
        have HW : Hid (widthD op = 2) := Lib.hid (by unfold widthD; rw [ho, haw, hiw]; rfl)
        rw [haw, fit2]
        clear ho haw hiw h1 h2 hb
        cases hq : (imm == 0) with
        | false =>
          rw [Bool.and_false]
          go_enter Tryd.func24, Tryd.ntmps24
          go_wp2_with (go_at_call 38; refine (width_q op 2 _ HW.out).mono ?_; rintro e w2 ⟨rfl, rfl⟩)
          go_ret
          exact ⟨rfl, (hAB _).out⟩
        | true =>
          cases hq2 : decide (0 ≤ arg)
          all_goals cases hq3 : decide (arg ≤ 65535)
          all_goals
            go_enter Tryd.func24, Tryd.ntmps24
            go_wp2_with (go_at_call 38; refine (width_q op 2 _ HW.out).mono ?_; rintro e w2 ⟨rfl, rfl⟩)
            go_ret
            exact ⟨rfl, (hAB _).out⟩
      · by_cases h3 : op = 2 ∨ op = 3 ∨ op = 4 ∨ op = 23 ∨ op = 25
        · have haw : argW op = 1 := by unfold argW; rw [if_pos h3]
          have HW : Hid (widthD op = 1) := Lib.hid (by unfold widthD; rw [ho, haw, hiw]; rfl)
          rw [haw, fit1]
          clear ho haw hiw h1 h2 h3 hb
          cases hq : (imm == 0) with
          | false =>
            rw [Bool.and_false]
            go_enter Tryd.func24, Tryd.ntmps24
            go_wp2_with (go_at_call 38; refine (width_q op 1 _ HW.out).mono ?_; rintro e w2 ⟨rfl, rfl⟩)
            go_ret
            exact ⟨rfl, (hAB _).out⟩
          | true =>
            cases hq2 : decide (0 ≤ arg)
            all_goals cases hq3 : decide (arg ≤ 255)
            all_goals
              go_enter Tryd.func24, Tryd.ntmps24
              go_wp2_with (go_at_call 38; refine (width_q op 1 _ HW.out).mono ?_; rintro e w2 ⟨rfl, rfl⟩)
              go_ret
              exact ⟨rfl, (hAB _).out⟩
        · have haw : argW op = 0 := by unfold argW; rw [if_neg h3, if_neg h2]
          have HW : Hid (widthD op = 0) := Lib.hid (by unfold widthD; rw [ho, haw, hiw]; rfl)
          rw [haw, fit0]
          clear ho haw hiw h1 h2 h3 hb
          cases hq : (imm == 0) with
          | false =>
            rw [Bool.and_false]
            go_enter Tryd.func24, Tryd.ntmps24
            go_wp2_with (go_at_call 38; refine (width_q op 0 _ HW.out).mono ?_; rintro e w2 ⟨rfl, rfl⟩)
            go_ret
            exact ⟨rfl, (hAB _).out⟩
          | true =>
            cases hq2 : (arg == 0)
            all_goals
              go_enter Tryd.func24, Tryd.ntmps24
              go_wp2_with (go_at_call 38; refine (width_q op 0 _ HW.out).mono ?_; rintro e w2 ⟨rfl, rfl⟩)
              go_ret
              exact ⟨rfl, (hAB _).out⟩
end Go.Proofs.YtbpobbadmbafaaaDoor
