/-
  The row's own package: Next, walked.
-/
import Derived.Test.YtcgoanfhabjpfaaKNam
namespace Go.Proofs.Ytcgoanfhabjpfaa
set_option linter.unusedVariables false
set_option linter.unusedSimpArgs false
open Go.ChangeShapes Go.WideShapes Go.ChangeAt Go.RowKit

theorem next_of (i : Ins) (a b : Nat) (x : Bool) (w : World) (h : Calls Try.prog 36 #[.agg #[.int .u8 i.op, .int .i64 i.arg, .int .u64 i.imm], .int .i64 a, .int .i64 b] w fun e w' => e = .returned (.bool x) ∧ Below w.heap.size w w') (hx : decide (b ∈ succK a i) = x) : Calls Try.prog 36 #[.agg #[.int .u8 i.op, .int .i64 i.arg, .int .u64 i.imm], .int .i64 a, .int .i64 b] w fun e w' => e = .returned (.bool (decide (b ∈ succK a i))) ∧ Below w.heap.size w w' := by rw [hx]; exact h

set_option maxRecDepth 100000 in
set_option maxHeartbeats 3200000 in
theorem next_any (i : Ins) (a b : Nat) (w : World) (h0 : 0 ≤ i.arg) (ha : a ≤ 100000) (hb : b ≤ 100001) :
    Calls Try.prog 36 #[.agg #[.int .u8 i.op, .int .i64 i.arg, .int .u64 i.imm], .int .i64 a, .int .i64 b] w fun e w' => e = .returned (.bool (decide (b ∈ succK a i))) ∧ Below w.heap.size w w' := by
  have HB : ∀ o : Obj, Hid (Below w.heap.size w (w.alloc o)) := fun o => (Below.refl _ _).alloc (Nat.le_refl _) o
  obtain ⟨op, arg, imm⟩ := i
  simp only at h0
  obtain ⟨k, rfl⟩ : ∃ k : Nat, arg = (k : Int) := ⟨arg.toNat, by omega⟩
  obtain ⟨a1, ha1⟩ : ∃ a1 : Nat, (a : Int) + 1 = (a1 : Int) := ⟨a + 1, by omega⟩
  have HA1 : Hid (a1 = a + 1) := Lib.hid (by omega)
  by_cases c21 : op = 21
  · subst c21
    by_cases hk : b = k
    · subst hk
      refine next_of _ _ _ true _ ?_ (by simp [succK])
      go_enter Try.func36, Try.ntmps36
      go_wp2
      go_ret
      exact ⟨rfl, (HB _).out⟩
    · refine next_of _ _ _ false _ ?_ (by simp [succK]; omega)
      have g1 : (b == k) = false := by simpa using hk
      have g2 : ((b : Int) == (k : Int)) = false := by simp; omega
      clear hk
      go_enter Try.func36, Try.ntmps36
      go_wp2
      go_ret
      exact ⟨rfl, (HB _).out⟩
  by_cases c22 : op = 22
  · subst c22
    by_cases hk1 : b = a1
    · subst hk1
      refine next_of _ _ _ true _ ?_ (by simp [succK, HA1.out])
      go_enter Try.func36, Try.ntmps36
      go_wp2
      go_ret
      exact ⟨rfl, (HB _).out⟩
    · have g1 : (b == a1) = false := by simpa using hk1
      have g2 : ((b : Int) == (a1 : Int)) = false := by simp; omega
      have hn1 := Lib.hid hk1
      clear hk1
      by_cases hk : b = k
      · subst hk
        refine next_of _ _ _ true _ ?_ (by simp [succK])
        go_enter Try.func36, Try.ntmps36
        go_wp2
        go_ret
        exact ⟨rfl, (HB _).out⟩
      · refine next_of _ _ _ false _ ?_ (by have h1 := hn1.out; have h2 := HA1.out; simp [succK]; omega)
        have g3 : (b == k) = false := by simpa using hk
        have g4 : ((b : Int) == (k : Int)) = false := by simp; omega
        clear hk
        go_enter Try.func36, Try.ntmps36
        go_wp2
        go_ret
        exact ⟨rfl, (HB _).out⟩
  by_cases c3 : op = 24 ∨ op = 26 ∨ op = 30
  · refine next_of _ _ _ false _ ?_ (by unfold succK; rw [if_neg c21, if_neg c22, if_pos c3]; simp)
    clear c21 c22
    rcases c3 with rfl | rfl | rfl
    all_goals
      go_enter Try.func36, Try.ntmps36
      go_wp2
      go_ret
      exact ⟨rfl, (HB _).out⟩
  have q21 : (op == 21) = false := by simpa using c21
  have q22 : (op == 22) = false := by simpa using c22
  have q24 : (op == 24) = false := by simp; omega
  have q26 : (op == 26) = false := by simp; omega
  have q30 : (op == 30) = false := by simp; omega
  have HS : Hid (succK a ⟨op, (k : Int), imm⟩ = [a1]) := Lib.hid (by unfold succK; rw [if_neg c21, if_neg c22, if_neg c3, HA1.out])
  clear c21 c22 c3
  by_cases hk1 : b = a1
  · subst hk1
    refine next_of _ _ _ true _ ?_ (by rw [HS.out]; simp)
    go_enter Try.func36, Try.ntmps36
    go_wp2
    go_ret
    exact ⟨rfl, (HB _).out⟩
  · refine next_of _ _ _ false _ ?_ (by rw [HS.out]; simpa using hk1)
    have g1 : (b == a1) = false := by simpa using hk1
    have g2 : ((b : Int) == (a1 : Int)) = false := by simp; omega
    clear hk1
    go_enter Try.func36, Try.ntmps36
    go_wp2
    go_ret
    exact ⟨rfl, (HB _).out⟩
end Go.Proofs.Ytcgoanfhabjpfaa
