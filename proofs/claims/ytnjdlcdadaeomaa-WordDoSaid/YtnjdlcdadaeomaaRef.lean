/-
  What the document's own answer for layer 1 gives, operation by operation: contracts of its calls, for all words.
-/
import Derived.Test.YtnjdlcdadaeomaaFirst
namespace Go.Proofs.Ytnjdlcdadaeomaa
open Go.ChangeShapes Go.WideShapes Go.ChangeAt Go.RowKit

theorem ret_bool {a b : Bool} (h : a = b) : Ending.returned (.bool a) = .returned (.bool b) := by rw [h]
theorem ret_u64 {a b : Int} (h : a = b) : Ending.returned (.int .u64 a) = .returned (.int .u64 b) := by rw [h]
theorem wend_eq {a b e : Int} (h : a = b) : wend a e = wend b e := by rw [h]

theorem bit_any (b : Bool) (w : World) : Calls Try.prog 23 #[.bool b] w fun e w' => e = .returned (.int .u64 (wbit b)) ∧ w = w' := by
  cases b
  all_goals
    go_enter Try.func23, Try.ntmps23
    go_wp2
    go_ret
    exact ⟨rfl, rfl⟩
theorem minus_any (a : Int) (w : World) : Calls Try.prog 21 #[.int .u64 a] w fun e w' => e = .returned (.bool (wneg a)) ∧ w = w' := by
  go_enter Try.func21, Try.ntmps21
  go_wp2
  go_ret
  exact ⟨rfl, rfl⟩
theorem pow_any (n : Nat) (hn : n ≤ 63) (w : World) : Calls Try.prog 22 #[.int .u64 n] w fun e w' => e = .returned (.int .u64 (2 ^ n)) ∧ w = w' := by
  go_enter Try.func22, Try.ntmps22
  go_wp2
  go_loop [0, 3] (fun i p => ∃ k : Nat, k ≤ n ∧ i = .int .u64 ((n - k : Nat) : Int) ∧ p = .int .u64 (2 ^ k)) (fun i _ => (intOf i).toNat)
  case atStart => exact ⟨0, by omega, rfl, rfl⟩
  case round =>
    obtain ⟨k, hk, rfl, rfl⟩ := hrel
    obtain ⟨m, HM⟩ : ∃ m, Hid (m = n - k) := ⟨_, rfl⟩
    rw [← HM.out]
    obtain ⟨p, HP⟩ : ∃ p : Int, Hid (p = 2 ^ k) := ⟨_, rfl⟩
    have hp0 := pow_pos2 k
    rw [← HP.out] at hp0 ⊢
    by_cases hlt : k < n
    · have hp1 : p ≤ 4611686018427387904 := by
        rw [HP.out]
        exact pow_le (n := 62) (by omega)
      have hm1 : 0 < m := by rw [HM.out]; omega
      have hm2 : m ≤ 63 := by rw [HM.out]; omega
      go_wp2
      go_round
      case rel => exact ⟨k + 1, by omega, by have := HM.out; go_num, by rw [HP.out, Int.pow_succ]⟩
      case measure => simp [intOf]; omega
    · have hm1 : m = 0 := by rw [HM.out]; omega
      subst hm1
      go_wp2
      go_ret
      exact ⟨ret_u64 (by rw [HP.out]; congr 1; omega), rfl⟩
theorem pow_at (x : Int) (n : Nat) (h : x = n) (hn : n ≤ 63) (w : World) : Calls Try.prog 22 #[.int .u64 x] w fun e w' => e = .returned (.int .u64 (2 ^ n)) ∧ w = w' := by
  subst h
  exact pow_any n hn w
theorem size_any (a : Int) (ha : isW a) (w : World) : Calls Try.prog 20 #[.int .u64 a] w fun e w' => e = .returned (.int .u64 (wabs a)) ∧ w = w' := by
  obtain ⟨h0, h1⟩ := ha
  have HV : Hid (wabs a = if 9223372036854775808 ≤ a then 18446744073709551616 - a else a) := rfl
  by_cases hbig : 9223372036854775808 ≤ a
  · have hn : wneg a = true := by simp [wneg, hbig]
    go_enter Try.func20, Try.ntmps20
    go_wp2_with (go_at_call 21; refine (minus_any _ _).mono ?_; rintro e w' ⟨rfl, rfl⟩)
    go_ret
    exact ⟨ret_u64 (by rw [HV.out, if_pos (by omega), unot ⟨h0, h1⟩, wrap_u64_eq]; omega), rfl⟩
  · have hn : wneg a = false := by simp [wneg]; omega
    go_enter Try.func20, Try.ntmps20
    go_wp2_with (go_at_call 21; refine (minus_any _ _).mono ?_; rintro e w' ⟨rfl, rfl⟩)
    go_ret
    exact ⟨ret_u64 (by rw [HV.out, if_neg (by omega)]), rfl⟩
end Go.Proofs.Ytnjdlcdadaeomaa
