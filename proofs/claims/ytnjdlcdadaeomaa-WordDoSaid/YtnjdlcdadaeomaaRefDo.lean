/-
  What the document's own Do of layer 1 answers, operation by operation.
-/
import Derived.Test.YtnjdlcdadaeomaaRef
namespace Go.Proofs.Ytnjdlcdadaeomaa
open Go.ChangeShapes Go.WideShapes Go.ChangeAt Go.RowKit
theorem wend_ret {a b e : Int} (h : a = b) : Ending.returned (.tuple #[.int .u64 a, .int .i64 e]) = wend b e := by rw [h]; rfl
theorem emod_W (a : Int) : isW (a % 18446744073709551616) := ⟨Int.emod_nonneg _ (by decide), Int.emod_lt_of_pos _ (by decide)⟩

theorem ref_add (a b : Int) (w : World) : Calls Try.prog 12 #[.int .u8 7, .int .u64 a, .int .u64 b] w fun e w' => e = wend (wadd a b) 0 ∧ w = w' := by
  go_enter Try.func12, Try.ntmps12
  go_wp2
  go_ret2
  exact ⟨wend_ret rfl, rfl⟩
theorem ref_sub (a b : Int) (w : World) (hb : isW b) : Calls Try.prog 12 #[.int .u8 8, .int .u64 a, .int .u64 b] w fun e w' => e = wend (wsub a b) 0 ∧ w = w' := by
  go_enter Try.func12, Try.ntmps12
  go_wp2
  go_ret2
  exact ⟨wend_ret (by rw [unot hb]; unfold wsub; rw [wrap_u64_eq, wrap_u64_eq, wrap_u64_eq]; omega), rfl⟩
theorem ref_mul (a b : Int) (w : World) : Calls Try.prog 12 #[.int .u8 9, .int .u64 a, .int .u64 b] w fun e w' => e = wend (wmul a b) 0 ∧ w = w' := by
  go_enter Try.func12, Try.ntmps12
  go_wp2
  go_ret2
  exact ⟨wend_ret rfl, rfl⟩
set_option maxRecDepth 100000 in
theorem ref_div0 (a : Int) (w : World) : Calls Try.prog 12 #[.int .u8 10, .int .u64 a, .int .u64 0] w fun e w' => e = wend (0) 10 ∧ w = w' := by
  go_enter Try.func12, Try.ntmps12
  go_wp2
  go_ret2
  exact ⟨rfl, rfl⟩
set_option maxRecDepth 100000 in
theorem ref_rem0 (a : Int) (w : World) : Calls Try.prog 12 #[.int .u8 11, .int .u64 a, .int .u64 0] w fun e w' => e = wend (0) 10 ∧ w = w' := by
  go_enter Try.func12, Try.ntmps12
  go_wp2
  go_ret2
  exact ⟨rfl, rfl⟩
theorem ref_and (a b : Int) (w : World) : Calls Try.prog 12 #[.int .u8 12, .int .u64 a, .int .u64 b] w fun e w' => e = wend (wand a b) 0 ∧ w = w' := by
  go_enter Try.func12, Try.ntmps12
  go_wp2
  go_ret2
  exact ⟨wend_ret rfl, rfl⟩
theorem ref_or (a b : Int) (w : World) : Calls Try.prog 12 #[.int .u8 13, .int .u64 a, .int .u64 b] w fun e w' => e = wend (wor a b) 0 ∧ w = w' := by
  go_enter Try.func12, Try.ntmps12
  go_wp2
  go_ret2
  exact ⟨wend_ret rfl, rfl⟩
theorem ref_xor (a b : Int) (w : World) (ha : isW a) (hb : isW b) : Calls Try.prog 12 #[.int .u8 14, .int .u64 a, .int .u64 b] w fun e w' => e = wend (wxor a b) 0 ∧ w = w' := by
  go_enter Try.func12, Try.ntmps12
  go_wp2
  go_ret2
  exact ⟨wend_ret (by have h := bits3 ha hb; simp only [beq_iff_eq] at h; exact h), rfl⟩
theorem ref_eq (a b : Int) (w : World) : Calls Try.prog 12 #[.int .u8 18, .int .u64 a, .int .u64 b] w fun e w' => e = wend (weq a b) 0 ∧ w = w' := by
  go_enter Try.func12, Try.ntmps12
  go_wp2_with (go_at_call 23; refine (bit_any _ _).mono ?_; rintro e w' ⟨rfl, rfl⟩)
  go_ret2
  exact ⟨wend_ret (rfl), rfl⟩
theorem ref_lt (a b : Int) (w : World) : Calls Try.prog 12 #[.int .u8 19, .int .u64 a, .int .u64 b] w fun e w' => e = wend (wlt a b) 0 ∧ w = w' := by
  go_enter Try.func12, Try.ntmps12
  go_wp2_with (go_at_call 23; refine (bit_any _ _).mono ?_; rintro e w' ⟨rfl, rfl⟩)
  go_ret2
  exact ⟨wend_ret (by unfold wlt; apply wbit_iff; rw [wrap_u64_eq, wrap_u64_eq, wrap64_eq, wrap64_eq]; omega), rfl⟩
theorem ref_be (a b : Int) (w : World) : Calls Try.prog 12 #[.int .u8 20, .int .u64 a, .int .u64 b] w fun e w' => e = wend (wbe a b) 0 ∧ w = w' := by
  go_enter Try.func12, Try.ntmps12
  go_wp2_with (go_at_call 23; refine (bit_any _ _).mono ?_; rintro e w' ⟨rfl, rfl⟩)
  go_ret2
  exact ⟨wend_ret (rfl), rfl⟩
theorem ref_shl (a : Int) (n : Nat) (w : World) (hn : n ≤ 63) : Calls Try.prog 12 #[.int .u8 15, .int .u64 a, .int .u64 n] w fun e w' => e = wend (wshl a n) 0 ∧ w = w' := by
  go_enter Try.func12, Try.ntmps12
  go_wp2_with (go_at_call 22; refine (pow_any n (by omega) _).mono ?_; rintro e w' ⟨rfl, rfl⟩)
  go_ret2
  exact ⟨wend_ret (by rw [shl_any, wrap_u64_eq]), rfl⟩
theorem ref_shl_big (a b : Int) (w : World) (hn : 63 < b) : Calls Try.prog 12 #[.int .u8 15, .int .u64 a, .int .u64 b] w fun e w' => e = wend (0) 0 ∧ w = w' := by
  go_enter Try.func12, Try.ntmps12
  go_wp2
  go_ret2
  exact ⟨wend_ret rfl, rfl⟩
theorem ref_shr (a : Int) (n : Nat) (w : World) (ha : isW a) (hn : n ≤ 63) : Calls Try.prog 12 #[.int .u8 16, .int .u64 a, .int .u64 n] w fun e w' => e = wend (wshr a n) 0 ∧ w = w' := by
  have hp := pow_pos2 n
  go_enter Try.func12, Try.ntmps12
  go_wp2_with (go_at_call 22; refine (pow_any n (by omega) _).mono ?_; rintro e w' ⟨rfl, rfl⟩)
  go_ret2
  exact ⟨wend_ret (by rw [shr_any ha, shr_t ha]), rfl⟩
theorem ref_shr_big (a b : Int) (w : World) (hn : 63 < b) : Calls Try.prog 12 #[.int .u8 16, .int .u64 a, .int .u64 b] w fun e w' => e = wend (0) 0 ∧ w = w' := by
  go_enter Try.func12, Try.ntmps12
  go_wp2
  go_ret2
  exact ⟨wend_ret rfl, rfl⟩
set_option maxHeartbeats 800000 in
theorem ref_div (a b : Int) (ha : isW a) (hb : isW b) (h0 : ¬ b = 0) (w : World) : Calls Try.prog 12 #[.int .u8 10, .int .u64 a, .int .u64 b] w fun e w' => e = wend (wdiv a b) 0 ∧ w = w' := by
  have hb0 : (b == 0) = false := by simpa using h0
  have ra := wabs_range ha
  have rb := wabs_range hb
  have hb1 := wabs_pos hb h0
  have hq := quo_small ra hb1
  cases na : wneg a <;> cases nb : wneg b
  all_goals
    go_enter Try.func12, Try.ntmps12
    go_wp2_with (first
      | (go_at_call 20; first
        | ((with_reducible refine (size_any a ha _).mono ?_); rintro e w' ⟨rfl, rfl⟩)
        | ((with_reducible refine (size_any b hb _).mono ?_); rintro e w' ⟨rfl, rfl⟩))
      | (go_at_call 21; (with_reducible refine (minus_any _ _).mono ?_); rintro e w' ⟨rfl, rfl⟩))
    go_ret2
    refine ⟨wend_ret ?_, rfl⟩
    first
      | (rw [wdiv_pp ha hb na nb]; omega)
      | (rw [wdiv_nn ha hb na nb]; omega)
      | (rw [wdiv_pn ha hb na nb, turned hq])
      | (rw [wdiv_np ha hb na nb, turned hq])
set_option maxHeartbeats 800000 in
theorem ref_rem (a b : Int) (ha : isW a) (hb : isW b) (h0 : ¬ b = 0) (w : World) : Calls Try.prog 12 #[.int .u8 11, .int .u64 a, .int .u64 b] w fun e w' => e = wend (wrem a b) 0 ∧ w = w' := by
  have hb0 : (b == 0) = false := by simpa using h0
  have ra := wabs_range ha
  have rb := wabs_range hb
  have hb1 := wabs_pos hb h0
  have hq := quo_small ra hb1
  have hr := rem_small ra hb1
  cases na : wneg a <;> cases nb : wneg b
  all_goals
    go_enter Try.func12, Try.ntmps12
    go_wp2_with (first
      | (go_at_call 20; first
        | ((with_reducible refine (size_any a ha _).mono ?_); rintro e w' ⟨rfl, rfl⟩)
        | ((with_reducible refine (size_any b hb _).mono ?_); rintro e w' ⟨rfl, rfl⟩))
      | (go_at_call 21; (with_reducible refine (minus_any _ _).mono ?_); rintro e w' ⟨rfl, rfl⟩))
    go_ret2
    refine ⟨wend_ret ?_, rfl⟩
    first
      | (rw [wrem_p ha hb na, rest_eq ra hb1]; omega)
      | (rw [wrem_n ha hb na, rest_eq ra hb1, turned hr])
set_option maxHeartbeats 800000 in
theorem ref_sar (a : Int) (n : Nat) (ha : isW a) (hn : n ≤ 63) (w : World) : Calls Try.prog 12 #[.int .u8 17, .int .u64 a, .int .u64 n] w fun e w' => e = wend (wsar a n) 0 ∧ w = w' := by
  have hp := pow_pos2 n
  have ht := shr_t ha n
  cases na : wneg a
  · go_enter Try.func12, Try.ntmps12
    go_wp2_with (first
      | (go_at_call 22; refine (pow_any n (by omega) _).mono ?_; rintro e w' ⟨rfl, rfl⟩)
      | (go_at_call 21; (with_reducible refine (minus_any _ _).mono ?_); rintro e w' ⟨rfl, rfl⟩))
    go_ret2
    exact ⟨wend_ret (sar_pos ha na n), rfl⟩
  · go_enter Try.func12, Try.ntmps12
    go_wp2_with (first
      | (go_at_call 22; refine (pow_any n (by omega) _).mono ?_; rintro e w' ⟨rfl, rfl⟩)
      | (go_at_call 21; (with_reducible refine (minus_any _ _).mono ?_); rintro e w' ⟨rfl, rfl⟩))
    go_loop [10, 11] (fun v i => ∃ k : Nat, k ≤ n ∧ i = .int .u64 k ∧ v = .int .u64 (sarAcc a n k)) (fun _ i => n - (intOf i).toNat)
    case atStart => exact ⟨0, by omega, rfl, by rw [← sarAcc_zero]⟩
    case round =>
      obtain ⟨k, hk, rfl, rfl⟩ := hrel
      have H := Lib.hid (sarAcc_step ha n k)
      by_cases hlt : k < n
      · go_wp2_with (go_at_call 22; refine (pow_at _ (63 - k) (by omega) (by omega) _).mono ?_; rintro e w' ⟨rfl, rfl⟩)
        go_round
        case rel => exact ⟨k + 1, by omega, by go_num, by rw [H.out hlt hn]⟩
        case measure => simp [intOf]; omega
      · obtain rfl : k = n := by omega
        go_wp2
        go_ret2
        exact ⟨wend_ret (sar_neg ha na k hn), rfl⟩
set_option maxHeartbeats 800000 in
theorem ref_sar_big (a b : Int) (ha : isW a) (hb : 63 < b) (w : World) : Calls Try.prog 12 #[.int .u8 17, .int .u64 a, .int .u64 b] w fun e w' => e = wend (wsar a 63) 0 ∧ w = w' := by
  have hp := pow_pos2 63
  have ht := Lib.hid (shr_t63 ha)
  cases na : wneg a
  · go_enter Try.func12, Try.ntmps12
    go_wp2_with (first
      | (go_at_call 22; refine (pow_at _ 63 rfl (by omega) _).mono ?_; rintro e w' ⟨rfl, rfl⟩)
      | (go_at_call 21; (with_reducible refine (minus_any _ _).mono ?_); rintro e w' ⟨rfl, rfl⟩))
    go_ret2
    exact ⟨wend_ret (ht.out.trans (sar_pos ha na 63)), rfl⟩
  · go_enter Try.func12, Try.ntmps12
    go_wp2_with (first
      | (go_at_call 22; refine (pow_at _ 63 rfl (by omega) _).mono ?_; rintro e w' ⟨rfl, rfl⟩)
      | (go_at_call 21; (with_reducible refine (minus_any _ _).mono ?_); rintro e w' ⟨rfl, rfl⟩))
    go_loop [10, 11] (fun v i => ∃ k : Nat, k ≤ 63 ∧ i = .int .u64 k ∧ v = .int .u64 (sarAcc a 63 k)) (fun _ i => 63 - (intOf i).toNat)
    case atStart => exact ⟨0, by omega, rfl, by rw [← sarAcc_zero, ← ht.out]⟩
    case round =>
      obtain ⟨k, hk, rfl, rfl⟩ := hrel
      have H := Lib.hid (sarAcc_step ha 63 k)
      by_cases hlt : k < 63
      · go_wp2_with (go_at_call 22; refine (pow_at _ (63 - k) (by omega) (by omega) _).mono ?_; rintro e w' ⟨rfl, rfl⟩)
        go_round
        case rel => exact ⟨k + 1, by omega, by go_num, by rw [H.out hlt (by omega)]⟩
        case measure => simp [intOf]; omega
      · obtain rfl : k = 63 := by omega
        go_wp2
        go_ret2
        exact ⟨wend_ret (sar_neg ha na 63 (by omega)), rfl⟩
end Go.Proofs.Ytnjdlcdadaeomaa
