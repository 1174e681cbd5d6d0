/-
  The walk through WordShifts: shifts one behind the other, and what was shifted out.
-/
import Derived.Test.YtnjdlcdadaeomaaFirst
namespace Go.Proofs.Ytnjdlcdadaeomaa
open Go.ChangeShapes Go.WideShapes Go.ChangeAt Go.RowKit

set_option maxHeartbeats 1600000 in
theorem shifts_walk (a n m : Int) (w : World) (hn : 0 ≤ n ∧ n ≤ 255) (hm : 0 ≤ m ∧ m ≤ 255)
    (h1 : (wshl (wshl a (n % 70)) (m % 70) != wshl a (n % 70 + m % 70)) = false) (h2 : (wshr (wshr a (n % 70)) (m % 70) != wshr a (n % 70 + m % 70)) = false) (h3 : (wsar (wsar a (n % 70)) (m % 70) != wsar a (n % 70 + m % 70)) = false)
    (h4 : 63 < n % 70 → wshl a (n % 70) = 0 ∧ wshr 0 (n % 70) = 0) (h5 : n % 70 ≤ 63 → (wshr (wshl a (n % 70)) (n % 70) == bits BinOp.and IntKind.u64 a (18446744073709551615 / 2 ^ (n % 70).toNat)) = true) :
    Calls Try.prog 6 #[.int .u64 a, .int .u8 n, .int .u8 m] w fun e w' => e = .returned (.bool true) ∧ Below w.heap.size w w' := by
  have H1 := Lib.hid h1
  have H2 := Lib.hid h2
  have H3 := Lib.hid h3
  have H4 := Lib.hid h4
  have H5 := Lib.hid h5
  clear h1 h2 h3 h4 h5
  go_enter Try.func6, Try.ntmps6
  go_wp2_with (first
    | (go_at_call 10; refine (first_any _).mono ?_; rintro e w1 ⟨rfl, hb⟩)
    | (go_at_call 11; first
      | ((with_reducible refine (do_shl _ _ _ (by omega)).mono ?_); rintro e w' ⟨rfl, rfl⟩; unfold wend)
      | ((with_reducible refine (do_shr _ _ _ (by omega)).mono ?_); rintro e w' ⟨rfl, rfl⟩; unfold wend)
      | ((with_reducible refine (do_sar _ _ _ (by omega)).mono ?_); rintro e w' ⟨rfl, rfl⟩; unfold wend)))
  go_loop [31] (fun n => ∃ k : Nat, k ≤ 3 ∧ n = .int .i64 k) (fun n => 3 - (intOf n).toNat)
  case atStart => exact ⟨0, by omega, rfl⟩
  case round =>
    obtain ⟨k, hk, rfl⟩ := hrel
    obtain rfl | rfl | rfl | rfl : k = 0 ∨ k = 1 ∨ k = 2 ∨ k = 3 := by omega
    · have h1 := H1.out
      go_wp2_with (first
        | (go_at_call 10; refine (first_any _).mono ?_; rintro e w1 ⟨rfl, hb⟩)
        | (go_at_call 11; first
          | ((with_reducible refine (do_shl _ _ _ (by omega)).mono ?_); rintro e w' ⟨rfl, rfl⟩; unfold wend)
          | ((with_reducible refine (do_shr _ _ _ (by omega)).mono ?_); rintro e w' ⟨rfl, rfl⟩; unfold wend)
          | ((with_reducible refine (do_sar _ _ _ (by omega)).mono ?_); rintro e w' ⟨rfl, rfl⟩; unfold wend)))
      all_goals
        go_round
        case rel => exact ⟨1, by omega, rfl⟩
        case measure => simp [intOf]
    · have h1 := H2.out
      go_wp2_with (first
        | (go_at_call 10; refine (first_any _).mono ?_; rintro e w1 ⟨rfl, hb⟩)
        | (go_at_call 11; first
          | ((with_reducible refine (do_shl _ _ _ (by omega)).mono ?_); rintro e w' ⟨rfl, rfl⟩; unfold wend)
          | ((with_reducible refine (do_shr _ _ _ (by omega)).mono ?_); rintro e w' ⟨rfl, rfl⟩; unfold wend)
          | ((with_reducible refine (do_sar _ _ _ (by omega)).mono ?_); rintro e w' ⟨rfl, rfl⟩; unfold wend)))
      all_goals
        go_round
        case rel => exact ⟨2, by omega, rfl⟩
        case measure => simp [intOf]
    · have h1 := H3.out
      go_wp2_with (first
        | (go_at_call 10; refine (first_any _).mono ?_; rintro e w1 ⟨rfl, hb⟩)
        | (go_at_call 11; first
          | ((with_reducible refine (do_shl _ _ _ (by omega)).mono ?_); rintro e w' ⟨rfl, rfl⟩; unfold wend)
          | ((with_reducible refine (do_shr _ _ _ (by omega)).mono ?_); rintro e w' ⟨rfl, rfl⟩; unfold wend)
          | ((with_reducible refine (do_sar _ _ _ (by omega)).mono ?_); rintro e w' ⟨rfl, rfl⟩; unfold wend)))
      all_goals
        go_round
        case rel => exact ⟨3, by omega, rfl⟩
        case measure => simp [intOf]
    · by_cases hx : 63 < n % 70
      · obtain ⟨e1, e2⟩ := H4.out hx
        go_wp2_with (first
          | (go_at_call 10; refine (first_any _).mono ?_; rintro e w1 ⟨rfl, hb⟩)
          | (go_at_call 11; first
            | ((with_reducible refine (do_shl _ _ _ (by omega)).mono ?_); rintro e w' ⟨rfl, rfl⟩; unfold wend)
            | ((with_reducible refine (do_shr _ _ _ (by omega)).mono ?_); rintro e w' ⟨rfl, rfl⟩; unfold wend)
            | ((with_reducible refine (do_sar _ _ _ (by omega)).mono ?_); rintro e w' ⟨rfl, rfl⟩; unfold wend)))
        go_ret
        exact ⟨rfl, hb.alloc hb.size _⟩
      · have h1 := H5.out (by omega)
        go_wp2_with (first
          | (go_at_call 10; refine (first_any _).mono ?_; rintro e w1 ⟨rfl, hb⟩)
          | (go_at_call 11; first
            | ((with_reducible refine (do_shl _ _ _ (by omega)).mono ?_); rintro e w' ⟨rfl, rfl⟩; unfold wend)
            | ((with_reducible refine (do_shr _ _ _ (by omega)).mono ?_); rintro e w' ⟨rfl, rfl⟩; unfold wend)
            | ((with_reducible refine (do_sar _ _ _ (by omega)).mono ?_); rintro e w' ⟨rfl, rfl⟩; unfold wend)))
        go_ret
        exact ⟨rfl, hb.alloc hb.size _⟩
theorem u8_of {a : Int} (h : (Lit.int .u8 a).wf = true) : 0 ≤ a ∧ a ≤ 255 := by
  simp [Lit.wf, IntKind.min, IntKind.max, IntKind.signed, IntKind.bits] at h
  omega
theorem shifts_all (a n m : Int) (ha : (Lit.int .u64 a).wf = true) (hn : (Lit.int .u8 n).wf = true) (hm : (Lit.int .u8 m).wf = true) (w : World) :
    Calls Try.prog 6 #[.int .u64 a, .int .u8 n, .int .u8 m] w fun e w' => e = .returned (.bool true) ∧ Below w.heap.size w w' := by
  have wa := isW_of ha
  have n0 := u8_of hn
  have m0 := u8_of hm
  obtain ⟨p, hp⟩ : ∃ p : Nat, n % 70 = p := ⟨(n % 70).toNat, by omega⟩
  obtain ⟨q, hq⟩ : ∃ q : Nat, m % 70 = q := ⟨(m % 70).toNat, by omega⟩
  refine shifts_walk a n m w n0 m0 ?_ ?_ ?_ ?_ ?_
  · rw [hp, hq, shl_shl]; simp
  · rw [hp, hq, shr_shr wa]; simp
  · rw [hp, hq, sar_sar]; simp
  · intro h
    rw [hp] at h ⊢
    exact ⟨shl_big a p (by omega), by rw [shr_any ⟨by omega, by omega⟩]; exact Int.zero_ediv _⟩
  · intro h
    rw [hp] at h ⊢
    exact shl_shr wa p (by omega)
end Go.Proofs.Ytnjdlcdadaeomaa
