/-
  The walk through WordOrders: both orders are transitive, and half a turn apart.
-/
import Derived.Test.YtnjdlcdadaeomaaFirst
namespace Go.Proofs.Ytnjdlcdadaeomaa
open Go.ChangeShapes Go.WideShapes Go.ChangeAt Go.RowKit

set_option maxHeartbeats 1600000 in
theorem orders_walk (a b c : Int) (w : World) (h3 : (wlt a b == wbe (bits BinOp.xor IntKind.u64 a 9223372036854775808) (bits BinOp.xor IntKind.u64 b 9223372036854775808)) = true)
    (l1 : wlt a b ≤ 1) (l2 : wlt b c ≤ 1) (l3 : wlt a c ≤ 1) (lt : ¬ (wlt a b = 1 ∧ wlt b c = 1 ∧ ¬ wlt a c = 1)) (b1 : wbe a b ≤ 1) (b2 : wbe b c ≤ 1) (b3 : wbe a c ≤ 1) (bt : ¬ (wbe a b = 1 ∧ wbe b c = 1 ∧ ¬ wbe a c = 1)) :
    Calls Try.prog 7 #[.int .u64 a, .int .u64 b, .int .u64 c] w fun e w' => e = .returned (.bool true) ∧ Below w.heap.size w w' := by
  have H3 := Lib.hid h3
  have LT := Lib.hid lt
  have BT := Lib.hid bt
  clear h3 lt bt
  go_enter Try.func7, Try.ntmps7
  go_wp2_with (first
    | (go_at_call 10; refine (first_any _).mono ?_; rintro e w1 ⟨rfl, hb⟩)
    | (go_at_call 11; first
      | ((with_reducible refine (do_lt _ _ _).mono ?_); rintro e w' ⟨rfl, rfl⟩; unfold wend)
      | ((with_reducible refine (do_be _ _ _).mono ?_); rintro e w' ⟨rfl, rfl⟩; unfold wend)))
  go_loop [23] (fun n => ∃ k : Nat, k ≤ 2 ∧ n = .int .i64 k) (fun n => 2 - (intOf n).toNat)
  case atStart => exact ⟨0, by omega, rfl⟩
  case round =>
    obtain ⟨k, hk, rfl⟩ := hrel
    obtain rfl | rfl | rfl : k = 0 ∨ k = 1 ∨ k = 2 := by omega
    · have lt := LT.out
      go_wp2_with (first
        | (go_at_call 10; refine (first_any _).mono ?_; rintro e w1 ⟨rfl, hb⟩)
        | (go_at_call 11; first
          | ((with_reducible refine (do_lt _ _ _).mono ?_); rintro e w' ⟨rfl, rfl⟩; unfold wend)
          | ((with_reducible refine (do_be _ _ _).mono ?_); rintro e w' ⟨rfl, rfl⟩; unfold wend)))
      all_goals
        go_round
        case rel => exact ⟨1, by omega, rfl⟩
        case measure => simp [intOf]
    · have bt := BT.out
      go_wp2_with (first
        | (go_at_call 10; refine (first_any _).mono ?_; rintro e w1 ⟨rfl, hb⟩)
        | (go_at_call 11; first
          | ((with_reducible refine (do_lt _ _ _).mono ?_); rintro e w' ⟨rfl, rfl⟩; unfold wend)
          | ((with_reducible refine (do_be _ _ _).mono ?_); rintro e w' ⟨rfl, rfl⟩; unfold wend)))
      all_goals
        go_round
        case rel => exact ⟨2, by omega, rfl⟩
        case measure => simp [intOf]
    · have h3 := H3.out
      go_wp2_with (first
        | (go_at_call 10; refine (first_any _).mono ?_; rintro e w1 ⟨rfl, hb⟩)
        | (go_at_call 11; first
          | ((with_reducible refine (do_lt _ _ _).mono ?_); rintro e w' ⟨rfl, rfl⟩; unfold wend)
          | ((with_reducible refine (do_be _ _ _).mono ?_); rintro e w' ⟨rfl, rfl⟩; unfold wend)))
      go_ret
      exact ⟨rfl, hb.alloc hb.size _⟩
theorem orders_all (a b c : Int) (ha : (Lit.int .u64 a).wf = true) (hb : (Lit.int .u64 b).wf = true) (_hc : (Lit.int .u64 c).wf = true) (w : World) :
    Calls Try.prog 7 #[.int .u64 a, .int .u64 b, .int .u64 c] w fun e w' => e = .returned (.bool true) ∧ Below w.heap.size w w' :=
  orders_walk a b c w (orders3 (isW_of ha) (isW_of hb)) (wlt_le _ _) (wlt_le _ _) (wlt_le _ _) (wlt_trans a b c) (wbe_le _ _) (wbe_le _ _) (wbe_le _ _) (wbe_trans a b c)
end Go.Proofs.Ytnjdlcdadaeomaa
