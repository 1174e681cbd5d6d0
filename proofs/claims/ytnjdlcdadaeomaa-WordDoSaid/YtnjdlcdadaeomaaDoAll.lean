/-
  The walk through WordDo: what every operation makes of any words is what the document's answer makes.
-/
import Derived.Test.YtnjdlcdadaeomaaRefDo
import Derived.Test.YtnjdlcdadaeomaaShifts
namespace Go.Proofs.Ytnjdlcdadaeomaa
open Go.ChangeShapes Go.WideShapes Go.ChangeAt Go.RowKit

set_option maxRecDepth 100000 in
set_option maxHeartbeats 800000 in
theorem do_other (op a b : Int) (w : World) (h0 : 0 ≤ op ∧ op ≤ 255) (h : op < 7 ∨ 20 < op) : Calls Try.prog 11 #[.int .u8 op, .int .u64 a, .int .u64 b] w fun e w' => e = wend 0 2 ∧ w = w' := by
  rcases h with h | h
  all_goals
    go_enter Try.func11, Try.ntmps11
    go_wp2
    go_ret2
    exact ⟨rfl, rfl⟩
set_option maxRecDepth 100000 in
set_option maxHeartbeats 800000 in
theorem ref_other (op a b : Int) (w : World) (h0 : 0 ≤ op ∧ op ≤ 255) (h : op < 7 ∨ 20 < op) : Calls Try.prog 12 #[.int .u8 op, .int .u64 a, .int .u64 b] w fun e w' => e = wend 0 2 ∧ w = w' := by
  rcases h with h | h
  all_goals
    go_enter Try.func12, Try.ntmps12
    go_wp2
    go_ret2
    exact ⟨rfl, rfl⟩

/-- From the two contracts to the statement's own function. -/
theorem do_same (op a b v e : Int) (w : World)
    (h1 : ∀ w, Calls Try.prog 11 #[.int .u8 op, .int .u64 a, .int .u64 b] w fun x w' => x = wend v e ∧ w = w')
    (h2 : ∀ w, Calls Try.prog 12 #[.int .u8 op, .int .u64 a, .int .u64 b] w fun x w' => x = wend v e ∧ w = w') :
    Calls Try.prog 3 #[.int .u8 op, .int .u64 a, .int .u64 b] w fun e w' => e = .returned (.bool true) ∧ Below w.heap.size w w' := by
  have H1 := Lib.hid h1
  have H2 := Lib.hid h2
  clear h1 h2
  go_enter Try.func3, Try.ntmps3
  go_wp2_with (first
    | (go_at_call 10; refine (first_any _).mono ?_; rintro e w1 ⟨rfl, hb⟩)
    | (go_at_call 11; refine (H1.out _).mono ?_; rintro e w' ⟨rfl, rfl⟩; unfold wend)
    | (go_at_call 12; refine (H2.out _).mono ?_; rintro e w' ⟨rfl, rfl⟩; unfold wend))
  go_ret
  exact ⟨rfl, by assumption⟩

theorem do_all (op a b : Int) (hop : (Lit.int .u8 op).wf = true) (ha : (Lit.int .u64 a).wf = true) (hb : (Lit.int .u64 b).wf = true) (w : World) :
    Calls Try.prog 3 #[.int .u8 op, .int .u64 a, .int .u64 b] w fun e w' => e = .returned (.bool true) ∧ Below w.heap.size w w' := by
  have o0 := u8_of hop
  have wa := isW_of ha
  have wb := isW_of hb
  by_cases ho : op < 7 ∨ 20 < op
  · exact do_same op a b 0 2 w (fun w => do_other op a b w o0 ho) (fun w => ref_other op a b w o0 ho)
  obtain rfl | rfl | rfl | rfl | rfl | rfl | rfl | rfl | rfl | rfl | rfl | rfl | rfl | rfl : op = 7 ∨ op = 8 ∨ op = 9 ∨ op = 10 ∨ op = 11 ∨ op = 12 ∨ op = 13 ∨ op = 14 ∨ op = 15 ∨ op = 16 ∨ op = 17 ∨ op = 18 ∨ op = 19 ∨ op = 20 := by omega
  · exact do_same 7 a b _ _ w (fun w => do_add a b w) (fun w => ref_add a b w)
  · exact do_same 8 a b _ _ w (fun w => do_sub a b w) (fun w => ref_sub a b w wb)
  · exact do_same 9 a b _ _ w (fun w => do_mul a b w) (fun w => ref_mul a b w)
  · by_cases h : b = 0
    · subst h
      exact do_same 10 a 0 _ _ w (fun w => do_div0 a w) (fun w => ref_div0 a w)
    · exact do_same 10 a b _ _ w (fun w => do_div a b w (by simpa using h) (wrap64_ne wb h)) (fun w => ref_div a b wa wb h w)
  · by_cases h : b = 0
    · subst h
      exact do_same 11 a 0 _ _ w (fun w => do_rem0 a w) (fun w => ref_rem0 a w)
    · exact do_same 11 a b _ _ w (fun w => do_rem a b w (by simpa using h) (wrap64_ne wb h)) (fun w => ref_rem a b wa wb h w)
  · exact do_same 12 a b _ _ w (fun w => do_and a b w) (fun w => ref_and a b w)
  · exact do_same 13 a b _ _ w (fun w => do_or a b w) (fun w => ref_or a b w)
  · exact do_same 14 a b _ _ w (fun w => do_xor a b w) (fun w => ref_xor a b w wa wb)
  · by_cases h : 63 < b
    · have e := shl_zero (a := a) h
      exact do_same 15 a b _ _ w (fun w => do_shl a b w wb.1) (fun w => by rw [e]; exact ref_shl_big a b w h)
    · obtain ⟨n, rfl, _⟩ := isW_nat wb
      exact do_same 15 a n _ _ w (fun w => do_shl a n w wb.1) (fun w => ref_shl a n w (by omega))
  · by_cases h : 63 < b
    · have e := shr_zero wa h
      exact do_same 16 a b _ _ w (fun w => do_shr a b w wb.1) (fun w => by rw [e]; exact ref_shr_big a b w h)
    · obtain ⟨n, rfl, _⟩ := isW_nat wb
      exact do_same 16 a n _ _ w (fun w => do_shr a n w wb.1) (fun w => ref_shr a n w wa (by omega))
  · by_cases h : 63 < b
    · have e := sar_big (a := a) h
      exact do_same 17 a b _ _ w (fun w => do_sar a b w wb.1) (fun w => by rw [← e]; exact ref_sar_big a b wa h w)
    · obtain ⟨n, rfl, _⟩ := isW_nat wb
      exact do_same 17 a n _ _ w (fun w => do_sar a n w wb.1) (fun w => ref_sar a n wa (by omega) w)
  · exact do_same 18 a b _ _ w (fun w => do_eq a b w) (fun w => ref_eq a b w)
  · exact do_same 19 a b _ _ w (fun w => do_lt a b w) (fun w => ref_lt a b w)
  · exact do_same 20 a b _ _ w (fun w => do_be a b w) (fun w => ref_be a b w)
end Go.Proofs.Ytnjdlcdadaeomaa
