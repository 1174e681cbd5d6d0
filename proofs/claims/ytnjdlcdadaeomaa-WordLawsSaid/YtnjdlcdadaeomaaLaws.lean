/-
  The walk through WordLaws: sums and differences, quotients and rests, the two orders.
-/
import Derived.Test.YtnjdlcdadaeomaaFirst
namespace Go.Proofs.Ytnjdlcdadaeomaa
open Go.ChangeShapes Go.WideShapes Go.ChangeAt Go.RowKit

set_option maxHeartbeats 1600000 in
theorem laws_zero (a : Int) (w : World) (h1 : (wsub (wadd a 0) 0 != a) = false) (o1 : (IntKind.u64.wrap (IntKind.u64.wrap (wlt a 0 + wlt 0 a) + weq a 0) != 1) = false) (o2 : (IntKind.u64.wrap (IntKind.u64.wrap (wbe a 0 + wbe 0 a) + weq a 0) != 1) = false) :
    Calls Try.prog 4 #[.int .u64 a, .int .u64 0] w fun e w' => e = .returned (.bool true) ∧ Below w.heap.size w w' := by
  go_enter Try.func4, Try.ntmps4
  go_wp2_with (first
    | (go_at_call 10; refine (first_any _).mono ?_; rintro e w1 ⟨rfl, hb⟩)
    | (go_at_call 11; first
      | ((with_reducible refine (do_and _ _ _).mono ?_); rintro e w' ⟨rfl, rfl⟩; unfold wend)
      | ((with_reducible refine (do_or _ _ _).mono ?_); rintro e w' ⟨rfl, rfl⟩; unfold wend)
      | ((with_reducible refine (do_xor _ _ _).mono ?_); rintro e w' ⟨rfl, rfl⟩; unfold wend)
      | ((with_reducible refine (do_add _ _ _).mono ?_); rintro e w' ⟨rfl, rfl⟩; unfold wend)
      | ((with_reducible refine (do_sub _ _ _).mono ?_); rintro e w' ⟨rfl, rfl⟩; unfold wend)
      | ((with_reducible refine (do_mul _ _ _).mono ?_); rintro e w' ⟨rfl, rfl⟩; unfold wend)
      | ((with_reducible refine (do_eq _ _ _).mono ?_); rintro e w' ⟨rfl, rfl⟩; unfold wend)
      | ((with_reducible refine (do_lt _ _ _).mono ?_); rintro e w' ⟨rfl, rfl⟩; unfold wend)
      | ((with_reducible refine (do_be _ _ _).mono ?_); rintro e w' ⟨rfl, rfl⟩; unfold wend)
      | ((with_reducible refine (do_div0 _ _).mono ?_); rintro e w' ⟨rfl, rfl⟩; unfold wend)
      | ((with_reducible refine (do_rem0 _ _).mono ?_); rintro e w' ⟨rfl, rfl⟩; unfold wend)))
  go_ret
  exact ⟨rfl, by assumption⟩

set_option maxHeartbeats 1600000 in
theorem laws_walk (a b : Int) (w : World) (hb0 : (b == 0) = false) (hb1 : ¬ wrap64 b = 0) (h1 : (wsub (wadd a b) b != a) = false) (o1 : (IntKind.u64.wrap (IntKind.u64.wrap (wlt a b + wlt b a) + weq a b) != 1) = false) (o2 : (IntKind.u64.wrap (IntKind.u64.wrap (wbe a b + wbe b a) + weq a b) != 1) = false) (h2 : (wadd (wmul (wdiv a b) b) (wrem a b) == a) = true) :
    Calls Try.prog 4 #[.int .u64 a, .int .u64 b] w fun e w' => e = .returned (.bool true) ∧ Below w.heap.size w w' := by
  go_enter Try.func4, Try.ntmps4
  go_wp2_with (first
    | (go_at_call 10; refine (first_any _).mono ?_; rintro e w1 ⟨rfl, hb⟩)
    | (go_at_call 11; first
      | ((with_reducible refine (do_and _ _ _).mono ?_); rintro e w' ⟨rfl, rfl⟩; unfold wend)
      | ((with_reducible refine (do_or _ _ _).mono ?_); rintro e w' ⟨rfl, rfl⟩; unfold wend)
      | ((with_reducible refine (do_xor _ _ _).mono ?_); rintro e w' ⟨rfl, rfl⟩; unfold wend)
      | ((with_reducible refine (do_add _ _ _).mono ?_); rintro e w' ⟨rfl, rfl⟩; unfold wend)
      | ((with_reducible refine (do_sub _ _ _).mono ?_); rintro e w' ⟨rfl, rfl⟩; unfold wend)
      | ((with_reducible refine (do_mul _ _ _).mono ?_); rintro e w' ⟨rfl, rfl⟩; unfold wend)
      | ((with_reducible refine (do_eq _ _ _).mono ?_); rintro e w' ⟨rfl, rfl⟩; unfold wend)
      | ((with_reducible refine (do_lt _ _ _).mono ?_); rintro e w' ⟨rfl, rfl⟩; unfold wend)
      | ((with_reducible refine (do_be _ _ _).mono ?_); rintro e w' ⟨rfl, rfl⟩; unfold wend)
      | ((with_reducible refine (do_div _ _ _ hb0 hb1).mono ?_); rintro e w' ⟨rfl, rfl⟩; unfold wend)
      | ((with_reducible refine (do_rem _ _ _ hb0 hb1).mono ?_); rintro e w' ⟨rfl, rfl⟩; unfold wend)))
  go_ret
  exact ⟨rfl, by assumption⟩
theorem laws_all (a b : Int) (ha : (Lit.int .u64 a).wf = true) (hb : (Lit.int .u64 b).wf = true) (w : World) :
    Calls Try.prog 4 #[.int .u64 a, .int .u64 b] w fun e w' => e = .returned (.bool true) ∧ Below w.heap.size w w' := by
  have wa := isW_of ha
  have wb := isW_of hb
  by_cases h : b = 0
  · subst h
    exact laws_zero a w (laws1 wa wb) (laws3 wa wb) (laws4 a 0)
  · exact laws_walk a b w (by simpa using h) (wrap64_ne wb h) (laws1 wa wb) (laws3 wa wb) (laws4 a b) (laws2 wa)
end Go.Proofs.Ytnjdlcdadaeomaa
