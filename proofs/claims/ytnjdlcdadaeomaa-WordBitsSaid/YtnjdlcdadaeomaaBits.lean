/-
  The walk through WordBits: how and, or and exclusive or hang together.
-/
import Derived.Test.YtnjdlcdadaeomaaFirst
namespace Go.Proofs.Ytnjdlcdadaeomaa
open Go.ChangeShapes Go.WideShapes Go.ChangeAt Go.RowKit

set_option maxHeartbeats 800000 in
theorem bits_walk (a b : Int) (w : World) (h1 : (wadd a b == wadd (wand a b) (wor a b)) = true) (h2 : (wxor (wxor a b) b == a) = true) (h3 : (wsub (wor a b) (wand a b) == wxor a b) = true) (h4 : (bits BinOp.and IntKind.u64 (wand a b) (wxor a b) == 0) = true) :
    Calls Try.prog 8 #[.int .u64 a, .int .u64 b] w fun e w' => e = .returned (.bool true) ∧ Below w.heap.size w w' := by
  go_enter Try.func8, Try.ntmps8
  go_wp2_with (first
    | (go_at_call 10; refine (first_any _).mono ?_; rintro e w1 ⟨rfl, hb⟩)
    | (go_at_call 11; first
      | ((with_reducible refine (do_and _ _ _).mono ?_); rintro e w' ⟨rfl, rfl⟩; unfold wend)
      | ((with_reducible refine (do_or _ _ _).mono ?_); rintro e w' ⟨rfl, rfl⟩; unfold wend)
      | ((with_reducible refine (do_xor _ _ _).mono ?_); rintro e w' ⟨rfl, rfl⟩; unfold wend)
      | ((with_reducible refine (do_add _ _ _).mono ?_); rintro e w' ⟨rfl, rfl⟩; unfold wend)
      | ((with_reducible refine (do_sub _ _ _).mono ?_); rintro e w' ⟨rfl, rfl⟩; unfold wend)))
  go_ret
  exact ⟨rfl, by assumption⟩
theorem bits_all (a b : Int) (ha : (Lit.int .u64 a).wf = true) (hb : (Lit.int .u64 b).wf = true) (w : World) :
    Calls Try.prog 8 #[.int .u64 a, .int .u64 b] w fun e w' => e = .returned (.bool true) ∧ Below w.heap.size w w' :=
  bits_walk a b w (bits1 (isW_of ha) (isW_of hb)) (bits2 (isW_of ha) (isW_of hb)) (bits3 (isW_of ha) (isW_of hb)) (bits4 (isW_of ha) (isW_of hb))
end Go.Proofs.Ytnjdlcdadaeomaa
