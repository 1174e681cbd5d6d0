/-
  Texts of one seat, one behind the other: IFuelF.
-/
import Derived.Test.YtlnccpojldiogaaMDe
import Derived.Test.YtlnccpojldiogaaMCm

/-
  IrunFuel: the walk, all together.
-/
namespace Go.Proofs.Ytlnccpojldiogaa
set_option linter.unusedVariables false
open Go.ChangeShapes Go.WideShapes Go.ChangeAt Go.RowKit

theorem moveOK_free : MoveOK false := fun _ _ _ _ _ _ _ _ _ _ _ _ _ _ _ _ _ _ _ h hf hr hN hb hop hp pd => exe_move_F h hf hr hN hb hop hp pd
theorem fuel_all (n c : Nat) (A : Option Addr) (rs : List RG) (ta : Option Addr) (nt ct : Nat) (tape : List Int) (x y : Int) (w : World) (h : RdP w w.heap.size A n rs) (ht : Reads w w.heap.size 1 ta nt (u64c tape)) (hnt : nt * 8 ≤ 140737488351232) (htw : ∀ v ∈ tape, isW v) (hx : -9223372036854775808 ≤ x ∧ x ≤ 9223372036854775807) (hy : -9223372036854775808 ≤ y ∧ y ≤ 9223372036854775807) :
    Calls Try.prog 3 #[.agg #[.slice A n c], .slice ta nt ct, .agg #[.int .i64 x, .int .i64 y]] w fun e w' => e = .returned (.bool true) ∧ Below w.heap.size w w' := fuel_walk moveOK_free n c A rs ta nt ct tape x y w h ht hnt htw hx hy
end Go.Proofs.Ytlnccpojldiogaa
