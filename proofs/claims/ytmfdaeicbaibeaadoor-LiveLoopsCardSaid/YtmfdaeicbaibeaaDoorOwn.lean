/-
  Rows of the call's own beside other blocks.
-/
import Derived.Test.YtmfdaeicbaibeaaDoorApp
namespace Go.Proofs.YtmfdaeicbaibeaaDoor
set_option linter.unusedVariables false
open Go.ChangeShapes Go.WideShapes Go.ChangeAt Go.RowKit

theorem own_far {w : World} {base size n p : Nat} {e t : TypeId} {v : Value} {xs : List Value} {cs : Array Value} (h : w.ownsRow base e size v n xs) (hb : Blk w p t cs) (hne : e ≠ t) (i : Nat) (u : Value) : (w.setCell ⟨p, i, none⟩ u).ownsRow base e size v n xs :=
  own_kept h fun j hj => Below.heap_setCell _ _ _ _ fun hij => own_blk_ne h hb hne (by rw [hj, hij])
theorem own_alloc {w : World} {base size n : Nat} {e : TypeId} {v : Value} {xs : List Value} (h : w.ownsRow base e size v n xs) (o : Obj) : (w.alloc o).ownsRow base e size v n xs := h.alloc o
theorem blk_grown {w w' : World} {base size n p : Nat} {e t : TypeId} {v : Value} {xs : List Value} {cs : Array Value} (hb : Blk w p t cs) (h : w.ownsRow base e size v n xs) (hg : w.grownBy w' v.ownBlock) (hne : e ≠ t) : Blk w' p t cs :=
  hb.grown hg fun e' => own_blk_ne h hb hne e'.symm

end Go.Proofs.YtmfdaeicbaibeaaDoor
