/-
  Texts of one seat, one behind the other: IResB0.
-/
import Derived.Laws.CopyOwn
import Derived.StillTailTactics
import Derived.Deep.RegionLaw
import Derived.Deep.Cut
import Derived.Deep.DeepCutAuto
import Derived.RegionTactic
import Derived.Test.YtlnccpojldiogaaMEa
import Derived.Test.YtlnccpojldiogaaMBb

/-
  Package irun: resume, read bound.
-/
namespace Go.Proofs.Ytlnccpojldiogaa
set_option linter.unusedVariables false
set_option linter.unusedSimpArgs false
open Go.ChangeShapes Go.WideShapes Go.ChangeAt Go.RowKit

theorem poisoned_lit (w : World) : Calls Try.prog 213 #[] w fun e w' => e = .returned (.agg #[.int .u64 iPoison, .int .u64 iPoison, .int .u64 iPoison, .int .u64 iPoison, .int .u64 iPoison, .int .u64 iPoison, .int .u64 iPoison, .int .u64 iPoison, .int .u64 iPoison, .int .u64 iPoison, .int .u64 iPoison, .int .u64 iPoison, .int .u64 iPoison, .int .u64 iPoison, .int .u64 iPoison, .int .u64 iPoison]) ∧ Below w.heap.size w w' := poisoned_any w
theorem blk_heap {w : World} {z : Nat} {t : TypeId} {l : List Value} (h : Blk w z t l.toArray) : w.heap[z]? = some (.cells l.toArray t (0, 0)) := h
theorem setW_nil' (W : World) (g i : Nat) : setW W g i [] = W := rfl
theorem setW_cons' (W : World) (g i : Nat) (v : Value) (vs : List Value) : setW W g i (v :: vs) = setW (W.setCell ⟨g, i, none⟩ v) g (i + 1) vs := rfl
theorem setW_drew (g : Nat) : ∀ (vs : List Value) (i : Nat) (W : World), setW W.drew g i vs = (setW W g i vs).drew
  | [], _, _ => rfl
  | v :: vs, i, W => setW_drew g vs (i + 1) (W.setCell ⟨g, i, none⟩ v)
end Go.Proofs.Ytlnccpojldiogaa
