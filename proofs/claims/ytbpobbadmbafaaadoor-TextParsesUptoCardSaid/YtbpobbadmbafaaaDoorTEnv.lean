/-
  What the library's and the package's variables hold, whatever is done from some block on.
-/
import Derived.Test.YtbpobbadmbafaaaDoorTGram
import Derived.Test.YtbpobbadmbafaaaDoorMem
import Derived.Lib.LaidTab
import Derived.Shelf.Unicode.DecodeSlow
namespace Go.Proofs.YtbpobbadmbafaaaDoor
set_option linter.unusedVariables false
open Go.ChangeShapes Go.WideShapes Go.ChangeAt Go.RowKit

structure Vars (w : World) : Prop where
  tab : Lib.TabIs Tryd.prog w "internal/strconv.uint64pow10" .u64 Lib.pow10Tab
  syn : ∃ tp p, w.var? Tryd.prog "strconv.ErrSyntax" = some #[.iface tp p]
  rng : ∃ tp p, w.var? Tryd.prog "strconv.ErrRange" = some #[.iface tp p]
  utf : Lib.Utf8Tabs 1 2 w
  nm : ∀ k, k < 33 → w.cell? ⟨0, k, none⟩ = some (.string (str (([] :: nms).getD k [])))
/-- .. whatever is done from block B on -/
def Env (B : Nat) (w : World) : Prop := ∀ w', Below B w w' → Vars w'
theorem Env.here {B : Nat} {w : World} (h : Env B w) : Vars w := h w (Below.refl _ _)
theorem Env.on {B : Nat} {w w' : World} (h : Env B w) (hb : Below B w w') : Env B w' := fun w2 h2 => h w2 (hb.trans h2)
theorem Env.more {B B' : Nat} {w : World} (h : Env B w) (hB : B ≤ B') : Env B' w := fun w2 h2 => h w2 (h2.mono hB)
/-- .. from any world that lies behind by blocks from B on -/
theorem Env.at_ {B B' : Nat} {w w' : World} (h : Env B w) (hb : Below B w w') (hB : B ≤ B') : Env B' w' := (h.on hb).more hB
end Go.Proofs.YtbpobbadmbafaaaDoor
