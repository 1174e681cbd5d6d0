/-
  The statement's arguments: two numbers; nothing to open but what the library opens.
-/
import Derived.Test.YtfdipemllbgdnaaDoorMem
import Derived.OpenShut
import Derived.ShutString
import Derived.SizedLaws
namespace Go.Proofs.YtfdipemllbgdnaaDoor
open Go.ChangeShapes Go.WideShapes Go.ChangeAt Go.RowKit
theorem opened : True := trivial
end Go.Proofs.YtfdipemllbgdnaaDoor
