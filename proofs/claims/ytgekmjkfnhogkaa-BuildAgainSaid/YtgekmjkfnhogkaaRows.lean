/-
  No cell of these rows narrows 'for every input' (looked for: loops, veiled, ifaces, maps, wideKeys, modest, calm, conditions, laid).
  DERIVED. THE GIVEN ROWS OF THIS SEAT. 3 by the template 'for every input the law returns true; each argument reads behind the call as it read before'; 0 by the template 'total and deterministic' (their statements: YtgekmjkfnhogkaaTotals.lean).
  GIVEN WITH THE SEED: the statements are not yours to turn. If you find one false, say at which input.
  Laid BY PROGRAM, IN A SANDBOX (cutbox-rows.mjs): the forced cells as the released guide's own fill.sh prints them over the translation 57458762753cdd91… (all of the seat's roots in one cut). By AI agents, Wed Nov 11 2026. No macro, syntax, notation, axiom, sorry.
-/
import Derived.Test.YtgekmjkfnhogkaaChecked
import GoSem.Claim
import GoSem.ClaimJoined
import GoSem.ClaimMapViews
import Derived.JoinedTies
import Derived.KernelRfl
namespace Go.Proofs.Ytgekmjkfnhogkaa
/- THE CELL 'sum', in the pinned program and in every row, IS THE sha256 OF THE DUMP (.gsa) THAT YtgekmjkfnhogkaaProg.lean LOADS. Nothing in Lean hashes anything: it is a label: what it is worth is what the hold of that sum in a sandbox is worth. -/
noncomputable def Try.pinned : Pinned := { name := "ytgekmjkfnhogkaa", sum := "57458762753cdd91c814f22e13f870959e3530c7abbdd764f507860637a5a9e7", checked := Try.checked }
namespace Rows
def none {H : Type} : Left H := { results := [], args := [] }

/-- 'windlasslaw09.BuildHeads': WHATEVER THE INPUT: true; the input reads as it did. -/
def buildHeadsSpec : ChangeSpec := { name := "buildHeads", fn := fun _ => fun
  | [d] => { results := [.lit (.bool true)], args := [d] }
  | _ => none }
def buildHeadsRow : OpenClaim := { program := "ytgekmjkfnhogkaa", sum := "57458762753cdd91c814f22e13f870959e3530c7abbdd764f507860637a5a9e7", func := "windlass/windlasslaw09.BuildHeads", spec := "buildHeads", unfollowed := true, recurses := true, apart := false }
def BuildHeadsSaid : Prop := buildHeadsRow.holds Try.pinned (OpenSpec.ofChange buildHeadsSpec)

/-- ITS FALSE NEIGHBOUR: 'it returns false'. Refute it at one input. -/
def buildHeadsWrong : ChangeSpec := { name := "buildHeads", fn := fun _ => fun
  | [d] => { results := [.lit (.bool false)], args := [d] }
  | _ => none }
def BuildHeadsWrongFalsely : Prop := buildHeadsRow.holds Try.pinned (OpenSpec.ofChange buildHeadsWrong)

/-- 'windlasslaw09.BuildStraight': WHATEVER THE INPUT: true; the input reads as it did. -/
def buildStraightSpec : ChangeSpec := { name := "buildStraight", fn := fun _ => fun
  | [d] => { results := [.lit (.bool true)], args := [d] }
  | _ => none }
def buildStraightRow : OpenClaim := { program := "ytgekmjkfnhogkaa", sum := "57458762753cdd91c814f22e13f870959e3530c7abbdd764f507860637a5a9e7", func := "windlass/windlasslaw09.BuildStraight", spec := "buildStraight", unfollowed := true, recurses := true, apart := false }
def BuildStraightSaid : Prop := buildStraightRow.holds Try.pinned (OpenSpec.ofChange buildStraightSpec)

/-- ITS FALSE NEIGHBOUR: 'it returns false'. Refute it at one input. -/
def buildStraightWrong : ChangeSpec := { name := "buildStraight", fn := fun _ => fun
  | [d] => { results := [.lit (.bool false)], args := [d] }
  | _ => none }
def BuildStraightWrongFalsely : Prop := buildStraightRow.holds Try.pinned (OpenSpec.ofChange buildStraightWrong)

/-- 'windlasslaw09.BuildAgain': WHATEVER THE INPUT: true; the input reads as it did. -/
def buildAgainSpec : ChangeSpec := { name := "buildAgain", fn := fun _ => fun
  | [d1, d2] => { results := [.lit (.bool true)], args := [d1, d2] }
  | _ => none }
def buildAgainRow : OpenClaim := { program := "ytgekmjkfnhogkaa", sum := "57458762753cdd91c814f22e13f870959e3530c7abbdd764f507860637a5a9e7", func := "windlass/windlasslaw09.BuildAgain", spec := "buildAgain", unfollowed := true, recurses := true, apart := false }
def BuildAgainSaid : Prop := buildAgainRow.holds Try.pinned (OpenSpec.ofChange buildAgainSpec)

/-- ITS FALSE NEIGHBOUR: 'it returns false'. Refute it at one input. -/
def buildAgainWrong : ChangeSpec := { name := "buildAgain", fn := fun _ => fun
  | [d1, d2] => { results := [.lit (.bool false)], args := [d1, d2] }
  | _ => none }
def BuildAgainWrongFalsely : Prop := buildAgainRow.holds Try.pinned (OpenSpec.ofChange buildAgainWrong)

/- THE SECOND FORM. 'bulk': how many values and letters a reading holds, each counted each time it is reached (what is shared counts as often as it is met; a slice's spare places count too). A statement '..UptoSaid' is the law's where the arguments, and the package variables that the reading takes, are together of bulk at most 1048576: NARROWER than '..Said'. Prove '..Said' where nothing that the law and all that it calls make is longer than what came in: it says more and counts as full. Else prove '..UptoSaid'. A law counts once. -/
mutual
def uptoBulk {H : Type} : DataW H → Nat
  | .lit (.string bytes) => bytes.length + 1
  | .lit _ => 1
  | .nil => 1
  | .ptr d => uptoBulk d + 1
  | .slice elems spare => uptoBulkAll elems + uptoBulkAll spare + 1
  | .agg parts => uptoBulkAll parts + 1
  | .iface _ d => uptoBulk d + 1
  | .map entries => uptoBulkEntries entries + 1
  | .held _ => 1
def uptoBulkAll {H : Type} : List (DataW H) → Nat
  | [] => 0
  | d :: r => uptoBulk d + uptoBulkAll r
def uptoBulkEntries {H : Type} : List (Lit × DataW H) → Nat
  | [] => 0
  | x :: r => uptoBulkEntry x + uptoBulkEntries r
def uptoBulkEntry {H : Type} : Lit × DataW H → Nat
  | (.string bytes, d) => bytes.length + uptoBulk d + 1
  | (_, d) => uptoBulk d + 1
 end
def uptoSmall : (H : Type) → List (DataW H) → Bool := fun _ ds => decide (uptoBulkAll ds ≤ 1048576)
def OpenSpec.upto (s : _root_.Go.ChangeSpec) : _root_.Go.OpenSpec := { _root_.Go.OpenSpec.ofChange s with cond := some uptoSmall }

/-- 'windlasslaw09.BuildHeads', WHERE WHAT IT READS IS OF BULK AT MOST 1048576: true; the input reads as it did. -/
def buildHeadsUptoRow : OpenClaim := { program := "ytgekmjkfnhogkaa", sum := "57458762753cdd91c814f22e13f870959e3530c7abbdd764f507860637a5a9e7", func := "windlass/windlasslaw09.BuildHeads", spec := "buildHeads", unfollowed := true, recurses := true, apart := false, narrowed := true }
def BuildHeadsUptoSaid : Prop := buildHeadsUptoRow.holds Try.pinned (OpenSpec.upto buildHeadsSpec)

/-- 'windlasslaw09.BuildStraight', WHERE WHAT IT READS IS OF BULK AT MOST 1048576: true; the input reads as it did. -/
def buildStraightUptoRow : OpenClaim := { program := "ytgekmjkfnhogkaa", sum := "57458762753cdd91c814f22e13f870959e3530c7abbdd764f507860637a5a9e7", func := "windlass/windlasslaw09.BuildStraight", spec := "buildStraight", unfollowed := true, recurses := true, apart := false, narrowed := true }
def BuildStraightUptoSaid : Prop := buildStraightUptoRow.holds Try.pinned (OpenSpec.upto buildStraightSpec)

/-- 'windlasslaw09.BuildAgain', WHERE WHAT IT READS IS OF BULK AT MOST 1048576: true; the input reads as it did. -/
def buildAgainUptoRow : OpenClaim := { program := "ytgekmjkfnhogkaa", sum := "57458762753cdd91c814f22e13f870959e3530c7abbdd764f507860637a5a9e7", func := "windlass/windlasslaw09.BuildAgain", spec := "buildAgain", unfollowed := true, recurses := true, apart := false, narrowed := true }
def BuildAgainUptoSaid : Prop := buildAgainUptoRow.holds Try.pinned (OpenSpec.upto buildAgainSpec)

end Rows
end Go.Proofs.Ytgekmjkfnhogkaa
