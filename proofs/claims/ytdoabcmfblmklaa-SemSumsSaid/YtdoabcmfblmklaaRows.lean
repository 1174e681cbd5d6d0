/-
  No cell of these rows narrows 'for every input' (looked for: loops, veiled, ifaces, maps, wideKeys, modest, calm, conditions, laid).
  DERIVED. THE GIVEN ROWS OF THIS SEAT. 5 by the template 'for every input the law returns true; each argument reads behind the call as it read before'; 0 by the template 'total and deterministic' (their statements: YtdoabcmfblmklaaTotals.lean).
  GIVEN WITH THE SEED: the statements are not yours to turn. If you find one false, say at which input.
  Laid BY PROGRAM, IN A SANDBOX (cutbox-rows.mjs): the forced cells as the released guide's own fill.sh prints them over the translation d0baf4255082e97e… (all of the seat's roots in one cut). By AI agents, Wed Nov 11 2026. No macro, syntax, notation, axiom, sorry.
-/
import Derived.Test.YtdoabcmfblmklaaChecked
import GoSem.Claim
import GoSem.ClaimJoined
import GoSem.ClaimMapViews
import Derived.JoinedTies
import Derived.KernelRfl
namespace Go.Proofs.Ytdoabcmfblmklaa
/- THE CELL 'sum', in the pinned program and in every row, IS THE sha256 OF THE DUMP (.gsa) THAT YtdoabcmfblmklaaProg.lean LOADS. Nothing in Lean hashes anything: it is a label: what it is worth is what the hold of that sum in a sandbox is worth. -/
noncomputable def Try.pinned : Pinned := { name := "ytdoabcmfblmklaa", sum := "d0baf4255082e97e4505e41c6d05b78f7fe5084dcdfda6324c77f549175b2c00", checked := Try.checked }
namespace Rows
def none {H : Type} : Left H := { results := [], args := [] }

/-- 'windlasslaw06.SemFuel': WHATEVER THE INPUT: true; the input reads as it did. -/
def semFuelSpec : ChangeSpec := { name := "semFuel", fn := fun _ => fun
  | [d1, d2, d3] => { results := [.lit (.bool true)], args := [d1, d2, d3] }
  | _ => none }
def semFuelRow : OpenClaim := { program := "ytdoabcmfblmklaa", sum := "d0baf4255082e97e4505e41c6d05b78f7fe5084dcdfda6324c77f549175b2c00", func := "windlass/windlasslaw06.SemFuel", spec := "semFuel", unfollowed := true, recurses := true, apart := false }
def SemFuelSaid : Prop := semFuelRow.holds Try.pinned (OpenSpec.ofChange semFuelSpec)

/-- ITS FALSE NEIGHBOUR: 'it returns false'. Refute it at one input. -/
def semFuelWrong : ChangeSpec := { name := "semFuel", fn := fun _ => fun
  | [d1, d2, d3] => { results := [.lit (.bool false)], args := [d1, d2, d3] }
  | _ => none }
def SemFuelWrongFalsely : Prop := semFuelRow.holds Try.pinned (OpenSpec.ofChange semFuelWrong)

/-- 'windlasslaw06.SemOrder': WHATEVER THE INPUT: true; the input reads as it did. -/
def semOrderSpec : ChangeSpec := { name := "semOrder", fn := fun _ => fun
  | [d1, d2] => { results := [.lit (.bool true)], args := [d1, d2] }
  | _ => none }
def semOrderRow : OpenClaim := { program := "ytdoabcmfblmklaa", sum := "d0baf4255082e97e4505e41c6d05b78f7fe5084dcdfda6324c77f549175b2c00", func := "windlass/windlasslaw06.SemOrder", spec := "semOrder", unfollowed := true, recurses := true, apart := false }
def SemOrderSaid : Prop := semOrderRow.holds Try.pinned (OpenSpec.ofChange semOrderSpec)

/-- ITS FALSE NEIGHBOUR: 'it returns false'. Refute it at one input. -/
def semOrderWrong : ChangeSpec := { name := "semOrder", fn := fun _ => fun
  | [d1, d2] => { results := [.lit (.bool false)], args := [d1, d2] }
  | _ => none }
def SemOrderWrongFalsely : Prop := semOrderRow.holds Try.pinned (OpenSpec.ofChange semOrderWrong)

/-- 'windlasslaw06.SemSums': WHATEVER THE INPUT: true; the input reads as it did. -/
def semSumsSpec : ChangeSpec := { name := "semSums", fn := fun _ => fun
  | [d1, d2] => { results := [.lit (.bool true)], args := [d1, d2] }
  | _ => none }
def semSumsRow : OpenClaim := { program := "ytdoabcmfblmklaa", sum := "d0baf4255082e97e4505e41c6d05b78f7fe5084dcdfda6324c77f549175b2c00", func := "windlass/windlasslaw06.SemSums", spec := "semSums", unfollowed := true, recurses := true, apart := false }
def SemSumsSaid : Prop := semSumsRow.holds Try.pinned (OpenSpec.ofChange semSumsSpec)

/-- ITS FALSE NEIGHBOUR: 'it returns false'. Refute it at one input. -/
def semSumsWrong : ChangeSpec := { name := "semSums", fn := fun _ => fun
  | [d1, d2] => { results := [.lit (.bool false)], args := [d1, d2] }
  | _ => none }
def SemSumsWrongFalsely : Prop := semSumsRow.holds Try.pinned (OpenSpec.ofChange semSumsWrong)

/-- 'windlasslaw06.SemDepth': WHATEVER THE INPUT: true; the input reads as it did. -/
def semDepthSpec : ChangeSpec := { name := "semDepth", fn := fun _ => fun
  | [d] => { results := [.lit (.bool true)], args := [d] }
  | _ => none }
def semDepthRow : OpenClaim := { program := "ytdoabcmfblmklaa", sum := "d0baf4255082e97e4505e41c6d05b78f7fe5084dcdfda6324c77f549175b2c00", func := "windlass/windlasslaw06.SemDepth", spec := "semDepth", unfollowed := true, recurses := true, apart := false }
def SemDepthSaid : Prop := semDepthRow.holds Try.pinned (OpenSpec.ofChange semDepthSpec)

/-- ITS FALSE NEIGHBOUR: 'it returns false'. Refute it at one input. -/
def semDepthWrong : ChangeSpec := { name := "semDepth", fn := fun _ => fun
  | [d] => { results := [.lit (.bool false)], args := [d] }
  | _ => none }
def SemDepthWrongFalsely : Prop := semDepthRow.holds Try.pinned (OpenSpec.ofChange semDepthWrong)

/-- 'windlasslaw06.SemChain': WHATEVER THE INPUT: true; the input reads as it did. -/
def semChainSpec : ChangeSpec := { name := "semChain", fn := fun _ => fun
  | [d] => { results := [.lit (.bool true)], args := [d] }
  | _ => none }
def semChainRow : OpenClaim := { program := "ytdoabcmfblmklaa", sum := "d0baf4255082e97e4505e41c6d05b78f7fe5084dcdfda6324c77f549175b2c00", func := "windlass/windlasslaw06.SemChain", spec := "semChain", unfollowed := true, recurses := true, apart := false }
def SemChainSaid : Prop := semChainRow.holds Try.pinned (OpenSpec.ofChange semChainSpec)

/-- ITS FALSE NEIGHBOUR: 'it returns false'. Refute it at one input. -/
def semChainWrong : ChangeSpec := { name := "semChain", fn := fun _ => fun
  | [d] => { results := [.lit (.bool false)], args := [d] }
  | _ => none }
def SemChainWrongFalsely : Prop := semChainRow.holds Try.pinned (OpenSpec.ofChange semChainWrong)

/- THE SECOND FORM. 'bulk': how many values and letters a reading holds, each counted each time it is reached (what is shared counts as often as it is met; a slice's spare places count too). A statement '..UptoSaid' is the law's where the arguments, and the package variables that the reading takes, are together of bulk at most 1048576: NARROWER than '..Said'. Prove '..Said' where nothing that the law and all that it calls make is longer than what came in: it says more and counts as full. Else prove '..UptoSaid'. A law counts once. -/
mutual
def uptoBulk {H : Type} : DataW H → Nat
  | .lit (.string bytes) => bytes.length + 1
  | .lit _ => 1
  | .nil => 1
  | .ptr d => uptoBulk d + 1
  | .slice elems spare => uptoBulkAll elems + uptoBulkAll spare + 1
  | .agg parts => uptoBulkAll parts + 1
  | .iface _ d => uptoBulk d + 1
  | .map entries => uptoBulkEntries entries + 1
  | .held _ => 1
def uptoBulkAll {H : Type} : List (DataW H) → Nat
  | [] => 0
  | d :: r => uptoBulk d + uptoBulkAll r
def uptoBulkEntries {H : Type} : List (Lit × DataW H) → Nat
  | [] => 0
  | x :: r => uptoBulkEntry x + uptoBulkEntries r
def uptoBulkEntry {H : Type} : Lit × DataW H → Nat
  | (.string bytes, d) => bytes.length + uptoBulk d + 1
  | (_, d) => uptoBulk d + 1
 end
def uptoSmall : (H : Type) → List (DataW H) → Bool := fun _ ds => decide (uptoBulkAll ds ≤ 1048576)
def OpenSpec.upto (s : _root_.Go.ChangeSpec) : _root_.Go.OpenSpec := { _root_.Go.OpenSpec.ofChange s with cond := some uptoSmall }

/-- 'windlasslaw06.SemFuel', WHERE WHAT IT READS IS OF BULK AT MOST 1048576: true; the input reads as it did. -/
def semFuelUptoRow : OpenClaim := { program := "ytdoabcmfblmklaa", sum := "d0baf4255082e97e4505e41c6d05b78f7fe5084dcdfda6324c77f549175b2c00", func := "windlass/windlasslaw06.SemFuel", spec := "semFuel", unfollowed := true, recurses := true, apart := false, narrowed := true }
def SemFuelUptoSaid : Prop := semFuelUptoRow.holds Try.pinned (OpenSpec.upto semFuelSpec)

/-- 'windlasslaw06.SemOrder', WHERE WHAT IT READS IS OF BULK AT MOST 1048576: true; the input reads as it did. -/
def semOrderUptoRow : OpenClaim := { program := "ytdoabcmfblmklaa", sum := "d0baf4255082e97e4505e41c6d05b78f7fe5084dcdfda6324c77f549175b2c00", func := "windlass/windlasslaw06.SemOrder", spec := "semOrder", unfollowed := true, recurses := true, apart := false, narrowed := true }
def SemOrderUptoSaid : Prop := semOrderUptoRow.holds Try.pinned (OpenSpec.upto semOrderSpec)

/-- 'windlasslaw06.SemSums', WHERE WHAT IT READS IS OF BULK AT MOST 1048576: true; the input reads as it did. -/
def semSumsUptoRow : OpenClaim := { program := "ytdoabcmfblmklaa", sum := "d0baf4255082e97e4505e41c6d05b78f7fe5084dcdfda6324c77f549175b2c00", func := "windlass/windlasslaw06.SemSums", spec := "semSums", unfollowed := true, recurses := true, apart := false, narrowed := true }
def SemSumsUptoSaid : Prop := semSumsUptoRow.holds Try.pinned (OpenSpec.upto semSumsSpec)

/-- 'windlasslaw06.SemDepth', WHERE WHAT IT READS IS OF BULK AT MOST 1048576: true; the input reads as it did. -/
def semDepthUptoRow : OpenClaim := { program := "ytdoabcmfblmklaa", sum := "d0baf4255082e97e4505e41c6d05b78f7fe5084dcdfda6324c77f549175b2c00", func := "windlass/windlasslaw06.SemDepth", spec := "semDepth", unfollowed := true, recurses := true, apart := false, narrowed := true }
def SemDepthUptoSaid : Prop := semDepthUptoRow.holds Try.pinned (OpenSpec.upto semDepthSpec)

/-- 'windlasslaw06.SemChain', WHERE WHAT IT READS IS OF BULK AT MOST 1048576: true; the input reads as it did. -/
def semChainUptoRow : OpenClaim := { program := "ytdoabcmfblmklaa", sum := "d0baf4255082e97e4505e41c6d05b78f7fe5084dcdfda6324c77f549175b2c00", func := "windlass/windlasslaw06.SemChain", spec := "semChain", unfollowed := true, recurses := true, apart := false, narrowed := true }
def SemChainUptoSaid : Prop := semChainUptoRow.holds Try.pinned (OpenSpec.upto semChainSpec)

end Rows
end Go.Proofs.Ytdoabcmfblmklaa
