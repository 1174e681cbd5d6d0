/-
  DERIVED. GIVEN WITH THE SEED: THE CARDS: each row of YtmfdaeicbaibeaaDoorRows.lean that lists a variable, with what it lists TIED to the program's text (the seventh form; the later family's looks); each row that meets fmt, with fmt's text TOLD by the authors' own Lean function (tested against real Go, not proved from fmt's source: count such statements apart). THE CARD IS WHAT COUNTS. Prove the row's statement (the work); the ties are given (YtmfdaeicbaibeaaDoorTie.lean); close each card by the builder's one call (the guide's Derived/Test/ToyasCard.lean, 'card_holds'). Laid BY PROGRAM, IN A SANDBOX (cutbox-door.mjs). By AI agents, Wed Nov 11 2026. No macro, syntax, notation, axiom, sorry.
-/
import Derived.Test.YtmfdaeicbaibeaaDoorRows
import GoSem.ClaimSeven
namespace Go.Proofs.YtmfdaeicbaibeaaDoor
namespace Rows

/-- THE TIED CARD OF 'windlasslaw11.LiveSets'. -/
def liveSetsCard : Claim7 := { stood := { row := liveSetsRow, standIns := [], harness := (true, "12172ba2bc2304fad672042336809f3f921ed2262cee1ba8c07e762cc5b7276f"), looks := false }, kinds := [], alts := [], laidByText := true, laidKinds := [.data], laidTests := true, laidLooks := .later }
def LiveSetsCardSaid : Prop := Claim7.holds Tryd.pinned (.plain (OpenSpec.ofChange liveSetsSpec)) liveSetsCard

/-- THE TIED CARD OF 'windlasslaw11.LiveRest'. -/
def liveRestCard : Claim7 := { stood := { row := liveRestRow, standIns := [], harness := (true, "12172ba2bc2304fad672042336809f3f921ed2262cee1ba8c07e762cc5b7276f"), looks := false }, kinds := [], alts := [], laidByText := true, laidKinds := [.data], laidTests := true, laidLooks := .later }
def LiveRestCardSaid : Prop := Claim7.holds Tryd.pinned (.plain (OpenSpec.ofChange liveRestSpec)) liveRestCard

/-- THE TIED CARD OF 'windlasslaw11.LiveLoops'. -/
def liveLoopsCard : Claim7 := { stood := { row := liveLoopsRow, standIns := [], harness := (true, "12172ba2bc2304fad672042336809f3f921ed2262cee1ba8c07e762cc5b7276f"), looks := false }, kinds := [], alts := [], laidByText := true, laidKinds := [.data], laidTests := true, laidLooks := .later }
def LiveLoopsCardSaid : Prop := Claim7.holds Tryd.pinned (.plain (OpenSpec.ofChange liveLoopsSpec)) liveLoopsCard

/-- THE SECOND FORM's CARD OF 'windlasslaw11.LiveSets'. -/
def liveSetsUptoCard : Claim7 := { stood := { row := liveSetsUptoRow, standIns := [], harness := (true, "12172ba2bc2304fad672042336809f3f921ed2262cee1ba8c07e762cc5b7276f"), looks := false }, kinds := [], alts := [], laidByText := true, laidKinds := [.data], laidTests := true, laidLooks := .later }
def LiveSetsUptoCardSaid : Prop := Claim7.holds Tryd.pinned (.plain (OpenSpec.upto liveSetsSpec)) liveSetsUptoCard

/-- THE SECOND FORM's CARD OF 'windlasslaw11.LiveRest'. -/
def liveRestUptoCard : Claim7 := { stood := { row := liveRestUptoRow, standIns := [], harness := (true, "12172ba2bc2304fad672042336809f3f921ed2262cee1ba8c07e762cc5b7276f"), looks := false }, kinds := [], alts := [], laidByText := true, laidKinds := [.data], laidTests := true, laidLooks := .later }
def LiveRestUptoCardSaid : Prop := Claim7.holds Tryd.pinned (.plain (OpenSpec.upto liveRestSpec)) liveRestUptoCard

/-- THE SECOND FORM's CARD OF 'windlasslaw11.LiveLoops'. -/
def liveLoopsUptoCard : Claim7 := { stood := { row := liveLoopsUptoRow, standIns := [], harness := (true, "12172ba2bc2304fad672042336809f3f921ed2262cee1ba8c07e762cc5b7276f"), looks := false }, kinds := [], alts := [], laidByText := true, laidKinds := [.data], laidTests := true, laidLooks := .later }
def LiveLoopsUptoCardSaid : Prop := Claim7.holds Tryd.pinned (.plain (OpenSpec.upto liveLoopsSpec)) liveLoopsUptoCard
end Rows
end Go.Proofs.YtmfdaeicbaibeaaDoor
