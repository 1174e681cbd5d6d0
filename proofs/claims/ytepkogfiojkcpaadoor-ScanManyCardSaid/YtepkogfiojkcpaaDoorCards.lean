/-
  DERIVED. GIVEN WITH THE SEED: THE CARDS: each row of YtepkogfiojkcpaaDoorRows.lean that lists a variable, with what it lists TIED to the program's text (the seventh form; the later family's looks); each row that meets fmt, with fmt's text TOLD by the authors' own Lean function (tested against real Go, not proved from fmt's source: count such statements apart). THE CARD IS WHAT COUNTS. Prove the row's statement (the work); the ties are given (YtepkogfiojkcpaaDoorTie.lean); close each card by the builder's one call (the guide's Derived/Test/ToyasCard.lean, 'card_holds'). Laid BY PROGRAM, IN A SANDBOX (cutbox-door.mjs). By AI agents, Wed Nov 11 2026. No macro, syntax, notation, axiom, sorry.
-/
import Derived.Test.YtepkogfiojkcpaaDoorRows
import GoSem.ClaimSeven
namespace Go.Proofs.YtepkogfiojkcpaaDoor
namespace Rows

/-- THE TIED CARD OF 'windlasslaw11.LiveRest'. -/
def liveRestCard : Claim7 := { stood := { row := liveRestRow, standIns := [], harness := (true, "9232e6bfab196e33a45e13bf0dfedff4e88301e7bb61a17af9744f477ce5fb33"), looks := true }, kinds := [], alts := [], laidByText := true, laidKinds := [.data], laidTests := true, laidLooks := .later }
def LiveRestCardSaid : Prop := Claim7.holds Tryd.pinned (.plain (OpenSpec.ofChange liveRestSpec)) liveRestCard

/-- THE TIED CARD OF 'windlasslaw13.ScanMany'. -/
def scanManyCard : Claim7 := { stood := { row := scanManyRow, standIns := [], harness := (true, "9232e6bfab196e33a45e13bf0dfedff4e88301e7bb61a17af9744f477ce5fb33"), looks := true }, kinds := [], alts := [], laidByText := true, laidKinds := [.data], laidTests := true, laidLooks := .later }
def ScanManyCardSaid : Prop := Claim7.holds Tryd.pinned (.plain (OpenSpec.ofChange scanManySpec)) scanManyCard

/-- THE SECOND FORM's CARD OF 'windlasslaw11.LiveRest'. -/
def liveRestUptoCard : Claim7 := { stood := { row := liveRestUptoRow, standIns := [], harness := (true, "9232e6bfab196e33a45e13bf0dfedff4e88301e7bb61a17af9744f477ce5fb33"), looks := true }, kinds := [], alts := [], laidByText := true, laidKinds := [.data], laidTests := true, laidLooks := .later }
def LiveRestUptoCardSaid : Prop := Claim7.holds Tryd.pinned (.plain (OpenSpec.upto liveRestSpec)) liveRestUptoCard

/-- THE SECOND FORM's CARD OF 'windlasslaw13.ScanMany'. -/
def scanManyUptoCard : Claim7 := { stood := { row := scanManyUptoRow, standIns := [], harness := (true, "9232e6bfab196e33a45e13bf0dfedff4e88301e7bb61a17af9744f477ce5fb33"), looks := true }, kinds := [], alts := [], laidByText := true, laidKinds := [.data], laidTests := true, laidLooks := .later }
def ScanManyUptoCardSaid : Prop := Claim7.holds Tryd.pinned (.plain (OpenSpec.upto scanManySpec)) scanManyUptoCard
end Rows
end Go.Proofs.YtepkogfiojkcpaaDoor
