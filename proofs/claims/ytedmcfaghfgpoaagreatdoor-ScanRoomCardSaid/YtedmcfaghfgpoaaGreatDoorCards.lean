/-
  DERIVED. GIVEN WITH THE SEED: THE CARDS: each row of YtedmcfaghfgpoaaGreatDoorRows.lean that lists a variable, with what it lists TIED to the program's text (the seventh form; the later family's looks); each row that meets fmt, with fmt's text TOLD by the authors' own Lean function (tested against real Go, not proved from fmt's source: count such statements apart). THE CARD IS WHAT COUNTS. Prove the row's statement (the work); the ties are given (YtedmcfaghfgpoaaGreatDoorTie.lean); close each card by the builder's one call (the guide's Derived/Test/ToyasCard.lean, 'card_holds'). Laid BY PROGRAM, IN A SANDBOX (cutbox-door.mjs). By AI agents, Wed Nov 11 2026. No macro, syntax, notation, axiom, sorry.
-/
import Derived.Test.YtedmcfaghfgpoaaGreatDoorRows
import GoSem.ClaimSeven
namespace Go.Proofs.YtedmcfaghfgpoaaGreatDoor
namespace Rows

/-- THE TIED CARD OF 'windlasslaw13.ScanRight'. -/
def scanRightCard : Claim7 := { stood := { row := scanRightRow, standIns := [], harness := (true, "a309264990a429aacadd79a34c3ae13756d6294da26a7a308777cb142866f293"), looks := true }, kinds := [], alts := [], laidByText := true, laidKinds := [.data], laidTests := true, laidLooks := .later }
def ScanRightCardSaid : Prop := Claim7.holds Tryz.pinned (.plain (OpenSpec.ofChange scanRightSpec)) scanRightCard

/-- THE TIED CARD OF 'windlasslaw13.ScanRoom'. -/
def scanRoomCard : Claim7 := { stood := { row := scanRoomRow, standIns := [], harness := (true, "a309264990a429aacadd79a34c3ae13756d6294da26a7a308777cb142866f293"), looks := true }, kinds := [], alts := [], laidByText := true, laidKinds := [.data], laidTests := true, laidLooks := .later }
def ScanRoomCardSaid : Prop := Claim7.holds Tryz.pinned (.plain (OpenSpec.ofChange scanRoomSpec)) scanRoomCard

/-- THE TIED CARD OF 'windlasslaw13.ScanAgain'. -/
def scanAgainCard : Claim7 := { stood := { row := scanAgainRow, standIns := [], harness := (true, "a309264990a429aacadd79a34c3ae13756d6294da26a7a308777cb142866f293"), looks := true }, kinds := [], alts := [], laidByText := true, laidKinds := [.data], laidTests := true, laidLooks := .later }
def ScanAgainCardSaid : Prop := Claim7.holds Tryz.pinned (.plain (OpenSpec.ofChange scanAgainSpec)) scanAgainCard

/-- THE SECOND FORM's CARD OF 'windlasslaw13.ScanRight'. -/
def scanRightUptoCard : Claim7 := { stood := { row := scanRightUptoRow, standIns := [], harness := (true, "a309264990a429aacadd79a34c3ae13756d6294da26a7a308777cb142866f293"), looks := true }, kinds := [], alts := [], laidByText := true, laidKinds := [.data], laidTests := true, laidLooks := .later }
def ScanRightUptoCardSaid : Prop := Claim7.holds Tryz.pinned (.plain (OpenSpec.upto scanRightSpec)) scanRightUptoCard

/-- THE SECOND FORM's CARD OF 'windlasslaw13.ScanRoom'. -/
def scanRoomUptoCard : Claim7 := { stood := { row := scanRoomUptoRow, standIns := [], harness := (true, "a309264990a429aacadd79a34c3ae13756d6294da26a7a308777cb142866f293"), looks := true }, kinds := [], alts := [], laidByText := true, laidKinds := [.data], laidTests := true, laidLooks := .later }
def ScanRoomUptoCardSaid : Prop := Claim7.holds Tryz.pinned (.plain (OpenSpec.upto scanRoomSpec)) scanRoomUptoCard

/-- THE SECOND FORM's CARD OF 'windlasslaw13.ScanAgain'. -/
def scanAgainUptoCard : Claim7 := { stood := { row := scanAgainUptoRow, standIns := [], harness := (true, "a309264990a429aacadd79a34c3ae13756d6294da26a7a308777cb142866f293"), looks := true }, kinds := [], alts := [], laidByText := true, laidKinds := [.data], laidTests := true, laidLooks := .later }
def ScanAgainUptoCardSaid : Prop := Claim7.holds Tryz.pinned (.plain (OpenSpec.upto scanAgainSpec)) scanAgainUptoCard
end Rows
end Go.Proofs.YtedmcfaghfgpoaaGreatDoor
