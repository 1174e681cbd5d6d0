/-
  DERIVED. GIVEN WITH THE SEED: THE CARDS: each row of YtcljjacanomggaaDoorRows.lean that lists a variable, with what it lists TIED to the program's text (the seventh form; the later family's looks); each row that meets fmt, with fmt's text TOLD by the authors' own Lean function (tested against real Go, not proved from fmt's source: count such statements apart). THE CARD IS WHAT COUNTS. Prove the row's statement (the work); the ties are given (YtcljjacanomggaaDoorTie.lean); close each card by the builder's one call (the guide's Derived/Test/ToyasCard.lean, 'card_holds'). Laid BY PROGRAM, IN A SANDBOX (cutbox-door.mjs). By AI agents, Wed Nov 11 2026. No macro, syntax, notation, axiom, sorry.
-/
import Derived.Test.YtcljjacanomggaaDoorRows
import GoSem.ClaimSeven
namespace Go.Proofs.YtcljjacanomggaaDoor
namespace Rows

/-- THE TIED CARD OF 'windlasslaw12.OrderLines'. -/
def orderLinesCard : Claim7 := { stood := { row := orderLinesRow, standIns := [], harness := (true, "51b222c33e089a2efe835bdc70e405876120485c9ad5d5da80002ffa9a1d6bb9"), looks := false }, kinds := [], alts := [], laidByText := true, laidKinds := [.data], laidTests := true, laidLooks := .later }
def OrderLinesCardSaid : Prop := Claim7.holds Tryd.pinned (.plain (OpenSpec.ofChange orderLinesSpec)) orderLinesCard

/-- THE TIED CARD OF 'windlasslaw12.OrderMeets'. -/
def orderMeetsCard : Claim7 := { stood := { row := orderMeetsRow, standIns := [], harness := (true, "51b222c33e089a2efe835bdc70e405876120485c9ad5d5da80002ffa9a1d6bb9"), looks := false }, kinds := [], alts := [], laidByText := true, laidKinds := [.data], laidTests := true, laidLooks := .later }
def OrderMeetsCardSaid : Prop := Claim7.holds Tryd.pinned (.plain (OpenSpec.ofChange orderMeetsSpec)) orderMeetsCard

/-- THE TIED CARD OF 'windlasslaw12.OrderAll'. -/
def orderAllCard : Claim7 := { stood := { row := orderAllRow, standIns := [], harness := (true, "51b222c33e089a2efe835bdc70e405876120485c9ad5d5da80002ffa9a1d6bb9"), looks := false }, kinds := [], alts := [], laidByText := true, laidKinds := [.data], laidTests := true, laidLooks := .later }
def OrderAllCardSaid : Prop := Claim7.holds Tryd.pinned (.plain (OpenSpec.ofChange orderAllSpec)) orderAllCard

/-- THE SECOND FORM's CARD OF 'windlasslaw12.OrderLines'. -/
def orderLinesUptoCard : Claim7 := { stood := { row := orderLinesUptoRow, standIns := [], harness := (true, "51b222c33e089a2efe835bdc70e405876120485c9ad5d5da80002ffa9a1d6bb9"), looks := false }, kinds := [], alts := [], laidByText := true, laidKinds := [.data], laidTests := true, laidLooks := .later }
def OrderLinesUptoCardSaid : Prop := Claim7.holds Tryd.pinned (.plain (OpenSpec.upto orderLinesSpec)) orderLinesUptoCard

/-- THE SECOND FORM's CARD OF 'windlasslaw12.OrderMeets'. -/
def orderMeetsUptoCard : Claim7 := { stood := { row := orderMeetsUptoRow, standIns := [], harness := (true, "51b222c33e089a2efe835bdc70e405876120485c9ad5d5da80002ffa9a1d6bb9"), looks := false }, kinds := [], alts := [], laidByText := true, laidKinds := [.data], laidTests := true, laidLooks := .later }
def OrderMeetsUptoCardSaid : Prop := Claim7.holds Tryd.pinned (.plain (OpenSpec.upto orderMeetsSpec)) orderMeetsUptoCard

/-- THE SECOND FORM's CARD OF 'windlasslaw12.OrderAll'. -/
def orderAllUptoCard : Claim7 := { stood := { row := orderAllUptoRow, standIns := [], harness := (true, "51b222c33e089a2efe835bdc70e405876120485c9ad5d5da80002ffa9a1d6bb9"), looks := false }, kinds := [], alts := [], laidByText := true, laidKinds := [.data], laidTests := true, laidLooks := .later }
def OrderAllUptoCardSaid : Prop := Claim7.holds Tryd.pinned (.plain (OpenSpec.upto orderAllSpec)) orderAllUptoCard
end Rows
end Go.Proofs.YtcljjacanomggaaDoor
