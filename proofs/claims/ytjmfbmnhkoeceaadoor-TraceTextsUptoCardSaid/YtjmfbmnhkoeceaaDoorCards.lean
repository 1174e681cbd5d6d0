/-
  DERIVED. GIVEN WITH THE SEED: THE CARDS: each row of YtjmfbmnhkoeceaaDoorRows.lean that lists a variable, with what it lists TIED to the program's text (the seventh form; the later family's looks); each row that meets fmt, with fmt's text TOLD by the authors' own Lean function (tested against real Go, not proved from fmt's source: count such statements apart). THE CARD IS WHAT COUNTS. Prove the row's statement (the work); the ties are given (YtjmfbmnhkoeceaaDoorTie.lean); close each card by the builder's one call (the guide's Derived/Test/ToyasCard.lean, 'card_holds'). Laid BY PROGRAM, IN A SANDBOX (cutbox-door.mjs). By AI agents, Wed Nov 11 2026. No macro, syntax, notation, axiom, sorry.
-/
import Derived.Test.YtjmfbmnhkoeceaaDoorRows
import GoSem.ClaimSeven
namespace Go.Proofs.YtjmfbmnhkoeceaaDoor
namespace Rows

/-- THE TIED CARD OF 'windlasslaw02.TraceKeeps'. -/
def traceKeepsCard : Claim7 := { stood := { row := traceKeepsRow, standIns := [], harness := (true, "eca7eee8754d6b044566d4a1e66b6f2b0f261a120902871ee91ae6117f3d2583"), looks := true }, kinds := [], alts := [], laidByText := true, laidKinds := [.data, .data, .data], laidTests := true, laidLooks := .later }
def TraceKeepsCardSaid : Prop := Claim7.holds Tryd.pinned (.plain (OpenSpec.ofChange traceKeepsSpec)) traceKeepsCard

/-- THE TIED CARD OF 'windlasslaw02.TraceCompares'. -/
def traceComparesCard : Claim7 := { stood := { row := traceComparesRow, standIns := [], harness := (true, "eca7eee8754d6b044566d4a1e66b6f2b0f261a120902871ee91ae6117f3d2583"), looks := true }, kinds := [], alts := [], laidByText := true, laidKinds := [.data, .data, .data], laidTests := true, laidLooks := .later }
def TraceComparesCardSaid : Prop := Claim7.holds Tryd.pinned (.plain (OpenSpec.ofChange traceComparesSpec)) traceComparesCard

/-- THE TIED CARD OF 'windlasslaw02.TraceTexts'. -/
def traceTextsCard : Claim7 := { stood := { row := traceTextsRow, standIns := [], harness := (true, "eca7eee8754d6b044566d4a1e66b6f2b0f261a120902871ee91ae6117f3d2583"), looks := true }, kinds := [], alts := [], laidByText := true, laidKinds := [.data, .data, .data, .sentinel, .sentinel], laidTests := true, laidLooks := .later }
def TraceTextsCardSaid : Prop := Claim7.holds Tryd.pinned (.plain (OpenSpec.ofChange traceTextsSpec)) traceTextsCard

/-- THE TIED CARD OF 'windlasslaw02.TraceOrder'. -/
def traceOrderCard : Claim7 := { stood := { row := traceOrderRow, standIns := [], harness := (true, "eca7eee8754d6b044566d4a1e66b6f2b0f261a120902871ee91ae6117f3d2583"), looks := true }, kinds := [], alts := [], laidByText := true, laidKinds := [.data, .data, .data], laidTests := true, laidLooks := .later }
def TraceOrderCardSaid : Prop := Claim7.holds Tryd.pinned (.plain (OpenSpec.ofChange traceOrderSpec)) traceOrderCard

/-- THE TIED CARD OF 'windlasslaw02.TraceWords'. -/
def traceWordsCard : Claim7 := { stood := { row := traceWordsRow, standIns := [], harness := (true, "eca7eee8754d6b044566d4a1e66b6f2b0f261a120902871ee91ae6117f3d2583"), looks := true }, kinds := [], alts := [], laidByText := true, laidKinds := [.data, .data, .data], laidTests := true, laidLooks := .later }
def TraceWordsCardSaid : Prop := Claim7.holds Tryd.pinned (.plain (OpenSpec.ofChange traceWordsSpec)) traceWordsCard

/-- THE TIED CARD OF 'windlasslaw02.TraceTapes'. -/
def traceTapesCard : Claim7 := { stood := { row := traceTapesRow, standIns := [], harness := (true, "eca7eee8754d6b044566d4a1e66b6f2b0f261a120902871ee91ae6117f3d2583"), looks := true }, kinds := [], alts := [], laidByText := true, laidKinds := [.data, .data, .data], laidTests := true, laidLooks := .later }
def TraceTapesCardSaid : Prop := Claim7.holds Tryd.pinned (.plain (OpenSpec.ofChange traceTapesSpec)) traceTapesCard

/-- THE SECOND FORM's CARD OF 'windlasslaw02.TraceKeeps'. -/
def traceKeepsUptoCard : Claim7 := { stood := { row := traceKeepsUptoRow, standIns := [], harness := (true, "eca7eee8754d6b044566d4a1e66b6f2b0f261a120902871ee91ae6117f3d2583"), looks := true }, kinds := [], alts := [], laidByText := true, laidKinds := [.data, .data, .data], laidTests := true, laidLooks := .later }
def TraceKeepsUptoCardSaid : Prop := Claim7.holds Tryd.pinned (.plain (OpenSpec.upto traceKeepsSpec)) traceKeepsUptoCard

/-- THE SECOND FORM's CARD OF 'windlasslaw02.TraceCompares'. -/
def traceComparesUptoCard : Claim7 := { stood := { row := traceComparesUptoRow, standIns := [], harness := (true, "eca7eee8754d6b044566d4a1e66b6f2b0f261a120902871ee91ae6117f3d2583"), looks := true }, kinds := [], alts := [], laidByText := true, laidKinds := [.data, .data, .data], laidTests := true, laidLooks := .later }
def TraceComparesUptoCardSaid : Prop := Claim7.holds Tryd.pinned (.plain (OpenSpec.upto traceComparesSpec)) traceComparesUptoCard

/-- THE SECOND FORM's CARD OF 'windlasslaw02.TraceTexts'. -/
def traceTextsUptoCard : Claim7 := { stood := { row := traceTextsUptoRow, standIns := [], harness := (true, "eca7eee8754d6b044566d4a1e66b6f2b0f261a120902871ee91ae6117f3d2583"), looks := true }, kinds := [], alts := [], laidByText := true, laidKinds := [.data, .data, .data, .sentinel, .sentinel], laidTests := true, laidLooks := .later }
def TraceTextsUptoCardSaid : Prop := Claim7.holds Tryd.pinned (.plain (OpenSpec.upto traceTextsSpec)) traceTextsUptoCard

/-- THE SECOND FORM's CARD OF 'windlasslaw02.TraceOrder'. -/
def traceOrderUptoCard : Claim7 := { stood := { row := traceOrderUptoRow, standIns := [], harness := (true, "eca7eee8754d6b044566d4a1e66b6f2b0f261a120902871ee91ae6117f3d2583"), looks := true }, kinds := [], alts := [], laidByText := true, laidKinds := [.data, .data, .data], laidTests := true, laidLooks := .later }
def TraceOrderUptoCardSaid : Prop := Claim7.holds Tryd.pinned (.plain (OpenSpec.upto traceOrderSpec)) traceOrderUptoCard

/-- THE SECOND FORM's CARD OF 'windlasslaw02.TraceWords'. -/
def traceWordsUptoCard : Claim7 := { stood := { row := traceWordsUptoRow, standIns := [], harness := (true, "eca7eee8754d6b044566d4a1e66b6f2b0f261a120902871ee91ae6117f3d2583"), looks := true }, kinds := [], alts := [], laidByText := true, laidKinds := [.data, .data, .data], laidTests := true, laidLooks := .later }
def TraceWordsUptoCardSaid : Prop := Claim7.holds Tryd.pinned (.plain (OpenSpec.upto traceWordsSpec)) traceWordsUptoCard

/-- THE SECOND FORM's CARD OF 'windlasslaw02.TraceTapes'. -/
def traceTapesUptoCard : Claim7 := { stood := { row := traceTapesUptoRow, standIns := [], harness := (true, "eca7eee8754d6b044566d4a1e66b6f2b0f261a120902871ee91ae6117f3d2583"), looks := true }, kinds := [], alts := [], laidByText := true, laidKinds := [.data, .data, .data], laidTests := true, laidLooks := .later }
def TraceTapesUptoCardSaid : Prop := Claim7.holds Tryd.pinned (.plain (OpenSpec.upto traceTapesSpec)) traceTapesUptoCard
end Rows
end Go.Proofs.YtjmfbmnhkoeceaaDoor
