/-
  A text within the second form's size.
-/
import Derived.Test.YtbpobbadmbafaaaDoorTParsesW
namespace Go.Proofs.YtbpobbadmbafaaaDoor
set_option linter.unusedVariables false

theorem bulk_string {H : Type} {bytes : List UInt8} {l : List (DataW H)} (h : Rows.uptoBulkAll (.lit (.string bytes) :: l) ≤ 1048576) : bytes.length ≤ 1048576 := by
  simp only [Rows.uptoBulkAll, Rows.uptoBulk] at h
  omega
theorem size_data (s : ByteArray) : s.data.toList.length = s.size := by rw [Array.length_toList]; rfl
end Go.Proofs.YtbpobbadmbafaaaDoor
