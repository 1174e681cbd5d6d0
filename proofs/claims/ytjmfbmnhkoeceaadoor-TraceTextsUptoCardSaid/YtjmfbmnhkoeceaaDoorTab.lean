/-
  What the rows' lists give: the table of the powers of ten; and what the second form's bound gives.
-/
import Derived.Test.YtjmfbmnhkoeceaaDoorPrint
import Derived.Test.YtjmfbmnhkoeceaaDoorOpen
import Derived.Lib.LaidTab
import Derived.Stop.LaidErr
namespace Go.Proofs.YtjmfbmnhkoeceaaDoor
set_option linter.unusedVariables false
open Go.ChangeShapes Go.WideShapes Go.ChangeAt Go.RowKit

theorem gTab : Tryd.prog.globalNamed "internal/strconv.uint64pow10" = some 1 := by kernel_rfl
theorem gTabType : (Tryd.prog.globals[1]?).map (·.type) = some 99 := by kernel_rfl
theorem table3 {W : World} {rest : List (String × DataW Unit)} (h : laidMet Tryd.prog (("math/bits.deBruijn32tab", Rows.laid_math_bits_deBruijn32tab) :: ("math/bits.deBruijn64tab", Rows.laid_math_bits_deBruijn64tab) :: ("internal/strconv.uint64pow10", Rows.laid_internal_strconv_uint64pow10) :: rest) W) :
    Lib.TabIs Tryd.prog W "internal/strconv.uint64pow10" .u64 Lib.pow10Tab :=
  Lib.tabIs_of_head (rest := rest) gTab gTabType Tryd.underlying99 Tryd.underlying26 (by kernel_rfl) (by kernel_rfl) h.tail.tail
theorem tabB_of {W : World} (h : Lib.TabIs Tryd.prog W "internal/strconv.uint64pow10" .u64 Lib.pow10Tab) (u : Nat) : TabB W.heap.size W u := .inr (Lib.tabBelow_of_tabIs h)
theorem evOk_of {W : World} (h : Lib.TabIs Tryd.prog W "internal/strconv.uint64pow10" .u64 Lib.pow10Tab) {x : Ev} (hx : EvWf x) : EvOk W.heap.size W x := ⟨hx.2.1, hx.2.2, tabB_of h _⟩

theorem bulk_one {H : Type} (d : DataW H) : 1 ≤ Rows.uptoBulk d := by
  cases d with
  | lit l => cases l <;> simp [Rows.uptoBulk]
  | nil => simp [Rows.uptoBulk]
  | ptr d => simp [Rows.uptoBulk]
  | slice elems spare => simp [Rows.uptoBulk]
  | agg parts => simp [Rows.uptoBulk]
  | iface t d => simp [Rows.uptoBulk]
  | map entries => simp [Rows.uptoBulk]
  | held h => simp [Rows.uptoBulk]
theorem bulk_length {H : Type} (l : List (DataW H)) : l.length ≤ Rows.uptoBulkAll l := by
  induction l with
  | nil => simp [Rows.uptoBulkAll]
  | cons x r ih => have := bulk_one x; simp only [Rows.uptoBulkAll, List.length_cons]; omega
theorem bulk_slice {H : Type} {d : DataW H} {l : List (DataW H)} {c : Nat} (hd : (d = .nil ∧ c = 0) ∨ ∃ elems spare, d = .slice elems spare ∧ elems.length + spare.length = c) (h : Rows.uptoBulkAll (d :: l) ≤ 1048576) : c ≤ 1048576 := by
  rcases hd with ⟨_, rfl⟩ | ⟨elems, spare, rfl, rfl⟩
  · omega
  · have h1 := bulk_length elems
    have h2 := bulk_length spare
    simp only [Rows.uptoBulkAll, Rows.uptoBulk] at h
    omega
theorem bulk_tail {H : Type} {d : DataW H} {l : List (DataW H)} (h : Rows.uptoBulkAll (d :: l) ≤ 1048576) : Rows.uptoBulkAll l ≤ 1048576 := by
  simp only [Rows.uptoBulkAll] at h
  omega
theorem bulk_string {H : Type} {bytes : List UInt8} {l : List (DataW H)} (h : Rows.uptoBulkAll (.lit (.string bytes) :: l) ≤ 1048576) : bytes.length ≤ 1048576 := by
  simp only [Rows.uptoBulkAll, Rows.uptoBulk] at h
  omega
end Go.Proofs.YtjmfbmnhkoeceaaDoor
