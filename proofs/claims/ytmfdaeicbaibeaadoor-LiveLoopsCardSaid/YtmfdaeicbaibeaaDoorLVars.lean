/-
  What the row's list gives: the library's table, whatever is done behind.
-/
import Derived.Test.YtmfdaeicbaibeaaDoorLBit
import Derived.Lib.LaidTab
namespace Go.Proofs.YtmfdaeicbaibeaaDoor
set_option linter.unusedVariables false
open Go.ChangeShapes Go.WideShapes Go.ChangeAt Go.RowKit

theorem gTz : Tryd.prog.globalNamed "math/bits.deBruijn64tab" = some 0 := by kernel_rfl
theorem gTzType : (Tryd.prog.globals[0]?).map (·.type) = some 123 := by kernel_rfl
theorem tz_data : (Rows.laid_math_bits_deBruijn64tab : DataW Unit) = Lib.tabData .u8 (Lib.deBruijn64tab.map fun x : Nat => (x : Int)) := by kernel_rfl
theorem tz_tab {W : World} (h : laidMet Tryd.prog [("math/bits.deBruijn64tab", Rows.laid_math_bits_deBruijn64tab)] W) : TzTab W := by
  rw [tz_data] at h
  have ht := Lib.tabIs_of_head gTz gTzType Tryd.underlying123 Tryd.underlying5 (by kernel_rfl) (by kernel_rfl) h
  intro j hj
  have hl : Lib.deBruijn64tab.length = 64 := by decide
  have h1 := ht.cell gTz j (by rw [List.length_map, hl]; exact hj)
  rw [h1]
  rw [List.getD_eq_getElem?_getD, List.getElem?_map, List.getD_eq_getElem?_getD, List.getElem?_eq_getElem (by rw [hl]; exact hj)]
  rfl
end Go.Proofs.YtmfdaeicbaibeaaDoor
