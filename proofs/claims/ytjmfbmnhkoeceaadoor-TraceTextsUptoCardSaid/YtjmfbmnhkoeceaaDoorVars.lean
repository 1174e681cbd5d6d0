/-
  What the row's list and the world's shape give: the library's variables, whatever is done behind.
-/
import Derived.Test.YtjmfbmnhkoeceaaDoorTab
import Derived.Test.YtjmfbmnhkoeceaaDoorParse
import Derived.Shelf.Vars
namespace Go.Proofs.YtjmfbmnhkoeceaaDoor
set_option linter.unusedVariables false
open Go.ChangeShapes Go.WideShapes Go.ChangeAt Go.RowKit

theorem var_below {P : Program} {w w' : World} {n : String} {cs : Array Value} (h : w.var? P n = some cs) (hb : Below w.heap.size w w') : w'.var? P n = some cs := by
  unfold World.var? at h ⊢
  cases hg : P.globalNamed n with
  | none => simp [hg] at h
  | some g =>
    simp only [hg, Option.bind_some] at h ⊢
    have hlt : g < w.heap.size := by
      rcases Nat.lt_or_ge g w.heap.size with h' | h'
      · exact h'
      · simp [Array.getElem?_eq_none h'] at h
    rw [hb.block g hlt]
    exact h
theorem cell_below {w w' : World} {a : Addr} {v : Value} (h : w.cell? a = some v) (hb : Below w.heap.size w w') : w'.cell? a = some v := by
  have hlt : a.block < w.heap.size := by
    rcases Nat.lt_or_ge a.block w.heap.size with h' | h'
    · exact h'
    · simp [World.cell?, Array.getElem?_eq_none h'] at h
  exact (hb.cell hlt).trans h

theorem gRange : Tryd.prog.globalNamed "strconv.ErrRange" = some 3 := by kernel_rfl
theorem gRangeType : (Tryd.prog.globals[3]?).map (·.type) = some 63 := by kernel_rfl
theorem gSyn : Tryd.prog.globalNamed "strconv.ErrSyntax" = some 2 := by kernel_rfl
theorem gSynType : (Tryd.prog.globals[2]?).map (·.type) = some 63 := by kernel_rfl
theorem cellsErr : Tryd.prog.cellsOf 122 = 1 := by kernel_rfl
theorem cellsStr : Tryd.prog.cellsOf 9 = 1 := by kernel_rfl
theorem starErr : "*" ++ "errors.errorString" = "*errors.errorString" := by decide
theorem rowErr (u : TypeId) (h : Tryd.prog.typeName? 3 u = some "*errors.errorString") : u = 120 :=
  typeName_ptr_named (nm := "errors.errorString") (by rw [starErr]; kernel_rfl) (by kernel_rfl) (by decide) u (by rw [starErr]; exact h)

theorem vars_env {W : World} {rest : List (String × DataW Unit)} (h : laidMet Tryd.prog (("math/bits.deBruijn32tab", Rows.laid_math_bits_deBruijn32tab) :: ("math/bits.deBruijn64tab", Rows.laid_math_bits_deBruijn64tab) :: ("internal/strconv.uint64pow10", Rows.laid_internal_strconv_uint64pow10) :: ("strconv.ErrRange", Rows.laid_strconv_ErrRange) :: ("strconv.ErrSyntax", Rows.laid_strconv_ErrSyntax) :: rest) W)
    (hsh : W.ShapedOpen Tryd.prog) : Env W.heap.size W := by
  have htab := table3 h
  obtain ⟨a0, _, hv0, _⟩ := laid_sentinel h.tail.tail.tail gRange gRangeType Tryd.underlying63 rowErr Tryd.underlying120 Tryd.underlying122 rfl rfl Tryd.underlying9 cellsErr cellsStr
  obtain ⟨a1, _, hv1, _⟩ := laid_sentinel h.tail.tail.tail.tail gSyn gSynType Tryd.underlying63 rowErr Tryd.underlying120 Tryd.underlying122 rfl rfl Tryd.underlying9 cellsErr cellsStr
  obtain ⟨m, hm⟩ := Go.Proofs.cell_of_shapedOpen_int (P := Tryd.prog) (g := 0) (t := 3) (zero := #[.int .i64 0]) hsh (of_decide_eq_true (by kernel_rfl)) (by kernel_rfl) rfl (by kernel_rfl) (by kernel_rfl) Tryd.underlying3
  intro w' hb
  exact ⟨(Lib.tabBelow_of_tabIs htab).on hb |>.here, ⟨_, _, var_below hv1 hb⟩, ⟨_, _, var_below hv0 hb⟩, ⟨m, cell_below hm hb⟩⟩
end Go.Proofs.YtjmfbmnhkoeceaaDoor
