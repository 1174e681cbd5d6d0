/-
  What the row's list and the world's shape give: the variables' contents, whatever is done behind.
-/
import Derived.Test.YtbpobbadmbafaaaDoorTEnv
import Derived.Test.YtbpobbadmbafaaaDoorShelfQ
import Derived.Lib.LaidTab
import Derived.Lib.LaidU8T
import Derived.Stop.LaidErr
import Derived.PinnedBridge
import Derived.Lib.AppendIntMem
namespace Go.Proofs.YtbpobbadmbafaaaDoor
set_option linter.unusedVariables false
open Go.ChangeShapes Go.WideShapes Go.ChangeAt Go.RowKit

theorem var_below {P : Program} {w w' : World} {n : String} {cs : Array Value} (h : w.var? P n = some cs) (hb : Below w.heap.size w w') : w'.var? P n = some cs := by
  unfold World.var? at h ⊢
  cases hg : P.globalNamed n with
  | none => simp [hg] at h
  | some g =>
    simp only [hg, Option.bind_some] at h ⊢
    have hlt : g < w.heap.size := by
      rcases Nat.lt_or_ge g w.heap.size with h' | h'
      · exact h'
      · simp [Array.getElem?_eq_none h'] at h
    rw [hb.block g hlt]
    exact h
theorem cell_below {w w' : World} {a : Addr} {v : Value} (h : w.cell? a = some v) (hb : Below w.heap.size w w') : w'.cell? a = some v := by
  have hlt : a.block < w.heap.size := by
    rcases Nat.lt_or_ge a.block w.heap.size with h' | h'
    · exact h'
    · simp [World.cell?, Array.getElem?_eq_none h'] at h
  exact (hb.cell hlt).trans h

theorem gTab : Tryd.prog.globalNamed "internal/strconv.uint64pow10" = some 6 := by kernel_rfl
theorem gTabType : (Tryd.prog.globals[6]?).map (·.type) = some 118 := by kernel_rfl
theorem gRange : Tryd.prog.globalNamed "strconv.ErrRange" = some 5 := by kernel_rfl
theorem gRangeType : (Tryd.prog.globals[5]?).map (·.type) = some 81 := by kernel_rfl
theorem gSyn : Tryd.prog.globalNamed "strconv.ErrSyntax" = some 4 := by kernel_rfl
theorem gSynType : (Tryd.prog.globals[4]?).map (·.type) = some 81 := by kernel_rfl
theorem gNames : Tryd.prog.globalNamed "windlass/text.names" = some 0 := by kernel_rfl
theorem gNamesType : (Tryd.prog.globals[0]?).map (·.type) = some 85 := by kernel_rfl
theorem cellsErr : Tryd.prog.cellsOf 116 = 1 := by kernel_rfl
theorem cellsStr : Tryd.prog.cellsOf 9 = 1 := by kernel_rfl
theorem starErr : "*" ++ "errors.errorString" = "*errors.errorString" := by decide
theorem rowErr (u : TypeId) (h : Tryd.prog.typeName? 3 u = some "*errors.errorString") : u = 114 :=
  typeName_ptr_named (nm := "errors.errorString") (by rw [starErr]; kernel_rfl) (by kernel_rfl) (by decide) u (by rw [starErr]; exact h)
theorem names_data : (Rows.laid_windlass_text_names : DataW Unit) = .agg (([] :: nms).map fun b => .lit (.string b)) := by kernel_rfl
theorem accept_data : (Rows.laid_unicode_utf8_acceptRanges : DataW Unit) = Lib.acceptData := by kernel_rfl

theorem names_cells {W : World} (h : Lib.VarReads Tryd.prog W "windlass/text.names" Rows.laid_windlass_text_names) (k : Nat) (hk : k < 33) : W.cell? ⟨0, k, none⟩ = some (.string (str (([] :: nms).getD k []))) := by
  obtain ⟨g, t, cs, fuel, p, hg, hty, hvar, hd⟩ := h
  obtain rfl := Option.some.inj (gNames.symm.trans hg)
  obtain rfl := Option.some.inj (gNamesType.symm.trans hty)
  rw [names_data] at hd
  obtain ⟨fuel', d, q, hdi, he⟩ := Lib.array_elem Tryd.underlying85 hd k hk
  have hlk : k < ([] :: nms).length := by rw [List.length_cons, nms_length]; exact hk
  rw [List.getElem?_map, List.getElem?_eq_getElem hlk] at hdi
  injection hdi with hdi
  subst hdi
  obtain ⟨s, hc, hz, _⟩ := DataW.trod_string Tryd.underlying9 he
  have hcs : cs[k]? = some (.string s) := by
    have := congrArg (·[0]?) hc
    rw [cellsStr] at this
    simpa [List.getElem?_take, List.getElem?_drop, Array.getElem?_toList] using this
  rw [World.var?_cell gNames hvar k, hcs]
  have hz' : ([] :: nms)[k] = s.data.toList := by
    have := congrArg Prod.fst hz
    simpa using this
  rw [str_of s, ← hz', List.getD, List.getElem?_eq_getElem hlk]
  rfl

theorem vars_env {W : World} (h : laidMet Tryd.prog [("math/bits.deBruijn32tab", Rows.laid_math_bits_deBruijn32tab), ("math/bits.deBruijn64tab", Rows.laid_math_bits_deBruijn64tab), ("internal/strconv.uint64pow10", Rows.laid_internal_strconv_uint64pow10), ("unicode/utf8.acceptRanges", Rows.laid_unicode_utf8_acceptRanges), ("strconv.ErrRange", Rows.laid_strconv_ErrRange), ("strconv.ErrSyntax", Rows.laid_strconv_ErrSyntax), ("windlass/text.names", Rows.laid_windlass_text_names), ("unicode/utf8.first", Rows.laid_unicode_utf8_first)] W) : Env W.heap.size W := by
  have htab : Lib.TabIs Tryd.prog W "internal/strconv.uint64pow10" .u64 Lib.pow10Tab := Lib.tabIs_of_head gTab gTabType Tryd.underlying118 Tryd.underlying38 (by kernel_rfl) (by kernel_rfl) h.tail.tail
  obtain ⟨a0, _, hv0, _⟩ := laid_sentinel h.tail.tail.tail.tail gRange gRangeType Tryd.underlying81 rowErr Tryd.underlying114 Tryd.underlying116 rfl rfl Tryd.underlying9 cellsErr cellsStr
  obtain ⟨a1, _, hv1, _⟩ := laid_sentinel h.tail.tail.tail.tail.tail gSyn gSynType Tryd.underlying81 rowErr Tryd.underlying114 Tryd.underlying116 rfl rfl Tryd.underlying9 cellsErr cellsStr
  have hu1 : Lib.VarReads Tryd.prog W "unicode/utf8.first" Lib.firstData := by
    have h1 := Lib.laidMet.reads h (n := "unicode/utf8.first") (d := Rows.laid_unicode_utf8_first) (.tail _ (.tail _ (.tail _ (.tail _ (.tail _ (.tail _ (.tail _ (.head _))))))))
    rw [← Pinned.utf8First_eq]
    exact h1
  have hu2 : Lib.VarReads Tryd.prog W "unicode/utf8.acceptRanges" Lib.acceptData := by
    have h1 := Lib.laidMet.reads h (n := "unicode/utf8.acceptRanges") (d := Rows.laid_unicode_utf8_acceptRanges) (.tail _ (.tail _ (.tail _ (.head _))))
    rw [accept_data] at h1
    exact h1
  have hutf : Lib.Utf8Tabs 1 2 W := utf8Tabs_of_readsT (U8Types.of260 Tryd.lays260) ⟨by kernel_rfl, by kernel_rfl, by kernel_rfl, by kernel_rfl, by kernel_rfl, by kernel_rfl, by kernel_rfl⟩ hu1 hu2
  have hnm := Lib.laidMet.reads h (n := "windlass/text.names") (d := Rows.laid_windlass_text_names) (.tail _ (.tail _ (.tail _ (.tail _ (.tail _ (.tail _ (.head _)))))))
  intro w' hb
  exact ⟨(Lib.tabBelow_of_tabIs htab).on hb |>.here, ⟨_, _, var_below hv1 hb⟩, ⟨_, _, var_below hv0 hb⟩, ⟨fun c hc => cell_below (hutf.1 c hc) hb, fun i hi => ⟨cell_below (hutf.2 i hi).1 hb, cell_below (hutf.2 i hi).2 hb⟩⟩, fun k hk => cell_below (names_cells hnm k hk) hb⟩
end Go.Proofs.YtbpobbadmbafaaaDoor
