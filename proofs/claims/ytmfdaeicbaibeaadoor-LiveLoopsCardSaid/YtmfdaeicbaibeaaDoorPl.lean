/-
  Package ir: places gathered, each once; what a node reads, writes, goes on to.
-/
import Derived.Test.YtmfdaeicbaibeaaDoorOwn
import Derived.Maps.OwnSet
namespace Go.Proofs.YtmfdaeicbaibeaaDoor
set_option linter.unusedVariables false
set_option linter.unusedSimpArgs false
open Go.ChangeShapes Go.WideShapes Go.ChangeAt Go.RowKit Go.Maps

/-- the set that holds just these numbers -/
def setI {H : Type} (l : List Int) : DataW H := setOf (.agg []) (l.map (Lit.int .i64))
theorem any_int (x : Int) : ∀ l : List Int, l.any ((fun y : Lit => y.sameKey (.int .i64 x)) ∘ Lit.int .i64) = l.contains x
  | [] => rfl
  | a :: r => by
    rw [List.any_cons, List.contains_cons, any_int x r]
    congr 1
    show decide (IntKind.i64 = IntKind.i64 ∧ a = x) = (x == a)
    by_cases e : a = x
    · subst e
      simp
    · have e' : ¬ x = a := fun h => e h.symm
      simp [e, e']
theorem has_setI {H : Type} (l : List Int) (x : Int) : Maps.has (setI (H := H) l) (.int .i64 x) = l.contains x := by
  unfold setI
  rw [has_setOf _ _ _ (fun y hy => by obtain ⟨_, _, rfl⟩ := List.mem_map.1 hy; trivial), List.any_map]
  exact any_int x _
theorem setI_snoc {H : Type} (l : List Int) (x : Int) : setI (H := H) (l ++ [x]) = (setI l).put (.int .i64 x) (.agg []) := by
  unfold setI
  rw [List.map_append, List.map_singleton, setOf_snoc]
theorem row_ne {w : World} {base : Nat} {e : TypeId} {size : Nat} {v : Value} {n : Nat} {xs : List Value} (h : w.ownsRow base e size v n xs) {b : Nat} (hb : b < base) : some b ≠ v.ownBlock := fun e1 => by
  have := (h.lt b e1.symm).1
  omega
theorem law_int : Keyed Tryd.prog 3 := int_keyed Tryd.underlying3
theorem zero_unit (w : World) : (zeroValue 125).run Tryd.prog w = .ok (.agg #[]) w := by kernel_rfl
theorem wf_of {x : Int} (h : I64 x) : (Lit.int .i64 x).wf = true := by
  have h0 := h.1
  have h1 := h.2
  simp [Lit.wf, IntKind.min, IntKind.max, IntKind.signed, IntKind.bits]
  exact ⟨h0, h1⟩
theorem take_at {l : List Int} {k : Nat} {x : Int} (h : l[k]? = some x) : l.take (k + 1) = l.take k ++ [x] := by
  rw [List.take_add_one, h]; rfl
/-- what a function leaves that hands back new numbers -/
def NewI (w : World) (l : List Int) (e : Ending) (w' : World) : Prop := ∃ (A : Option Addr) (c : Nat), e = .returned (.slice A l.length c) ∧ Reads w' w'.heap.size 1 A l.length (i64c l) ∧ l.length ≤ c ∧ Below w.heap.size w w'
/-- the gathering loop -/
structure PlI (w : World) (zs : List Int) (k : Nat) (v : Value) (wr : World) : Prop where
  map : wr.ownsMap Tryd.prog 3 unitElem w.heap.size k (setI (H := Unit) (addL [] (zs.take k)))
  own : wr.ownsRow (w.heap.size + 1) 3 1 v (addL [] (zs.take k)).length (i64c (addL [] (zs.take k)))
  below : Below w.heap.size w wr
  lt : w.heap.size + 1 ≤ wr.heap.size

set_option maxRecDepth 100000 in
set_option maxHeartbeats 1600000 in
theorem placesOf_any (B : Nat) (A : Option Addr) (n c : Nat) (zs : List Int) (w : World) (h : Reads w B 1 A n (i64c zs)) (hn : zs.length = n) (hz : ∀ x ∈ zs, I64 x) (hB : B ≤ w.heap.size) (hnb : n * 8 ≤ 140737488351232) :
    Calls Tryd.prog 61 #[.slice A n c] w (NewI w (addL [] zs)) := by
  have hmm := @run_makeMap Tryd.prog
  obtain ⟨i0, hi, hz0, hz1, hz2⟩ := info_parts Tryd.info3
  have H := Lib.hid h
  have HN := Lib.hid hn
  have HZ := Lib.hid hz
  clear h hn hz
  go_enter Tryd.func61, Tryd.ntmps61
  go_wp2
  go_loopw [3, 12] (fun v i wr => ∃ k : Nat, k ≤ n ∧ i = .int .i64 k ∧ Hid (PlI w zs k v wr)) (fun _ i _ => n - (intOf i).toNat)
  case atStart => exact ⟨0, Nat.zero_le _, rfl, ⟨World.ownsMap_made _ _ _ _, World.ownsRow_nil _ _ _ _, (Below.refl _ _).alloc (Nat.le_refl _) _, by simp⟩⟩
  case round =>
    obtain ⟨k, hk, rfl, HI⟩ := hrel
    by_cases hlt : k < n
    · obtain ⟨b, off, x, rfl, hb, HX, x1⟩ := (H.out.below (HI.out.below.mono hB)).int hlt
      have hwx : I64 x := HZ.out x (List.mem_of_getElem? HX.out)
      have hkey : keyOf Tryd.prog 3 (.int .i64 x) = some (.int .i64 x) := keyOf_int_mk Tryd.underlying3 (wf_of hwx)
      have hal := addL_len [] (zs.take k)
      have hws := HI.out.lt
      have htk : (zs.take k).length = k := by rw [List.length_take, HN.out]; omega
      have hadd : addL [] (zs.take (k + 1)) = add1 (addL [] (zs.take k)) x := by rw [take_at HX.out, addL_snoc]
      have hbr : b < wr.heap.size := by have := HI.out.below.size; omega
      have hmap := HI.out.map
      have hrow := HI.out.own
      simp only [List.length_nil, Nat.zero_add, htk] at hal
      have HADD := Lib.hid hadd
      clear hadd htk
      have hhas := has_setI (H := Unit) (addL [] (zs.take k)) x
      by_cases hin : (addL [] (zs.take k)).contains x = true
      · rw [hin] at hhas
        have hg : (addL [] (zs.take (k + 1))) = addL [] (zs.take k) := by
          rw [HADD.out, add1, if_neg]
          rintro ⟨_, h2⟩
          exact h2 (by simpa using hin)
        have HG := Lib.hid hg
        clear hg hin
        go_wp2_with (first
          | (at_lookup; refine wpList_lookup_own_unit _ rfl _ _ 124 rfl 3 125 law_int Tryd.underlying124 (zero_unit _) w.heap.size k _ rfl hmap _ _ rfl hkey ?_; rw [hhas])
          | go_in)
        go_roundw
        case rel => exact ⟨k + 1, by omega, by go_num, ⟨by rw [HG.out]; exact (hmap.alloc _).mono (Nat.le_succ _), by rw [HG.out]; exact hrow.alloc _, HI.out.below.alloc HI.out.below.size _, by simp; omega⟩⟩
        case measure => simp [intOf]; omega
      · have hin' : (addL [] (zs.take k)).contains x = false := by simpa using hin
        rw [hin'] at hhas
        by_cases hneg : x < 0
        · have hg : (addL [] (zs.take (k + 1))) = addL [] (zs.take k) := by
            rw [HADD.out, add1, if_neg]
            rintro ⟨h2, _⟩
            omega
          have HG := Lib.hid hg
          clear hg hin hin'
          have hd : decide (x < 0) = true := by simpa using hneg
          go_wp2_with (first
            | (at_lookup; refine wpList_lookup_own_unit _ rfl _ _ 124 rfl 3 125 law_int Tryd.underlying124 (zero_unit _) w.heap.size k _ rfl hmap _ _ rfl hkey ?_; rw [hhas])
            | go_in)
          go_roundw
          case rel => exact ⟨k + 1, by omega, by go_num, ⟨by rw [HG.out]; exact (hmap.alloc _).mono (Nat.le_succ _), by rw [HG.out]; exact hrow.alloc _, HI.out.below.alloc HI.out.below.size _, by simp; omega⟩⟩
          case measure => simp [intOf]; omega
        · have hg : (addL [] (zs.take (k + 1))) = addL [] (zs.take k) ++ [x] := by
            rw [HADD.out, add1, if_pos]
            exact ⟨by omega, by simpa using hin'⟩
          have HG := Lib.hid hg
          clear hg hin hin'
          have hd : decide (x < 0) = false := by simpa using hneg
          go_wp2_with (first
            | (at_lookup; refine wpList_lookup_own_unit _ rfl _ _ 124 rfl 3 125 law_int Tryd.underlying124 (zero_unit _) w.heap.size k _ rfl hmap _ _ rfl hkey ?_; rw [hhas])
            | (at_mapUpdate; refine wpList_mapUpdate_own _ rfl _ _ _ 124 rfl 3 125 law_int Tryd.underlying124 (unitElem (H := Unit)) w.heap.size k _ rfl (hmap.alloc _) (by unfold maxLen; omega) _ _ _ rfl rfl hkey _ [] unitElem_mk ?_; intro w1 hown1 hgrow1)
            | (at_builtin; refine wpList_append_own _ rfl _ _ 33 rfl (w.heap.size + 1) 3 i0 (.int .i64 0) 1 8 Tryd.underlying33 hi hz0 hz1 hz2 rfl (by decide) _ _ _ rfl (((hrow.alloc _).kept hgrow1 (Or.inr (row_ne hrow (Nat.lt_succ_self _)).symm)).alloc _) ⟨w1.heap.size, 0, none⟩ 1 1 [.int .i64 x] rfl rfl (cell_one_new _ _ _) (ints_oneCell .i64 [x]) (by unfold maxLen; omega) (by omega) (by have := hgrow1.size; simp at this ⊢; omega) ?_; intro v' w2 hown' hgrow2 hnil2)
            | go_in)
          have hr1 := (hrow.alloc (.cells #[] 125)).kept hgrow1 (Or.inr (row_ne hrow (Nat.lt_succ_self _)).symm)
          have s1 := hgrow1.size
          have s2 := hgrow2.size
          simp at s1 s2
          go_roundw
          case rel =>
            refine ⟨k + 1, by omega, by go_num, ⟨?_, ?_, ?_, by omega⟩⟩
            · rw [HG.out, setI_snoc]
              exact (hown1.alloc _).kept hgrow2 (row_ne hr1 (Nat.lt_succ_self _))
            · rw [HG.out]
              simpa [i64c] using hown'
            · exact ((((HI.out.below.alloc HI.out.below.size _).grown hgrow1 (by simp; omega) (fun j hj => by cases hj; exact Nat.le_refl _)).alloc (by omega) _).grown hgrow2 (by simp; omega) (fun j hj => Nat.le_trans (Nat.le_succ _) (hr1.lt j hj).1))
          case measure => simp [intOf]; omega
    · obtain rfl : n = k := by omega
      have hall : zs.take n = zs := List.take_of_length_le (by rw [HN.out]; omega)
      have hi2 := HI.out.own
      obtain ⟨A2, c2, rfl⟩ := own_slice hi2
      rw [hall] at hi2 ⊢
      have HR : Hid (Reads wr wr.heap.size 1 A2 (addL [] zs).length (i64c (addL [] zs))) := Reads.of_own hi2
      have HC : Hid ((addL [] zs).length ≤ c2) := own_cap hi2
      have HBL := Lib.hid HI.out.below
      clear hi2 hall
      go_wp2
      go_ret
      exact ⟨A2, c2, rfl, HR.out, HC.out, HBL.out⟩
end Go.Proofs.YtmfdaeicbaibeaaDoor
