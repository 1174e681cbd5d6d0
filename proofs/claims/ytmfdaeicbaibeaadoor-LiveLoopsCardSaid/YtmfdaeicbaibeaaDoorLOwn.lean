/-
  Package ir: places gathered, what a node writes: the answer is a row of the call's own.
-/
import Derived.Test.YtmfdaeicbaibeaaDoorRw
namespace Go.Proofs.YtmfdaeicbaibeaaDoor
set_option linter.unusedVariables false
set_option linter.unusedSimpArgs false
open Go.ChangeShapes Go.WideShapes Go.ChangeAt Go.RowKit Go.Maps

/-- what a function leaves that hands back new numbers, in a row of its own -/
def NewO (w : World) (l : List Int) (e : Ending) (w' : World) : Prop := ∃ (A : Option Addr) (c : Nat), e = .returned (.slice A l.length c) ∧ w'.ownsRow w.heap.size 3 1 (.slice A l.length c) l.length (i64c l) ∧ l.length ≤ c ∧ Below w.heap.size w w'
theorem NewO.mk' {w w' w1 : World} {l l' : List Int} {A : Option Addr} {n c : Nat} (hl : l = l') (hn : l.length = n) (hr : w'.ownsRow w1.heap.size 3 1 (.slice A n c) n (i64c l)) (hc : n ≤ c) (hb : Below w1.heap.size w1 w') (hw : Below w.heap.size w w1) : NewO w l' (.returned (.slice A n c)) w' := by
  subst hl
  subst hn
  exact ⟨A, c, rfl, own_more hr hw.size, hc, hw.trans (hb.mono hw.size)⟩
set_option maxRecDepth 100000 in
set_option maxHeartbeats 1600000 in
theorem placesOf_own (B : Nat) (A : Option Addr) (n c : Nat) (zs : List Int) (w : World) (h : Reads w B 1 A n (i64c zs)) (hn : zs.length = n) (hz : ∀ x ∈ zs, I64 x) (hB : B ≤ w.heap.size) (hnb : n * 8 ≤ 140737488351232) :
    Calls Tryd.prog 61 #[.slice A n c] w (NewO w (addL [] zs)) := by
  have hmm := @run_makeMap Tryd.prog
  obtain ⟨i0, hi, hz0, hz1, hz2⟩ := info_parts Tryd.info3
  have H := Lib.hid h
  have HN := Lib.hid hn
  have HZ := Lib.hid hz
  clear h hn hz
  go_enter Tryd.func61, Tryd.ntmps61
  go_wp2
  go_loopw [3, 12] (fun v i wr => ∃ k : Nat, k ≤ n ∧ i = .int .i64 k ∧ Hid (PlI w zs k v wr)) (fun _ i _ => n - (intOf i).toNat)
  case atStart => exact ⟨0, Nat.zero_le _, rfl, ⟨World.ownsMap_made _ _ _ _, World.ownsRow_nil _ _ _ _, (Below.refl _ _).alloc (Nat.le_refl _) _, by simp⟩⟩
  case round =>
    obtain ⟨k, hk, rfl, HI⟩ := hrel
    by_cases hlt : k < n
    · obtain ⟨b, off, x, rfl, hb, HX, x1⟩ := (H.out.below (HI.out.below.mono hB)).int hlt
      have hwx : I64 x := HZ.out x (List.mem_of_getElem? HX.out)
      have hkey : keyOf Tryd.prog 3 (.int .i64 x) = some (.int .i64 x) := keyOf_int_mk Tryd.underlying3 (wf_of hwx)
      have hal := addL_len [] (zs.take k)
      have hws := HI.out.lt
      have htk : (zs.take k).length = k := by rw [List.length_take, HN.out]; omega
      have hadd : addL [] (zs.take (k + 1)) = add1 (addL [] (zs.take k)) x := by rw [take_at HX.out, addL_snoc]
      have hbr : b < wr.heap.size := by have := HI.out.below.size; omega
      have hmap := HI.out.map
      have hrow := HI.out.own
      simp only [List.length_nil, Nat.zero_add, htk] at hal
      have HADD := Lib.hid hadd
      clear hadd htk
      have hhas := has_setI (H := Unit) (addL [] (zs.take k)) x
      by_cases hin : (addL [] (zs.take k)).contains x = true
      · rw [hin] at hhas
        have hg : (addL [] (zs.take (k + 1))) = addL [] (zs.take k) := by
          rw [HADD.out, add1, if_neg]
          rintro ⟨_, h2⟩
          exact h2 (by simpa using hin)
        have HG := Lib.hid hg
        clear hg hin
        go_wp2_with (first
          | (at_lookup; refine wpList_lookup_own_unit _ rfl _ _ 124 rfl 3 125 law_int Tryd.underlying124 (zero_unit _) w.heap.size k _ rfl hmap _ _ rfl hkey ?_; rw [hhas])
          | go_in)
        go_roundw
        case rel => exact ⟨k + 1, by omega, by go_num, ⟨by rw [HG.out]; exact (hmap.alloc _).mono (Nat.le_succ _), by rw [HG.out]; exact hrow.alloc _, HI.out.below.alloc HI.out.below.size _, by simp; omega⟩⟩
        case measure => simp [intOf]; omega
      · have hin' : (addL [] (zs.take k)).contains x = false := by simpa using hin
        rw [hin'] at hhas
        by_cases hneg : x < 0
        · have hg : (addL [] (zs.take (k + 1))) = addL [] (zs.take k) := by
            rw [HADD.out, add1, if_neg]
            rintro ⟨h2, _⟩
            omega
          have HG := Lib.hid hg
          clear hg hin hin'
          have hd : decide (x < 0) = true := by simpa using hneg
          go_wp2_with (first
            | (at_lookup; refine wpList_lookup_own_unit _ rfl _ _ 124 rfl 3 125 law_int Tryd.underlying124 (zero_unit _) w.heap.size k _ rfl hmap _ _ rfl hkey ?_; rw [hhas])
            | go_in)
          go_roundw
          case rel => exact ⟨k + 1, by omega, by go_num, ⟨by rw [HG.out]; exact (hmap.alloc _).mono (Nat.le_succ _), by rw [HG.out]; exact hrow.alloc _, HI.out.below.alloc HI.out.below.size _, by simp; omega⟩⟩
          case measure => simp [intOf]; omega
        · have hg : (addL [] (zs.take (k + 1))) = addL [] (zs.take k) ++ [x] := by
            rw [HADD.out, add1, if_pos]
            exact ⟨by omega, by simpa using hin'⟩
          have HG := Lib.hid hg
          clear hg hin hin'
          have hd : decide (x < 0) = false := by simpa using hneg
          go_wp2_with (first
            | (at_lookup; refine wpList_lookup_own_unit _ rfl _ _ 124 rfl 3 125 law_int Tryd.underlying124 (zero_unit _) w.heap.size k _ rfl hmap _ _ rfl hkey ?_; rw [hhas])
            | (at_mapUpdate; refine wpList_mapUpdate_own _ rfl _ _ _ 124 rfl 3 125 law_int Tryd.underlying124 (unitElem (H := Unit)) w.heap.size k _ rfl (hmap.alloc _) (by unfold maxLen; omega) _ _ _ rfl rfl hkey _ [] unitElem_mk ?_; intro w1 hown1 hgrow1)
            | (at_builtin; refine wpList_append_own _ rfl _ _ 33 rfl (w.heap.size + 1) 3 i0 (.int .i64 0) 1 8 Tryd.underlying33 hi hz0 hz1 hz2 rfl (by decide) _ _ _ rfl (((hrow.alloc _).kept hgrow1 (Or.inr (row_ne hrow (Nat.lt_succ_self _)).symm)).alloc _) ⟨w1.heap.size, 0, none⟩ 1 1 [.int .i64 x] rfl rfl (cell_one_new _ _ _) (ints_oneCell .i64 [x]) (by unfold maxLen; omega) (by omega) (by have := hgrow1.size; simp at this ⊢; omega) ?_; intro v' w2 hown' hgrow2 hnil2)
            | go_in)
          have hr1 := (hrow.alloc (.cells #[] 125)).kept hgrow1 (Or.inr (row_ne hrow (Nat.lt_succ_self _)).symm)
          have s1 := hgrow1.size
          have s2 := hgrow2.size
          simp at s1 s2
          go_roundw
          case rel =>
            refine ⟨k + 1, by omega, by go_num, ⟨?_, ?_, ?_, by omega⟩⟩
            · rw [HG.out, setI_snoc]
              exact (hown1.alloc _).kept hgrow2 (row_ne hr1 (Nat.lt_succ_self _))
            · rw [HG.out]
              simpa [i64c] using hown'
            · exact ((((HI.out.below.alloc HI.out.below.size _).grown hgrow1 (by simp; omega) (fun j hj => by cases hj; exact Nat.le_refl _)).alloc (by omega) _).grown hgrow2 (by simp; omega) (fun j hj => Nat.le_trans (Nat.le_succ _) (hr1.lt j hj).1))
          case measure => simp [intOf]; omega
    · obtain rfl : n = k := by omega
      have hall : zs.take n = zs := List.take_of_length_le (by rw [HN.out]; omega)
      have hi2 := HI.out.own
      obtain ⟨A2, c2, rfl⟩ := own_slice hi2
      rw [hall] at hi2 ⊢
      have HR : Hid (wr.ownsRow w.heap.size 3 1 (.slice A2 (addL [] zs).length c2) (addL [] zs).length (i64c (addL [] zs))) := Lib.hid (own_more hi2 (Nat.le_succ _))
      have HC : Hid ((addL [] zs).length ≤ c2) := own_cap hi2
      have HBL := Lib.hid HI.out.below
      clear hi2 hall
      go_wp2
      go_ret
      exact ⟨A2, c2, rfl, HR.out, HC.out, HBL.out⟩
set_option maxRecDepth 100000 in
set_option maxHeartbeats 6400000 in
theorem writes_own (B : Nat) (op bop d e a b f cell imm : Int) (args : List Int) (nx el : Int) (ao : Option Addr) (nA ac : Nat) (w : World) (ho0 : 0 ≤ op) (ho1 : op ≤ 255) (hd : I64 d) (he : I64 e) (ha : I64 a) (hb : I64 b) (hn : I64 nx) (hel : I64 el) (hr : Reads w B 1 ao nA (i64c args)) (hl : args.length = nA) (hargs : ∀ x ∈ args, I64 x) (hnA : nA * 8 ≤ 140737488351232) (hnc : nA ≤ ac) (hB : B ≤ w.heap.size) :
    Calls Tryd.prog 60 #[.agg #[.int .u8 op, .int .u8 bop, .int .i64 d, .int .i64 e, .int .i64 a, .int .i64 b, .int .i64 f, .int .i64 cell, .int .u64 imm, .slice ao nA ac, .int .i64 nx, .int .i64 el]] w (NewO w (writesOf ⟨op, bop, d, e, a, b, f, cell, imm, args, nx, el⟩)) := by
  have H := Lib.hid hr
  have HL := Lib.hid hl
  have HA := Lib.hid hargs
  have HW1 : Hid (Below w.heap.size w (w.alloc (.cells #[.int .u8 op, .int .u8 bop, .int .i64 d, .int .i64 e, .int .i64 a, .int .i64 b, .int .i64 f, .int .i64 cell, .int .u64 imm, .slice ao nA ac, .int .i64 nx, .int .i64 el] 64))) := (Below.refl _ _).alloc (Nat.le_refl _) _
  have HH : Hid (Reads (w.alloc (.cells #[.int .u8 op, .int .u8 bop, .int .i64 d, .int .i64 e, .int .i64 a, .int .i64 b, .int .i64 f, .int .i64 cell, .int .u64 imm, .slice ao nA ac, .int .i64 nx, .int .i64 el] 64)) B 1 ao nA (i64c args)) := Lib.hid (hr.below (HW1.out.mono hB))
  have hB1 : B ≤ (w.alloc (.cells #[.int .u8 op, .int .u8 bop, .int .i64 d, .int .i64 e, .int .i64 a, .int .i64 b, .int .i64 f, .int .i64 cell, .int .u64 imm, .slice ao nA ac, .int .i64 nx, .int .i64 el] 64)).heap.size := by simp; omega
  have hz1 : (w.alloc (.cells #[.int .u8 op, .int .u8 bop, .int .i64 d, .int .i64 e, .int .i64 a, .int .i64 b, .int .i64 f, .int .i64 cell, .int .u64 imm, .slice ao nA ac, .int .i64 nx, .int .i64 el] 64)).heap.size = w.heap.size + 1 := by simp
  clear hr hl hargs
  rcases op_cases ho0 ho1 with rfl | rfl | rfl | rfl | rfl | rfl | rfl | rfl | rfl | rfl | rfl | rfl | rfl | rfl | rfl | rfl | rfl | rfl | hop
  · have HLR := Lib.hid (lit_reads (w.alloc (.cells #[.int .u8 1, .int .u8 bop, .int .i64 d, .int .i64 e, .int .i64 a, .int .i64 b, .int .i64 f, .int .i64 cell, .int .u64 imm, .slice ao nA ac, .int .i64 nx, .int .i64 el] 64)) 3 (i64c [d]) 1 rfl)
    have HWF : Hid (∀ x ∈ [d], I64 x) := Lib.hid (by intro x hx; simp at hx; subst hx; assumption)
    have HW2 : Hid (Below w.heap.size w ((w.alloc (.cells #[.int .u8 1, .int .u8 bop, .int .i64 d, .int .i64 e, .int .i64 a, .int .i64 b, .int .i64 f, .int .i64 cell, .int .u64 imm, .slice ao nA ac, .int .i64 nx, .int .i64 el] 64)).alloc (.cells #[.int .i64 d] 3))) := HW1.out.alloc (by simp) _
    have hs2 : w.heap.size + 1 + 1 ≤ ((w.alloc (.cells #[.int .u8 1, .int .u8 bop, .int .i64 d, .int .i64 e, .int .i64 a, .int .i64 b, .int .i64 f, .int .i64 cell, .int .u64 imm, .slice ao nA ac, .int .i64 nx, .int .i64 el] 64)).alloc (.cells #[.int .i64 d] 3)).heap.size := by simp
    rw [hz1] at HLR
    go_enter Tryd.func60, Tryd.ntmps60
    go_wp2_with (first | (go_at_call 61; refine (placesOf_own (w.heap.size + 1 + 1) _ 1 _ [d] _ HLR.out rfl HWF.out hs2 (by omega)).mono ?_; rintro ee w2 ⟨A2, c2, rfl, hr2, hc2, hb2⟩; have HR2 := Lib.hid hr2; have HB2 := Lib.hid hb2; clear hr2 hb2))
    go_ret
    exact NewO.mk' rfl rfl HR2.out hc2 HB2.out HW2.out
  · have HLR := Lib.hid (lit_reads (w.alloc (.cells #[.int .u8 2, .int .u8 bop, .int .i64 d, .int .i64 e, .int .i64 a, .int .i64 b, .int .i64 f, .int .i64 cell, .int .u64 imm, .slice ao nA ac, .int .i64 nx, .int .i64 el] 64)) 3 (i64c [d]) 1 rfl)
    have HWF : Hid (∀ x ∈ [d], I64 x) := Lib.hid (by intro x hx; simp at hx; subst hx; assumption)
    have HW2 : Hid (Below w.heap.size w ((w.alloc (.cells #[.int .u8 2, .int .u8 bop, .int .i64 d, .int .i64 e, .int .i64 a, .int .i64 b, .int .i64 f, .int .i64 cell, .int .u64 imm, .slice ao nA ac, .int .i64 nx, .int .i64 el] 64)).alloc (.cells #[.int .i64 d] 3))) := HW1.out.alloc (by simp) _
    have hs2 : w.heap.size + 1 + 1 ≤ ((w.alloc (.cells #[.int .u8 2, .int .u8 bop, .int .i64 d, .int .i64 e, .int .i64 a, .int .i64 b, .int .i64 f, .int .i64 cell, .int .u64 imm, .slice ao nA ac, .int .i64 nx, .int .i64 el] 64)).alloc (.cells #[.int .i64 d] 3)).heap.size := by simp
    rw [hz1] at HLR
    go_enter Tryd.func60, Tryd.ntmps60
    go_wp2_with (first | (go_at_call 61; refine (placesOf_own (w.heap.size + 1 + 1) _ 1 _ [d] _ HLR.out rfl HWF.out hs2 (by omega)).mono ?_; rintro ee w2 ⟨A2, c2, rfl, hr2, hc2, hb2⟩; have HR2 := Lib.hid hr2; have HB2 := Lib.hid hb2; clear hr2 hb2))
    go_ret
    exact NewO.mk' rfl rfl HR2.out hc2 HB2.out HW2.out
  · have HLR := Lib.hid (lit_reads (w.alloc (.cells #[.int .u8 3, .int .u8 bop, .int .i64 d, .int .i64 e, .int .i64 a, .int .i64 b, .int .i64 f, .int .i64 cell, .int .u64 imm, .slice ao nA ac, .int .i64 nx, .int .i64 el] 64)) 3 (i64c [d]) 1 rfl)
    have HWF : Hid (∀ x ∈ [d], I64 x) := Lib.hid (by intro x hx; simp at hx; subst hx; assumption)
    have HW2 : Hid (Below w.heap.size w ((w.alloc (.cells #[.int .u8 3, .int .u8 bop, .int .i64 d, .int .i64 e, .int .i64 a, .int .i64 b, .int .i64 f, .int .i64 cell, .int .u64 imm, .slice ao nA ac, .int .i64 nx, .int .i64 el] 64)).alloc (.cells #[.int .i64 d] 3))) := HW1.out.alloc (by simp) _
    have hs2 : w.heap.size + 1 + 1 ≤ ((w.alloc (.cells #[.int .u8 3, .int .u8 bop, .int .i64 d, .int .i64 e, .int .i64 a, .int .i64 b, .int .i64 f, .int .i64 cell, .int .u64 imm, .slice ao nA ac, .int .i64 nx, .int .i64 el] 64)).alloc (.cells #[.int .i64 d] 3)).heap.size := by simp
    rw [hz1] at HLR
    go_enter Tryd.func60, Tryd.ntmps60
    go_wp2_with (first | (go_at_call 61; refine (placesOf_own (w.heap.size + 1 + 1) _ 1 _ [d] _ HLR.out rfl HWF.out hs2 (by omega)).mono ?_; rintro ee w2 ⟨A2, c2, rfl, hr2, hc2, hb2⟩; have HR2 := Lib.hid hr2; have HB2 := Lib.hid hb2; clear hr2 hb2))
    go_ret
    exact NewO.mk' rfl rfl HR2.out hc2 HB2.out HW2.out
  · have HLR := Lib.hid (lit_reads (w.alloc (.cells #[.int .u8 4, .int .u8 bop, .int .i64 d, .int .i64 e, .int .i64 a, .int .i64 b, .int .i64 f, .int .i64 cell, .int .u64 imm, .slice ao nA ac, .int .i64 nx, .int .i64 el] 64)) 3 (i64c [d]) 1 rfl)
    have HWF : Hid (∀ x ∈ [d], I64 x) := Lib.hid (by intro x hx; simp at hx; subst hx; assumption)
    have HW2 : Hid (Below w.heap.size w ((w.alloc (.cells #[.int .u8 4, .int .u8 bop, .int .i64 d, .int .i64 e, .int .i64 a, .int .i64 b, .int .i64 f, .int .i64 cell, .int .u64 imm, .slice ao nA ac, .int .i64 nx, .int .i64 el] 64)).alloc (.cells #[.int .i64 d] 3))) := HW1.out.alloc (by simp) _
    have hs2 : w.heap.size + 1 + 1 ≤ ((w.alloc (.cells #[.int .u8 4, .int .u8 bop, .int .i64 d, .int .i64 e, .int .i64 a, .int .i64 b, .int .i64 f, .int .i64 cell, .int .u64 imm, .slice ao nA ac, .int .i64 nx, .int .i64 el] 64)).alloc (.cells #[.int .i64 d] 3)).heap.size := by simp
    rw [hz1] at HLR
    go_enter Tryd.func60, Tryd.ntmps60
    go_wp2_with (first | (go_at_call 61; refine (placesOf_own (w.heap.size + 1 + 1) _ 1 _ [d] _ HLR.out rfl HWF.out hs2 (by omega)).mono ?_; rintro ee w2 ⟨A2, c2, rfl, hr2, hc2, hb2⟩; have HR2 := Lib.hid hr2; have HB2 := Lib.hid hb2; clear hr2 hb2))
    go_ret
    exact NewO.mk' rfl rfl HR2.out hc2 HB2.out HW2.out
  · go_enter Tryd.func60, Tryd.ntmps60
    go_wp2
    go_ret
    exact NewO.mk' (l := []) rfl rfl (own_none _ _ _ _) (Nat.le_refl _) (Below.refl _ _) HW1.out
  · have HLR := Lib.hid (lit_reads (w.alloc (.cells #[.int .u8 6, .int .u8 bop, .int .i64 d, .int .i64 e, .int .i64 a, .int .i64 b, .int .i64 f, .int .i64 cell, .int .u64 imm, .slice ao nA ac, .int .i64 nx, .int .i64 el] 64)) 3 (i64c [d]) 1 rfl)
    have HWF : Hid (∀ x ∈ [d], I64 x) := Lib.hid (by intro x hx; simp at hx; subst hx; assumption)
    have HW2 : Hid (Below w.heap.size w ((w.alloc (.cells #[.int .u8 6, .int .u8 bop, .int .i64 d, .int .i64 e, .int .i64 a, .int .i64 b, .int .i64 f, .int .i64 cell, .int .u64 imm, .slice ao nA ac, .int .i64 nx, .int .i64 el] 64)).alloc (.cells #[.int .i64 d] 3))) := HW1.out.alloc (by simp) _
    have hs2 : w.heap.size + 1 + 1 ≤ ((w.alloc (.cells #[.int .u8 6, .int .u8 bop, .int .i64 d, .int .i64 e, .int .i64 a, .int .i64 b, .int .i64 f, .int .i64 cell, .int .u64 imm, .slice ao nA ac, .int .i64 nx, .int .i64 el] 64)).alloc (.cells #[.int .i64 d] 3)).heap.size := by simp
    rw [hz1] at HLR
    go_enter Tryd.func60, Tryd.ntmps60
    go_wp2_with (first | (go_at_call 61; refine (placesOf_own (w.heap.size + 1 + 1) _ 1 _ [d] _ HLR.out rfl HWF.out hs2 (by omega)).mono ?_; rintro ee w2 ⟨A2, c2, rfl, hr2, hc2, hb2⟩; have HR2 := Lib.hid hr2; have HB2 := Lib.hid hb2; clear hr2 hb2))
    go_ret
    exact NewO.mk' rfl rfl HR2.out hc2 HB2.out HW2.out
  · have HLR := Lib.hid (lit_reads (w.alloc (.cells #[.int .u8 7, .int .u8 bop, .int .i64 d, .int .i64 e, .int .i64 a, .int .i64 b, .int .i64 f, .int .i64 cell, .int .u64 imm, .slice ao nA ac, .int .i64 nx, .int .i64 el] 64)) 3 (i64c [d]) 1 rfl)
    have HWF : Hid (∀ x ∈ [d], I64 x) := Lib.hid (by intro x hx; simp at hx; subst hx; assumption)
    have HW2 : Hid (Below w.heap.size w ((w.alloc (.cells #[.int .u8 7, .int .u8 bop, .int .i64 d, .int .i64 e, .int .i64 a, .int .i64 b, .int .i64 f, .int .i64 cell, .int .u64 imm, .slice ao nA ac, .int .i64 nx, .int .i64 el] 64)).alloc (.cells #[.int .i64 d] 3))) := HW1.out.alloc (by simp) _
    have hs2 : w.heap.size + 1 + 1 ≤ ((w.alloc (.cells #[.int .u8 7, .int .u8 bop, .int .i64 d, .int .i64 e, .int .i64 a, .int .i64 b, .int .i64 f, .int .i64 cell, .int .u64 imm, .slice ao nA ac, .int .i64 nx, .int .i64 el] 64)).alloc (.cells #[.int .i64 d] 3)).heap.size := by simp
    rw [hz1] at HLR
    go_enter Tryd.func60, Tryd.ntmps60
    go_wp2_with (first | (go_at_call 61; refine (placesOf_own (w.heap.size + 1 + 1) _ 1 _ [d] _ HLR.out rfl HWF.out hs2 (by omega)).mono ?_; rintro ee w2 ⟨A2, c2, rfl, hr2, hc2, hb2⟩; have HR2 := Lib.hid hr2; have HB2 := Lib.hid hb2; clear hr2 hb2))
    go_ret
    exact NewO.mk' rfl rfl HR2.out hc2 HB2.out HW2.out
  · go_enter Tryd.func60, Tryd.ntmps60
    go_wp2
    go_ret
    exact NewO.mk' (l := []) rfl rfl (own_none _ _ _ _) (Nat.le_refl _) (Below.refl _ _) HW1.out
  · go_enter Tryd.func60, Tryd.ntmps60
    go_wp2
    go_ret
    exact NewO.mk' (l := []) rfl rfl (own_none _ _ _ _) (Nat.le_refl _) (Below.refl _ _) HW1.out
  · go_enter Tryd.func60, Tryd.ntmps60
    go_wp2
    go_ret
    exact NewO.mk' (l := []) rfl rfl (own_none _ _ _ _) (Nat.le_refl _) (Below.refl _ _) HW1.out
  · have HLR := Lib.hid (lit_reads (w.alloc (.cells #[.int .u8 11, .int .u8 bop, .int .i64 d, .int .i64 e, .int .i64 a, .int .i64 b, .int .i64 f, .int .i64 cell, .int .u64 imm, .slice ao nA ac, .int .i64 nx, .int .i64 el] 64)) 3 (i64c [d]) 1 rfl)
    have HWF : Hid (∀ x ∈ [d], I64 x) := Lib.hid (by intro x hx; simp at hx; subst hx; assumption)
    have HW2 : Hid (Below w.heap.size w ((w.alloc (.cells #[.int .u8 11, .int .u8 bop, .int .i64 d, .int .i64 e, .int .i64 a, .int .i64 b, .int .i64 f, .int .i64 cell, .int .u64 imm, .slice ao nA ac, .int .i64 nx, .int .i64 el] 64)).alloc (.cells #[.int .i64 d] 3))) := HW1.out.alloc (by simp) _
    have hs2 : w.heap.size + 1 + 1 ≤ ((w.alloc (.cells #[.int .u8 11, .int .u8 bop, .int .i64 d, .int .i64 e, .int .i64 a, .int .i64 b, .int .i64 f, .int .i64 cell, .int .u64 imm, .slice ao nA ac, .int .i64 nx, .int .i64 el] 64)).alloc (.cells #[.int .i64 d] 3)).heap.size := by simp
    rw [hz1] at HLR
    go_enter Tryd.func60, Tryd.ntmps60
    go_wp2_with (first | (go_at_call 61; refine (placesOf_own (w.heap.size + 1 + 1) _ 1 _ [d] _ HLR.out rfl HWF.out hs2 (by omega)).mono ?_; rintro ee w2 ⟨A2, c2, rfl, hr2, hc2, hb2⟩; have HR2 := Lib.hid hr2; have HB2 := Lib.hid hb2; clear hr2 hb2))
    go_ret
    exact NewO.mk' rfl rfl HR2.out hc2 HB2.out HW2.out
  · go_enter Tryd.func60, Tryd.ntmps60
    go_wp2
    go_ret
    exact NewO.mk' (l := []) rfl rfl (own_none _ _ _ _) (Nat.le_refl _) (Below.refl _ _) HW1.out
  · go_enter Tryd.func60, Tryd.ntmps60
    go_wp2
    go_ret
    exact NewO.mk' (l := []) rfl rfl (own_none _ _ _ _) (Nat.le_refl _) (Below.refl _ _) HW1.out
  · go_enter Tryd.func60, Tryd.ntmps60
    go_wp2
    go_ret
    exact NewO.mk' (l := []) rfl rfl (own_none _ _ _ _) (Nat.le_refl _) (Below.refl _ _) HW1.out
  · have HLR := Lib.hid (lit_reads (w.alloc (.cells #[.int .u8 15, .int .u8 bop, .int .i64 d, .int .i64 e, .int .i64 a, .int .i64 b, .int .i64 f, .int .i64 cell, .int .u64 imm, .slice ao nA ac, .int .i64 nx, .int .i64 el] 64)) 3 (i64c [d, e]) 2 rfl)
    have HWF : Hid (∀ x ∈ [d, e], I64 x) := Lib.hid (by intro x hx; simp at hx; rcases hx with rfl | rfl <;> assumption)
    have HW2 : Hid (Below w.heap.size w ((w.alloc (.cells #[.int .u8 15, .int .u8 bop, .int .i64 d, .int .i64 e, .int .i64 a, .int .i64 b, .int .i64 f, .int .i64 cell, .int .u64 imm, .slice ao nA ac, .int .i64 nx, .int .i64 el] 64)).alloc (.cells #[.int .i64 d, .int .i64 e] 3))) := HW1.out.alloc (by simp) _
    have hs2 : w.heap.size + 1 + 1 ≤ ((w.alloc (.cells #[.int .u8 15, .int .u8 bop, .int .i64 d, .int .i64 e, .int .i64 a, .int .i64 b, .int .i64 f, .int .i64 cell, .int .u64 imm, .slice ao nA ac, .int .i64 nx, .int .i64 el] 64)).alloc (.cells #[.int .i64 d, .int .i64 e] 3)).heap.size := by simp
    rw [hz1] at HLR
    go_enter Tryd.func60, Tryd.ntmps60
    go_wp2_with (first | (go_at_call 61; refine (placesOf_own (w.heap.size + 1 + 1) _ 2 _ [d, e] _ HLR.out rfl HWF.out hs2 (by omega)).mono ?_; rintro ee w2 ⟨A2, c2, rfl, hr2, hc2, hb2⟩; have HR2 := Lib.hid hr2; have HB2 := Lib.hid hb2; clear hr2 hb2))
    go_ret
    exact NewO.mk' rfl rfl HR2.out hc2 HB2.out HW2.out
  · have HLR := Lib.hid (lit_reads (w.alloc (.cells #[.int .u8 16, .int .u8 bop, .int .i64 d, .int .i64 e, .int .i64 a, .int .i64 b, .int .i64 f, .int .i64 cell, .int .u64 imm, .slice ao nA ac, .int .i64 nx, .int .i64 el] 64)) 3 (i64c [d]) 1 rfl)
    have HWF : Hid (∀ x ∈ [d], I64 x) := Lib.hid (by intro x hx; simp at hx; subst hx; assumption)
    have HW2 : Hid (Below w.heap.size w ((w.alloc (.cells #[.int .u8 16, .int .u8 bop, .int .i64 d, .int .i64 e, .int .i64 a, .int .i64 b, .int .i64 f, .int .i64 cell, .int .u64 imm, .slice ao nA ac, .int .i64 nx, .int .i64 el] 64)).alloc (.cells #[.int .i64 d] 3))) := HW1.out.alloc (by simp) _
    have hs2 : w.heap.size + 1 + 1 ≤ ((w.alloc (.cells #[.int .u8 16, .int .u8 bop, .int .i64 d, .int .i64 e, .int .i64 a, .int .i64 b, .int .i64 f, .int .i64 cell, .int .u64 imm, .slice ao nA ac, .int .i64 nx, .int .i64 el] 64)).alloc (.cells #[.int .i64 d] 3)).heap.size := by simp
    rw [hz1] at HLR
    go_enter Tryd.func60, Tryd.ntmps60
    go_wp2_with (first | (go_at_call 61; refine (placesOf_own (w.heap.size + 1 + 1) _ 1 _ [d] _ HLR.out rfl HWF.out hs2 (by omega)).mono ?_; rintro ee w2 ⟨A2, c2, rfl, hr2, hc2, hb2⟩; have HR2 := Lib.hid hr2; have HB2 := Lib.hid hb2; clear hr2 hb2))
    go_ret
    exact NewO.mk' rfl rfl HR2.out hc2 HB2.out HW2.out
  · go_enter Tryd.func60, Tryd.ntmps60
    go_wp2
    go_ret
    exact NewO.mk' (l := []) rfl rfl (own_none _ _ _ _) (Nat.le_refl _) (Below.refl _ _) HW1.out
  · go_enter Tryd.func60, Tryd.ntmps60
    go_wp2
    go_ret
    exact NewO.mk' (l := []) rfl rfl (own_none _ _ _ _) (Nat.le_refl _) (Below.refl _ _) HW1.out
  · have hL : writesOf ⟨op, bop, d, e, a, b, f, cell, imm, args, nx, el⟩ = [] := by
      unfold writesOf
      simp only [writeF]
      repeat rw [if_neg (by omega)]
      rfl
    have HLL := Lib.hid hL
    clear hL
    have g1 : (op == 1) = false := by simp; omega
    have g2 : (op == 2) = false := by simp; omega
    have g3 : (op == 3) = false := by simp; omega
    have g4 : (op == 4) = false := by simp; omega
    have g6 : (op == 6) = false := by simp; omega
    have g7 : (op == 7) = false := by simp; omega
    have g11 : (op == 11) = false := by simp; omega
    have g16 : (op == 16) = false := by simp; omega
    have g15 : (op == 15) = false := by simp; omega
    go_enter Tryd.func60, Tryd.ntmps60
    go_wp2
    go_ret
    exact NewO.mk' HLL.out.symm rfl (own_none _ _ _ _) (Nat.le_refl _) (Below.refl _ _) HW1.out
end Go.Proofs.YtmfdaeicbaibeaaDoor
