/-
  Package ir: a graph's head, whole.
-/
import Derived.Test.YtmfdaeicbaibeaaDoorCv
namespace Go.Proofs.YtmfdaeicbaibeaaDoor
set_option linter.unusedVariables false
set_option linter.unusedSimpArgs false
open Go.ChangeShapes Go.WideShapes Go.ChangeAt Go.RowKit

set_option maxRecDepth 100000 in
set_option maxHeartbeats 12800000 in
theorem headHolds_any (B : Nat) (ps ks is : List Int) (nodes : List Nd) (bd : Bool) (po ko io no : Option Addr) (nP pc nK kc nI ic nN nc : Nat) (cells keep entry : Int) (res : Bool) (w : World) (hp : Reads w B 1 po nP (i64c ps)) (hpl : ps.length = nP) (hpc : nP ≤ pc) (hnP : nP ≤ 140737488351232) (hk : Reads w B 1 ko nK (u8c ks)) (hkl : ks.length = nK) (hnK : nK ≤ 140737488351232) (hi : Reads w B 1 io nI (i64c is)) (hil : is.length = nI) (hnI : nI ≤ 140737488351232) (hnl : nodes.length = nN) (hB : B ≤ w.heap.size) :
    Calls Tryd.prog 68 #[.agg #[.slice po nP pc, .slice ko nK kc, .int .i64 cells, .slice io nI ic, .bool res, .int .i64 keep, .slice no nN nc, .int .i64 entry], .bool bd] w fun e w' => e = .returned (.bool (decide (headHolds ⟨ps, ks, cells, is, res, keep, nodes, entry⟩ bd))) ∧ Below w.heap.size w w' := by
  have HBL : Hid (Below w.heap.size w (w.alloc (.cells #[.slice po nP pc, .slice ko nK kc, .int .i64 cells, .slice io nI ic, .bool res, .int .i64 keep, .slice no nN nc, .int .i64 entry] 37))) := (Below.refl _ _).alloc (Nat.le_refl _) _
  have HBX : Hid (Blk (w.alloc (.cells #[.slice po nP pc, .slice ko nK kc, .int .i64 cells, .slice io nI ic, .bool res, .int .i64 keep, .slice no nN nc, .int .i64 entry] 37)) w.heap.size 37 #[.slice po nP pc, .slice ko nK kc, .int .i64 cells, .slice io nI ic, .bool res, .int .i64 keep, .slice no nN nc, .int .i64 entry]) := Blk.new w _ _
  have HP := Lib.hid (hp.below (HBL.out.mono hB))
  have HK := Lib.hid (hk.below (HBL.out.mono hB))
  have HP0 := Lib.hid hp
  have HK0 := Lib.hid hk
  have HI0 := Lib.hid hi
  have HPL := Lib.hid hpl
  have HKL := Lib.hid hkl
  have HIL := Lib.hid hil
  have HNL := Lib.hid hnl
  have hB1 : B ≤ (w.alloc (.cells #[.slice po nP pc, .slice ko nK kc, .int .i64 cells, .slice io nI ic, .bool res, .int .i64 keep, .slice no nN nc, .int .i64 entry] 37)).heap.size := by simp; omega
  have HDF : (headHolds ⟨ps, ks, cells, is, res, keep, nodes, entry⟩ bd ↔ kindsHold ks bd ∧ 0 ≤ cells ∧ cells ≤ 64 ∧ paramsHold ps ks bd ∧ initHolds ps ks is cells bd ∧ (keep = -1 ∨ isOne keep cells) ∧ nN ≤ 4096 ∧ isOne entry nN) := by
    unfold headHolds
    simp only [hnl]
  clear hp hk hi hpl hkl hil hnl
  by_cases c1 : kindsHold ks bd
  rotate_left
  · have HD : Hid (decide (headHolds ⟨ps, ks, cells, is, res, keep, nodes, entry⟩ bd) = false) := Lib.hid (by rw [decide_eq_false_iff_not, HDF]; rintro ⟨h1, h2, h3, h4, h5, h6, h7, h8⟩; exact c1 h1)
    have H1 : Hid (decide (kindsHold ks bd) = false) := Lib.hid (decide_eq_false c1)
    clear HDF c1
    go_enter Tryd.func68, Tryd.ntmps68
    go_wp2_with (first
      | (go_at_call 76; refine (kindsHold_any B _ _ _ ks bd _ HK.out HKL.out hnK).mono ?_; rintro e w1 ⟨rfl, rfl⟩; rw [H1.out]))
    go_ret
    exact ⟨by rw [HD.out]; rfl, HBL.out⟩
  have H1 : Hid (decide (kindsHold ks bd) = true) := Lib.hid (decide_eq_true c1)
  by_cases c2 : 0 ≤ cells
  rotate_left
  · have HD : Hid (decide (headHolds ⟨ps, ks, cells, is, res, keep, nodes, entry⟩ bd) = false) := Lib.hid (by rw [decide_eq_false_iff_not, HDF]; rintro ⟨h1, h2, h3, h4, h5, h6, h7, h8⟩; exact c2 h2)
    have g2 : decide (cells ≥ 0) = false := by simp; omega
    clear HDF c1 c2
    go_enter Tryd.func68, Tryd.ntmps68
    go_wp2_with (first
      | (go_at_call 76; refine (kindsHold_any B _ _ _ ks bd _ HK.out HKL.out hnK).mono ?_; rintro e w1 ⟨rfl, rfl⟩; rw [H1.out]))
    go_ret
    exact ⟨by rw [HD.out]; rfl, HBL.out⟩
  have g2 : decide (cells ≥ 0) = true := by simp; omega
  by_cases c3 : cells ≤ 64
  rotate_left
  · have HD : Hid (decide (headHolds ⟨ps, ks, cells, is, res, keep, nodes, entry⟩ bd) = false) := Lib.hid (by rw [decide_eq_false_iff_not, HDF]; rintro ⟨h1, h2, h3, h4, h5, h6, h7, h8⟩; exact c3 h3)
    have g3 : decide (cells ≤ 64) = false := by simp; omega
    clear HDF c1 c2 c3
    go_enter Tryd.func68, Tryd.ntmps68
    go_wp2_with (first
      | (go_at_call 76; refine (kindsHold_any B _ _ _ ks bd _ HK.out HKL.out hnK).mono ?_; rintro e w1 ⟨rfl, rfl⟩; rw [H1.out]))
    go_ret
    exact ⟨by rw [HD.out]; rfl, HBL.out⟩
  have g3 : decide (cells ≤ 64) = true := by simp; omega
  by_cases c4 : paramsHold ps ks bd
  rotate_left
  · have HD : Hid (decide (headHolds ⟨ps, ks, cells, is, res, keep, nodes, entry⟩ bd) = false) := Lib.hid (by rw [decide_eq_false_iff_not, HDF]; rintro ⟨h1, h2, h3, h4, h5, h6, h7, h8⟩; exact c4 h4)
    have H4 : Hid (decide (paramsHold ps ks bd) = false) := Lib.hid (decide_eq_false c4)
    clear HDF c1 c2 c3 c4
    go_enter Tryd.func68, Tryd.ntmps68
    go_wp2_with (first
      | (go_at_call 76; refine (kindsHold_any B _ _ _ ks bd _ HK.out HKL.out hnK).mono ?_; rintro e w1 ⟨rfl, rfl⟩; rw [H1.out])
      | (go_at_call 77; refine (paramsHold_any B ps ks bd _ _ _ _ _ _ _ _ _ _ _ _ _ _ _ _ _ HP.out HPL.out hpc hnP HKL.out hB1).mono ?_; rintro e w2 ⟨rfl, hb2⟩; have hbx2 := HBX.out.below hb2 HBX.out.lt; have e0 : w2.cell? ⟨w.heap.size, 0, none⟩ = some (.slice po nP pc) := hbx2.cell 0; have e1 : w2.cell? ⟨w.heap.size, 1, none⟩ = some (.slice ko nK kc) := hbx2.cell 1; have e2 : w2.cell? ⟨w.heap.size, 2, none⟩ = some (.int .i64 cells) := hbx2.cell 2; have e3 : w2.cell? ⟨w.heap.size, 3, none⟩ = some (.slice io nI ic) := hbx2.cell 3; have e4 : w2.cell? ⟨w.heap.size, 4, none⟩ = some (.bool res) := hbx2.cell 4; have e5 : w2.cell? ⟨w.heap.size, 5, none⟩ = some (.int .i64 keep) := hbx2.cell 5; have e6 : w2.cell? ⟨w.heap.size, 6, none⟩ = some (.slice no nN nc) := hbx2.cell 6; have e7 : w2.cell? ⟨w.heap.size, 7, none⟩ = some (.int .i64 entry) := hbx2.cell 7; have HBL2 := Lib.hid (HBL.out.trans (hb2.mono HBL.out.size)); have hs2 : w.heap.size < w2.heap.size := hbx2.lt; have HX2 := Lib.hid hbx2; clear hb2 hbx2; rw [H4.out]))
    go_ret
    exact ⟨by rw [HD.out]; rfl, HBL2.out⟩
  have H4 : Hid (decide (paramsHold ps ks bd) = true) := Lib.hid (decide_eq_true c4)
  have HPP := Lib.hid c4
  by_cases c5 : initHolds ps ks is cells bd
  rotate_left
  · have HD : Hid (decide (headHolds ⟨ps, ks, cells, is, res, keep, nodes, entry⟩ bd) = false) := Lib.hid (by rw [decide_eq_false_iff_not, HDF]; rintro ⟨h1, h2, h3, h4, h5, h6, h7, h8⟩; exact c5 h5)
    have H5 : Hid (decide (initHolds ps ks is cells bd) = false) := Lib.hid (decide_eq_false c5)
    clear HDF c1 c2 c3 c4 c5
    go_enter Tryd.func68, Tryd.ntmps68
    go_wp2_with (first
      | (go_at_call 76; refine (kindsHold_any B _ _ _ ks bd _ HK.out HKL.out hnK).mono ?_; rintro e w1 ⟨rfl, rfl⟩; rw [H1.out])
      | (go_at_call 77; refine (paramsHold_any B ps ks bd _ _ _ _ _ _ _ _ _ _ _ _ _ _ _ _ _ HP.out HPL.out hpc hnP HKL.out hB1).mono ?_; rintro e w2 ⟨rfl, hb2⟩; have hbx2 := HBX.out.below hb2 HBX.out.lt; have e0 : w2.cell? ⟨w.heap.size, 0, none⟩ = some (.slice po nP pc) := hbx2.cell 0; have e1 : w2.cell? ⟨w.heap.size, 1, none⟩ = some (.slice ko nK kc) := hbx2.cell 1; have e2 : w2.cell? ⟨w.heap.size, 2, none⟩ = some (.int .i64 cells) := hbx2.cell 2; have e3 : w2.cell? ⟨w.heap.size, 3, none⟩ = some (.slice io nI ic) := hbx2.cell 3; have e4 : w2.cell? ⟨w.heap.size, 4, none⟩ = some (.bool res) := hbx2.cell 4; have e5 : w2.cell? ⟨w.heap.size, 5, none⟩ = some (.int .i64 keep) := hbx2.cell 5; have e6 : w2.cell? ⟨w.heap.size, 6, none⟩ = some (.slice no nN nc) := hbx2.cell 6; have e7 : w2.cell? ⟨w.heap.size, 7, none⟩ = some (.int .i64 entry) := hbx2.cell 7; have HBL2 := Lib.hid (HBL.out.trans (hb2.mono HBL.out.size)); have hs2 : w.heap.size < w2.heap.size := hbx2.lt; have HX2 := Lib.hid hbx2; clear hb2 hbx2; rw [H4.out])
      | (go_at_call 78; refine (initHolds_any B ps ks is bd _ _ _ _ _ _ _ _ _ _ _ _ _ _ _ _ w2 (HP0.out.below (HBL2.out.mono hB)) HPL.out (HK0.out.below (HBL2.out.mono hB)) HKL.out (HI0.out.below (HBL2.out.mono hB)) HIL.out hnI (by omega) HPP.out).mono ?_; rintro e w3 ⟨rfl, hb3⟩; have hbx3 := HX2.out.below hb3 hs2; have f0 : w3.cell? ⟨w.heap.size, 0, none⟩ = some (.slice po nP pc) := hbx3.cell 0; have f1 : w3.cell? ⟨w.heap.size, 1, none⟩ = some (.slice ko nK kc) := hbx3.cell 1; have f2 : w3.cell? ⟨w.heap.size, 2, none⟩ = some (.int .i64 cells) := hbx3.cell 2; have f3 : w3.cell? ⟨w.heap.size, 3, none⟩ = some (.slice io nI ic) := hbx3.cell 3; have f4 : w3.cell? ⟨w.heap.size, 4, none⟩ = some (.bool res) := hbx3.cell 4; have f5 : w3.cell? ⟨w.heap.size, 5, none⟩ = some (.int .i64 keep) := hbx3.cell 5; have f6 : w3.cell? ⟨w.heap.size, 6, none⟩ = some (.slice no nN nc) := hbx3.cell 6; have f7 : w3.cell? ⟨w.heap.size, 7, none⟩ = some (.int .i64 entry) := hbx3.cell 7; have HBL3 := Lib.hid (HBL2.out.trans (hb3.mono HBL2.out.size)); clear hb3 hbx3; rw [H5.out]))
    go_ret
    exact ⟨by rw [HD.out]; rfl, HBL3.out⟩
  have H5 : Hid (decide (initHolds ps ks is cells bd) = true) := Lib.hid (decide_eq_true c5)
  by_cases c6 : keep = -1 ∨ isOne keep cells
  rotate_left
  · have HD : Hid (decide (headHolds ⟨ps, ks, cells, is, res, keep, nodes, entry⟩ bd) = false) := Lib.hid (by rw [decide_eq_false_iff_not, HDF]; rintro ⟨h1, h2, h3, h4, h5, h6, h7, h8⟩; exact c6 h6)
    have g6 : (keep == -1) = false := by simp; exact fun h => c6 (.inl h)
    have H6 : Hid (decide (isOne keep cells) = false) := Lib.hid (decide_eq_false fun h => c6 (.inr h))
    have H8 := H6
    clear HDF c1 c2 c3 c4 c5 c6
    go_enter Tryd.func68, Tryd.ntmps68
    go_wp2_with (first
      | (go_at_call 76; refine (kindsHold_any B _ _ _ ks bd _ HK.out HKL.out hnK).mono ?_; rintro e w1 ⟨rfl, rfl⟩; rw [H1.out])
      | (go_at_call 77; refine (paramsHold_any B ps ks bd _ _ _ _ _ _ _ _ _ _ _ _ _ _ _ _ _ HP.out HPL.out hpc hnP HKL.out hB1).mono ?_; rintro e w2 ⟨rfl, hb2⟩; have hbx2 := HBX.out.below hb2 HBX.out.lt; have e0 : w2.cell? ⟨w.heap.size, 0, none⟩ = some (.slice po nP pc) := hbx2.cell 0; have e1 : w2.cell? ⟨w.heap.size, 1, none⟩ = some (.slice ko nK kc) := hbx2.cell 1; have e2 : w2.cell? ⟨w.heap.size, 2, none⟩ = some (.int .i64 cells) := hbx2.cell 2; have e3 : w2.cell? ⟨w.heap.size, 3, none⟩ = some (.slice io nI ic) := hbx2.cell 3; have e4 : w2.cell? ⟨w.heap.size, 4, none⟩ = some (.bool res) := hbx2.cell 4; have e5 : w2.cell? ⟨w.heap.size, 5, none⟩ = some (.int .i64 keep) := hbx2.cell 5; have e6 : w2.cell? ⟨w.heap.size, 6, none⟩ = some (.slice no nN nc) := hbx2.cell 6; have e7 : w2.cell? ⟨w.heap.size, 7, none⟩ = some (.int .i64 entry) := hbx2.cell 7; have HBL2 := Lib.hid (HBL.out.trans (hb2.mono HBL.out.size)); have hs2 : w.heap.size < w2.heap.size := hbx2.lt; have HX2 := Lib.hid hbx2; clear hb2 hbx2; rw [H4.out])
      | (go_at_call 78; refine (initHolds_any B ps ks is bd _ _ _ _ _ _ _ _ _ _ _ _ _ _ _ _ w2 (HP0.out.below (HBL2.out.mono hB)) HPL.out (HK0.out.below (HBL2.out.mono hB)) HKL.out (HI0.out.below (HBL2.out.mono hB)) HIL.out hnI (by omega) HPP.out).mono ?_; rintro e w3 ⟨rfl, hb3⟩; have hbx3 := HX2.out.below hb3 hs2; have f0 : w3.cell? ⟨w.heap.size, 0, none⟩ = some (.slice po nP pc) := hbx3.cell 0; have f1 : w3.cell? ⟨w.heap.size, 1, none⟩ = some (.slice ko nK kc) := hbx3.cell 1; have f2 : w3.cell? ⟨w.heap.size, 2, none⟩ = some (.int .i64 cells) := hbx3.cell 2; have f3 : w3.cell? ⟨w.heap.size, 3, none⟩ = some (.slice io nI ic) := hbx3.cell 3; have f4 : w3.cell? ⟨w.heap.size, 4, none⟩ = some (.bool res) := hbx3.cell 4; have f5 : w3.cell? ⟨w.heap.size, 5, none⟩ = some (.int .i64 keep) := hbx3.cell 5; have f6 : w3.cell? ⟨w.heap.size, 6, none⟩ = some (.slice no nN nc) := hbx3.cell 6; have f7 : w3.cell? ⟨w.heap.size, 7, none⟩ = some (.int .i64 entry) := hbx3.cell 7; have HBL3 := Lib.hid (HBL2.out.trans (hb3.mono HBL2.out.size)); clear hb3 hbx3; rw [H5.out])
      | (go_at_call 79; refine (isOne_any _ _ _).mono ?_; rintro e w4 ⟨rfl, rfl⟩; first | rw [H6.out] | rw [H8.out]))
    go_ret
    exact ⟨by rw [HD.out]; rfl, HBL3.out⟩
  by_cases c7 : nN ≤ 4096
  rotate_left
  · have HD : Hid (decide (headHolds ⟨ps, ks, cells, is, res, keep, nodes, entry⟩ bd) = false) := Lib.hid (by rw [decide_eq_false_iff_not, HDF]; rintro ⟨h1, h2, h3, h4, h5, h6, h7, h8⟩; exact c7 h7)
    rcases c6 with c6 | c6
    · have g6 : (keep == -1) = true := by simpa using c6
      have g7 : decide ((nN : Int) ≤ 4096) = false := by simp; omega
      clear HDF c1 c2 c3 c4 c5 c6 c7
      go_enter Tryd.func68, Tryd.ntmps68
      go_wp2_with (first
        | (go_at_call 76; refine (kindsHold_any B _ _ _ ks bd _ HK.out HKL.out hnK).mono ?_; rintro e w1 ⟨rfl, rfl⟩; rw [H1.out])
        | (go_at_call 77; refine (paramsHold_any B ps ks bd _ _ _ _ _ _ _ _ _ _ _ _ _ _ _ _ _ HP.out HPL.out hpc hnP HKL.out hB1).mono ?_; rintro e w2 ⟨rfl, hb2⟩; have hbx2 := HBX.out.below hb2 HBX.out.lt; have e0 : w2.cell? ⟨w.heap.size, 0, none⟩ = some (.slice po nP pc) := hbx2.cell 0; have e1 : w2.cell? ⟨w.heap.size, 1, none⟩ = some (.slice ko nK kc) := hbx2.cell 1; have e2 : w2.cell? ⟨w.heap.size, 2, none⟩ = some (.int .i64 cells) := hbx2.cell 2; have e3 : w2.cell? ⟨w.heap.size, 3, none⟩ = some (.slice io nI ic) := hbx2.cell 3; have e4 : w2.cell? ⟨w.heap.size, 4, none⟩ = some (.bool res) := hbx2.cell 4; have e5 : w2.cell? ⟨w.heap.size, 5, none⟩ = some (.int .i64 keep) := hbx2.cell 5; have e6 : w2.cell? ⟨w.heap.size, 6, none⟩ = some (.slice no nN nc) := hbx2.cell 6; have e7 : w2.cell? ⟨w.heap.size, 7, none⟩ = some (.int .i64 entry) := hbx2.cell 7; have HBL2 := Lib.hid (HBL.out.trans (hb2.mono HBL.out.size)); have hs2 : w.heap.size < w2.heap.size := hbx2.lt; have HX2 := Lib.hid hbx2; clear hb2 hbx2; rw [H4.out])
        | (go_at_call 78; refine (initHolds_any B ps ks is bd _ _ _ _ _ _ _ _ _ _ _ _ _ _ _ _ w2 (HP0.out.below (HBL2.out.mono hB)) HPL.out (HK0.out.below (HBL2.out.mono hB)) HKL.out (HI0.out.below (HBL2.out.mono hB)) HIL.out hnI (by omega) HPP.out).mono ?_; rintro e w3 ⟨rfl, hb3⟩; have hbx3 := HX2.out.below hb3 hs2; have f0 : w3.cell? ⟨w.heap.size, 0, none⟩ = some (.slice po nP pc) := hbx3.cell 0; have f1 : w3.cell? ⟨w.heap.size, 1, none⟩ = some (.slice ko nK kc) := hbx3.cell 1; have f2 : w3.cell? ⟨w.heap.size, 2, none⟩ = some (.int .i64 cells) := hbx3.cell 2; have f3 : w3.cell? ⟨w.heap.size, 3, none⟩ = some (.slice io nI ic) := hbx3.cell 3; have f4 : w3.cell? ⟨w.heap.size, 4, none⟩ = some (.bool res) := hbx3.cell 4; have f5 : w3.cell? ⟨w.heap.size, 5, none⟩ = some (.int .i64 keep) := hbx3.cell 5; have f6 : w3.cell? ⟨w.heap.size, 6, none⟩ = some (.slice no nN nc) := hbx3.cell 6; have f7 : w3.cell? ⟨w.heap.size, 7, none⟩ = some (.int .i64 entry) := hbx3.cell 7; have HBL3 := Lib.hid (HBL2.out.trans (hb3.mono HBL2.out.size)); clear hb3 hbx3; rw [H5.out]))
      go_ret
      exact ⟨by rw [HD.out]; rfl, HBL3.out⟩
    · have H6 : Hid (decide (isOne keep cells) = true) := Lib.hid (decide_eq_true c6)
      have g6 : (keep == -1) = false := by have := c6.1; simp; omega
      have g7 : decide ((nN : Int) ≤ 4096) = false := by simp; omega
      have H8 := H6
      clear HDF c1 c2 c3 c4 c5 c6 c7
      go_enter Tryd.func68, Tryd.ntmps68
      go_wp2_with (first
        | (go_at_call 76; refine (kindsHold_any B _ _ _ ks bd _ HK.out HKL.out hnK).mono ?_; rintro e w1 ⟨rfl, rfl⟩; rw [H1.out])
        | (go_at_call 77; refine (paramsHold_any B ps ks bd _ _ _ _ _ _ _ _ _ _ _ _ _ _ _ _ _ HP.out HPL.out hpc hnP HKL.out hB1).mono ?_; rintro e w2 ⟨rfl, hb2⟩; have hbx2 := HBX.out.below hb2 HBX.out.lt; have e0 : w2.cell? ⟨w.heap.size, 0, none⟩ = some (.slice po nP pc) := hbx2.cell 0; have e1 : w2.cell? ⟨w.heap.size, 1, none⟩ = some (.slice ko nK kc) := hbx2.cell 1; have e2 : w2.cell? ⟨w.heap.size, 2, none⟩ = some (.int .i64 cells) := hbx2.cell 2; have e3 : w2.cell? ⟨w.heap.size, 3, none⟩ = some (.slice io nI ic) := hbx2.cell 3; have e4 : w2.cell? ⟨w.heap.size, 4, none⟩ = some (.bool res) := hbx2.cell 4; have e5 : w2.cell? ⟨w.heap.size, 5, none⟩ = some (.int .i64 keep) := hbx2.cell 5; have e6 : w2.cell? ⟨w.heap.size, 6, none⟩ = some (.slice no nN nc) := hbx2.cell 6; have e7 : w2.cell? ⟨w.heap.size, 7, none⟩ = some (.int .i64 entry) := hbx2.cell 7; have HBL2 := Lib.hid (HBL.out.trans (hb2.mono HBL.out.size)); have hs2 : w.heap.size < w2.heap.size := hbx2.lt; have HX2 := Lib.hid hbx2; clear hb2 hbx2; rw [H4.out])
        | (go_at_call 78; refine (initHolds_any B ps ks is bd _ _ _ _ _ _ _ _ _ _ _ _ _ _ _ _ w2 (HP0.out.below (HBL2.out.mono hB)) HPL.out (HK0.out.below (HBL2.out.mono hB)) HKL.out (HI0.out.below (HBL2.out.mono hB)) HIL.out hnI (by omega) HPP.out).mono ?_; rintro e w3 ⟨rfl, hb3⟩; have hbx3 := HX2.out.below hb3 hs2; have f0 : w3.cell? ⟨w.heap.size, 0, none⟩ = some (.slice po nP pc) := hbx3.cell 0; have f1 : w3.cell? ⟨w.heap.size, 1, none⟩ = some (.slice ko nK kc) := hbx3.cell 1; have f2 : w3.cell? ⟨w.heap.size, 2, none⟩ = some (.int .i64 cells) := hbx3.cell 2; have f3 : w3.cell? ⟨w.heap.size, 3, none⟩ = some (.slice io nI ic) := hbx3.cell 3; have f4 : w3.cell? ⟨w.heap.size, 4, none⟩ = some (.bool res) := hbx3.cell 4; have f5 : w3.cell? ⟨w.heap.size, 5, none⟩ = some (.int .i64 keep) := hbx3.cell 5; have f6 : w3.cell? ⟨w.heap.size, 6, none⟩ = some (.slice no nN nc) := hbx3.cell 6; have f7 : w3.cell? ⟨w.heap.size, 7, none⟩ = some (.int .i64 entry) := hbx3.cell 7; have HBL3 := Lib.hid (HBL2.out.trans (hb3.mono HBL2.out.size)); clear hb3 hbx3; rw [H5.out])
        | (go_at_call 79; refine (isOne_any _ _ _).mono ?_; rintro e w4 ⟨rfl, rfl⟩; first | rw [H6.out] | rw [H8.out]))
      go_ret
      exact ⟨by rw [HD.out]; rfl, HBL3.out⟩
  have g7 : decide ((nN : Int) ≤ 4096) = true := by simp; omega
  by_cases c8 : isOne entry nN
  rotate_left
  · have HD : Hid (decide (headHolds ⟨ps, ks, cells, is, res, keep, nodes, entry⟩ bd) = false) := Lib.hid (by rw [decide_eq_false_iff_not, HDF]; rintro ⟨h1, h2, h3, h4, h5, h6, h7, h8⟩; exact c8 h8)
    rcases c6 with c6 | c6
    · have g6 : (keep == -1) = true := by simpa using c6
      have H8 : Hid (decide (isOne entry nN) = false) := Lib.hid (decide_eq_false c8)
      have H6 := H8
      clear HDF c1 c2 c3 c4 c5 c6 c7 c8
      go_enter Tryd.func68, Tryd.ntmps68
      go_wp2_with (first
        | (go_at_call 76; refine (kindsHold_any B _ _ _ ks bd _ HK.out HKL.out hnK).mono ?_; rintro e w1 ⟨rfl, rfl⟩; rw [H1.out])
        | (go_at_call 77; refine (paramsHold_any B ps ks bd _ _ _ _ _ _ _ _ _ _ _ _ _ _ _ _ _ HP.out HPL.out hpc hnP HKL.out hB1).mono ?_; rintro e w2 ⟨rfl, hb2⟩; have hbx2 := HBX.out.below hb2 HBX.out.lt; have e0 : w2.cell? ⟨w.heap.size, 0, none⟩ = some (.slice po nP pc) := hbx2.cell 0; have e1 : w2.cell? ⟨w.heap.size, 1, none⟩ = some (.slice ko nK kc) := hbx2.cell 1; have e2 : w2.cell? ⟨w.heap.size, 2, none⟩ = some (.int .i64 cells) := hbx2.cell 2; have e3 : w2.cell? ⟨w.heap.size, 3, none⟩ = some (.slice io nI ic) := hbx2.cell 3; have e4 : w2.cell? ⟨w.heap.size, 4, none⟩ = some (.bool res) := hbx2.cell 4; have e5 : w2.cell? ⟨w.heap.size, 5, none⟩ = some (.int .i64 keep) := hbx2.cell 5; have e6 : w2.cell? ⟨w.heap.size, 6, none⟩ = some (.slice no nN nc) := hbx2.cell 6; have e7 : w2.cell? ⟨w.heap.size, 7, none⟩ = some (.int .i64 entry) := hbx2.cell 7; have HBL2 := Lib.hid (HBL.out.trans (hb2.mono HBL.out.size)); have hs2 : w.heap.size < w2.heap.size := hbx2.lt; have HX2 := Lib.hid hbx2; clear hb2 hbx2; rw [H4.out])
        | (go_at_call 78; refine (initHolds_any B ps ks is bd _ _ _ _ _ _ _ _ _ _ _ _ _ _ _ _ w2 (HP0.out.below (HBL2.out.mono hB)) HPL.out (HK0.out.below (HBL2.out.mono hB)) HKL.out (HI0.out.below (HBL2.out.mono hB)) HIL.out hnI (by omega) HPP.out).mono ?_; rintro e w3 ⟨rfl, hb3⟩; have hbx3 := HX2.out.below hb3 hs2; have f0 : w3.cell? ⟨w.heap.size, 0, none⟩ = some (.slice po nP pc) := hbx3.cell 0; have f1 : w3.cell? ⟨w.heap.size, 1, none⟩ = some (.slice ko nK kc) := hbx3.cell 1; have f2 : w3.cell? ⟨w.heap.size, 2, none⟩ = some (.int .i64 cells) := hbx3.cell 2; have f3 : w3.cell? ⟨w.heap.size, 3, none⟩ = some (.slice io nI ic) := hbx3.cell 3; have f4 : w3.cell? ⟨w.heap.size, 4, none⟩ = some (.bool res) := hbx3.cell 4; have f5 : w3.cell? ⟨w.heap.size, 5, none⟩ = some (.int .i64 keep) := hbx3.cell 5; have f6 : w3.cell? ⟨w.heap.size, 6, none⟩ = some (.slice no nN nc) := hbx3.cell 6; have f7 : w3.cell? ⟨w.heap.size, 7, none⟩ = some (.int .i64 entry) := hbx3.cell 7; have HBL3 := Lib.hid (HBL2.out.trans (hb3.mono HBL2.out.size)); clear hb3 hbx3; rw [H5.out])
        | (go_at_call 79; refine (isOne_any _ _ _).mono ?_; rintro e w4 ⟨rfl, rfl⟩; first | rw [H6.out] | rw [H8.out]))
      go_ret
      exact ⟨by rw [HD.out]; rfl, HBL3.out⟩
    · have H6 : Hid (decide (isOne keep cells) = true) := Lib.hid (decide_eq_true c6)
      have g6 : (keep == -1) = false := by have := c6.1; simp; omega
      have H8 : Hid (decide (isOne entry nN) = false) := Lib.hid (decide_eq_false c8)
      clear HDF c1 c2 c3 c4 c5 c6 c7 c8
      go_enter Tryd.func68, Tryd.ntmps68
      go_wp2_with (first
        | (go_at_call 76; refine (kindsHold_any B _ _ _ ks bd _ HK.out HKL.out hnK).mono ?_; rintro e w1 ⟨rfl, rfl⟩; rw [H1.out])
        | (go_at_call 77; refine (paramsHold_any B ps ks bd _ _ _ _ _ _ _ _ _ _ _ _ _ _ _ _ _ HP.out HPL.out hpc hnP HKL.out hB1).mono ?_; rintro e w2 ⟨rfl, hb2⟩; have hbx2 := HBX.out.below hb2 HBX.out.lt; have e0 : w2.cell? ⟨w.heap.size, 0, none⟩ = some (.slice po nP pc) := hbx2.cell 0; have e1 : w2.cell? ⟨w.heap.size, 1, none⟩ = some (.slice ko nK kc) := hbx2.cell 1; have e2 : w2.cell? ⟨w.heap.size, 2, none⟩ = some (.int .i64 cells) := hbx2.cell 2; have e3 : w2.cell? ⟨w.heap.size, 3, none⟩ = some (.slice io nI ic) := hbx2.cell 3; have e4 : w2.cell? ⟨w.heap.size, 4, none⟩ = some (.bool res) := hbx2.cell 4; have e5 : w2.cell? ⟨w.heap.size, 5, none⟩ = some (.int .i64 keep) := hbx2.cell 5; have e6 : w2.cell? ⟨w.heap.size, 6, none⟩ = some (.slice no nN nc) := hbx2.cell 6; have e7 : w2.cell? ⟨w.heap.size, 7, none⟩ = some (.int .i64 entry) := hbx2.cell 7; have HBL2 := Lib.hid (HBL.out.trans (hb2.mono HBL.out.size)); have hs2 : w.heap.size < w2.heap.size := hbx2.lt; have HX2 := Lib.hid hbx2; clear hb2 hbx2; rw [H4.out])
        | (go_at_call 78; refine (initHolds_any B ps ks is bd _ _ _ _ _ _ _ _ _ _ _ _ _ _ _ _ w2 (HP0.out.below (HBL2.out.mono hB)) HPL.out (HK0.out.below (HBL2.out.mono hB)) HKL.out (HI0.out.below (HBL2.out.mono hB)) HIL.out hnI (by omega) HPP.out).mono ?_; rintro e w3 ⟨rfl, hb3⟩; have hbx3 := HX2.out.below hb3 hs2; have f0 : w3.cell? ⟨w.heap.size, 0, none⟩ = some (.slice po nP pc) := hbx3.cell 0; have f1 : w3.cell? ⟨w.heap.size, 1, none⟩ = some (.slice ko nK kc) := hbx3.cell 1; have f2 : w3.cell? ⟨w.heap.size, 2, none⟩ = some (.int .i64 cells) := hbx3.cell 2; have f3 : w3.cell? ⟨w.heap.size, 3, none⟩ = some (.slice io nI ic) := hbx3.cell 3; have f4 : w3.cell? ⟨w.heap.size, 4, none⟩ = some (.bool res) := hbx3.cell 4; have f5 : w3.cell? ⟨w.heap.size, 5, none⟩ = some (.int .i64 keep) := hbx3.cell 5; have f6 : w3.cell? ⟨w.heap.size, 6, none⟩ = some (.slice no nN nc) := hbx3.cell 6; have f7 : w3.cell? ⟨w.heap.size, 7, none⟩ = some (.int .i64 entry) := hbx3.cell 7; have HBL3 := Lib.hid (HBL2.out.trans (hb3.mono HBL2.out.size)); clear hb3 hbx3; rw [H5.out])
        | (go_at_call 79; refine (isOne_any _ _ _).mono ?_; rintro e w4 ⟨rfl, rfl⟩; first | rw [H6.out] | rw [H8.out]))
      go_ret
      exact ⟨by rw [HD.out]; rfl, HBL3.out⟩
  have H8 : Hid (decide (isOne entry nN) = true) := Lib.hid (decide_eq_true c8)
  have HD : Hid (decide (headHolds ⟨ps, ks, cells, is, res, keep, nodes, entry⟩ bd) = true) := Lib.hid (by rw [decide_eq_true_eq, HDF]; exact ⟨c1, c2, c3, c4, c5, c6, c7, c8⟩)
  rcases c6 with c6 | c6
  · have g6 : (keep == -1) = true := by simpa using c6
    have H6 := H8
    clear HDF c1 c2 c3 c4 c5 c6 c7 c8
    go_enter Tryd.func68, Tryd.ntmps68
    go_wp2_with (first
      | (go_at_call 76; refine (kindsHold_any B _ _ _ ks bd _ HK.out HKL.out hnK).mono ?_; rintro e w1 ⟨rfl, rfl⟩; rw [H1.out])
      | (go_at_call 77; refine (paramsHold_any B ps ks bd _ _ _ _ _ _ _ _ _ _ _ _ _ _ _ _ _ HP.out HPL.out hpc hnP HKL.out hB1).mono ?_; rintro e w2 ⟨rfl, hb2⟩; have hbx2 := HBX.out.below hb2 HBX.out.lt; have e0 : w2.cell? ⟨w.heap.size, 0, none⟩ = some (.slice po nP pc) := hbx2.cell 0; have e1 : w2.cell? ⟨w.heap.size, 1, none⟩ = some (.slice ko nK kc) := hbx2.cell 1; have e2 : w2.cell? ⟨w.heap.size, 2, none⟩ = some (.int .i64 cells) := hbx2.cell 2; have e3 : w2.cell? ⟨w.heap.size, 3, none⟩ = some (.slice io nI ic) := hbx2.cell 3; have e4 : w2.cell? ⟨w.heap.size, 4, none⟩ = some (.bool res) := hbx2.cell 4; have e5 : w2.cell? ⟨w.heap.size, 5, none⟩ = some (.int .i64 keep) := hbx2.cell 5; have e6 : w2.cell? ⟨w.heap.size, 6, none⟩ = some (.slice no nN nc) := hbx2.cell 6; have e7 : w2.cell? ⟨w.heap.size, 7, none⟩ = some (.int .i64 entry) := hbx2.cell 7; have HBL2 := Lib.hid (HBL.out.trans (hb2.mono HBL.out.size)); have hs2 : w.heap.size < w2.heap.size := hbx2.lt; have HX2 := Lib.hid hbx2; clear hb2 hbx2; rw [H4.out])
      | (go_at_call 78; refine (initHolds_any B ps ks is bd _ _ _ _ _ _ _ _ _ _ _ _ _ _ _ _ w2 (HP0.out.below (HBL2.out.mono hB)) HPL.out (HK0.out.below (HBL2.out.mono hB)) HKL.out (HI0.out.below (HBL2.out.mono hB)) HIL.out hnI (by omega) HPP.out).mono ?_; rintro e w3 ⟨rfl, hb3⟩; have hbx3 := HX2.out.below hb3 hs2; have f0 : w3.cell? ⟨w.heap.size, 0, none⟩ = some (.slice po nP pc) := hbx3.cell 0; have f1 : w3.cell? ⟨w.heap.size, 1, none⟩ = some (.slice ko nK kc) := hbx3.cell 1; have f2 : w3.cell? ⟨w.heap.size, 2, none⟩ = some (.int .i64 cells) := hbx3.cell 2; have f3 : w3.cell? ⟨w.heap.size, 3, none⟩ = some (.slice io nI ic) := hbx3.cell 3; have f4 : w3.cell? ⟨w.heap.size, 4, none⟩ = some (.bool res) := hbx3.cell 4; have f5 : w3.cell? ⟨w.heap.size, 5, none⟩ = some (.int .i64 keep) := hbx3.cell 5; have f6 : w3.cell? ⟨w.heap.size, 6, none⟩ = some (.slice no nN nc) := hbx3.cell 6; have f7 : w3.cell? ⟨w.heap.size, 7, none⟩ = some (.int .i64 entry) := hbx3.cell 7; have HBL3 := Lib.hid (HBL2.out.trans (hb3.mono HBL2.out.size)); clear hb3 hbx3; rw [H5.out])
      | (go_at_call 79; refine (isOne_any _ _ _).mono ?_; rintro e w4 ⟨rfl, rfl⟩; first | rw [H6.out] | rw [H8.out]))
    go_ret
    exact ⟨by rw [HD.out]; rfl, HBL3.out⟩
  · have H6 : Hid (decide (isOne keep cells) = true) := Lib.hid (decide_eq_true c6)
    have g6 : (keep == -1) = false := by have := c6.1; simp; omega
    clear HDF c1 c2 c3 c4 c5 c6 c7 c8
    go_enter Tryd.func68, Tryd.ntmps68
    go_wp2_with (first
      | (go_at_call 76; refine (kindsHold_any B _ _ _ ks bd _ HK.out HKL.out hnK).mono ?_; rintro e w1 ⟨rfl, rfl⟩; rw [H1.out])
      | (go_at_call 77; refine (paramsHold_any B ps ks bd _ _ _ _ _ _ _ _ _ _ _ _ _ _ _ _ _ HP.out HPL.out hpc hnP HKL.out hB1).mono ?_; rintro e w2 ⟨rfl, hb2⟩; have hbx2 := HBX.out.below hb2 HBX.out.lt; have e0 : w2.cell? ⟨w.heap.size, 0, none⟩ = some (.slice po nP pc) := hbx2.cell 0; have e1 : w2.cell? ⟨w.heap.size, 1, none⟩ = some (.slice ko nK kc) := hbx2.cell 1; have e2 : w2.cell? ⟨w.heap.size, 2, none⟩ = some (.int .i64 cells) := hbx2.cell 2; have e3 : w2.cell? ⟨w.heap.size, 3, none⟩ = some (.slice io nI ic) := hbx2.cell 3; have e4 : w2.cell? ⟨w.heap.size, 4, none⟩ = some (.bool res) := hbx2.cell 4; have e5 : w2.cell? ⟨w.heap.size, 5, none⟩ = some (.int .i64 keep) := hbx2.cell 5; have e6 : w2.cell? ⟨w.heap.size, 6, none⟩ = some (.slice no nN nc) := hbx2.cell 6; have e7 : w2.cell? ⟨w.heap.size, 7, none⟩ = some (.int .i64 entry) := hbx2.cell 7; have HBL2 := Lib.hid (HBL.out.trans (hb2.mono HBL.out.size)); have hs2 : w.heap.size < w2.heap.size := hbx2.lt; have HX2 := Lib.hid hbx2; clear hb2 hbx2; rw [H4.out])
      | (go_at_call 78; refine (initHolds_any B ps ks is bd _ _ _ _ _ _ _ _ _ _ _ _ _ _ _ _ w2 (HP0.out.below (HBL2.out.mono hB)) HPL.out (HK0.out.below (HBL2.out.mono hB)) HKL.out (HI0.out.below (HBL2.out.mono hB)) HIL.out hnI (by omega) HPP.out).mono ?_; rintro e w3 ⟨rfl, hb3⟩; have hbx3 := HX2.out.below hb3 hs2; have f0 : w3.cell? ⟨w.heap.size, 0, none⟩ = some (.slice po nP pc) := hbx3.cell 0; have f1 : w3.cell? ⟨w.heap.size, 1, none⟩ = some (.slice ko nK kc) := hbx3.cell 1; have f2 : w3.cell? ⟨w.heap.size, 2, none⟩ = some (.int .i64 cells) := hbx3.cell 2; have f3 : w3.cell? ⟨w.heap.size, 3, none⟩ = some (.slice io nI ic) := hbx3.cell 3; have f4 : w3.cell? ⟨w.heap.size, 4, none⟩ = some (.bool res) := hbx3.cell 4; have f5 : w3.cell? ⟨w.heap.size, 5, none⟩ = some (.int .i64 keep) := hbx3.cell 5; have f6 : w3.cell? ⟨w.heap.size, 6, none⟩ = some (.slice no nN nc) := hbx3.cell 6; have f7 : w3.cell? ⟨w.heap.size, 7, none⟩ = some (.int .i64 entry) := hbx3.cell 7; have HBL3 := Lib.hid (HBL2.out.trans (hb3.mono HBL2.out.size)); clear hb3 hbx3; rw [H5.out])
      | (go_at_call 79; refine (isOne_any _ _ _).mono ?_; rintro e w4 ⟨rfl, rfl⟩; first | rw [H6.out] | rw [H8.out]))
    go_ret
    exact ⟨by rw [HD.out]; rfl, HBL3.out⟩
end Go.Proofs.YtmfdaeicbaibeaaDoor
