/-
  The walk through IrChecks.
-/
import Derived.Test.YtihfihockobpjaaRt
import Derived.Test.YtihfihockobpjaaRs
import Derived.Test.YtihfihockobpjaaCr
import Derived.Test.YtihfihockobpjaaFi
namespace Go.Proofs.Ytihfihockobpjaa
set_option linter.unusedVariables false
set_option linter.unusedSimpArgs false
open Go.ChangeShapes Go.WideShapes Go.ChangeAt Go.RowKit

theorem CpR.rd_ {w w' : World} {n c : Nat} {A A' : Option Addr} {rs rs' : List RG} {W : World} {B : Nat} (h : CpR w n (grs rs) A c rs' w') (h0 : RdP W B A' n rs) : RdP w' w'.heap.size A n rs' := by
  have hw : ∀ r ∈ rs', WfG r.gr := fun r hr => by
    have : r.gr ∈ grs rs := by rw [← h.eq]; exact List.mem_map_of_mem hr
    obtain ⟨r0, h1, h2⟩ := List.mem_map.1 this
    rw [← h2]
    exact h0.wf r0 h1
  refine ⟨Reads.of_own h.own, ?_, fun r hr => (h.each r hr).rd (hw r hr), hw, h0.sz⟩
  rw [← length_grs, h.eq, length_grs, h0.len]

set_option maxRecDepth 100000 in
set_option maxHeartbeats 12800000 in
theorem checks_walk (A : Option Addr) (n c : Nat) (rs : List RG) (w : World) (h : RdP w w.heap.size A n rs) :
    Calls Try.prog 3 #[.agg #[.slice A n c]] w fun e w' => e = .returned (.bool true) ∧ Below w.heap.size w w' := by
  have H := Lib.hid h
  have HB0 : Hid (Below w.heap.size w (w.alloc (.cells #[.slice A n c] 24))) := (Below.refl _ _).alloc (Nat.le_refl _) _
  have HX0 : Hid (Blk (w.alloc (.cells #[.slice A n c] 24)) w.heap.size 24 #[.slice A n c]) := Blk.new w _ _
  clear h
  go_enter Try.func3, Try.ntmps3
  go_wp2_with (go_at_call 7; refine (first_any _).mono ?_; rintro e w1 ⟨rfl, hb1⟩; refine Hid.out ?_)
  have hx1 := HX0.out.below hb1 HX0.out.lt
  have HX1 := Lib.hid hx1
  have HB1 := Lib.hid (HB0.out.trans (hb1.mono (by simp)))
  have HP1 := Lib.hid (H.out.below HB1.out)
  have x0 : w1.cell? ⟨w.heap.size, 0, none⟩ = some (.slice A n c) := hx1.cell 0
  have hz1 : w.heap.size < w1.heap.size := hx1.lt
  clear hb1 hx1
  refine Lib.hid ?_
  go_wp2_with (go_at_call 8; refine (rcopy_any w.heap.size A n c rs _ HP1.out (by omega)).mono ?_; rintro e w2 ⟨A2, c2, rs2, rfl, hcp2⟩; refine Hid.out ?_)
  clear x0
  have hz2 : w1.heap.size ≤ w2.heap.size := hcp2.below.size
  have hbA := HX1.out.below hcp2.below HX1.out.lt
  have hBA := HB1.out.trans (hcp2.below.mono (show w.heap.size ≤ w1.heap.size by omega))
  have hRA := hcp2.rd_ HP1.out
  have HE2 := Lib.hid hcp2.eq
  have hb3 : Below w2.heap.size w2 ((w2.alloc (.cells #[.slice A2 n c2] 24)).alloc (.cells #[.bool false, .bool true] 4)) := ((Below.refl _ _).alloc (Nat.le_refl _) _).alloc (by simp) _
  have HX3 := Lib.hid (hbA.below hb3 hbA.lt)
  have HC3 : Hid (Blk ((w2.alloc (.cells #[.slice A2 n c2] 24)).alloc (.cells #[.bool false, .bool true] 4)) w2.heap.size 24 #[.slice A2 n c2]) := Lib.hid ((Blk.new w2 _ _).alloc _)
  have HL3 : Hid (Blk ((w2.alloc (.cells #[.slice A2 n c2] 24)).alloc (.cells #[.bool false, .bool true] 4)) (w2.heap.size + 1) 4 #[.bool false, .bool true]) := Lib.hid (blk_2nd w2 _ _ _ _)
  have HB3 := Lib.hid (hBA.trans (hb3.mono (show w.heap.size ≤ w2.heap.size by omega)))
  have HP3 := Lib.hid (H.out.below HB3.out)
  have HR3 := Lib.hid (hRA.below hb3)
  clear hcp2 hbA hBA hRA hb3
  refine Lib.hid ?_
  go_wp2
  obtain ⟨W3, hW3⟩ : ∃ W, W = ((w2.alloc (.cells #[.slice A2 n c2] 24)).alloc (.cells #[.bool false, .bool true] 4)) := ⟨_, rfl⟩
  rw [← hW3] at HX3 HC3 HL3 HB3 HP3 HR3 ⊢
  clear hW3
  have hz3 : w.heap.size ≤ W3.heap.size := HB3.out.size
  have hc3 := HC3.out.lt
  go_loopw [13] (fun i wr => ∃ k : Nat, k ≤ 2 ∧ i = .int .i64 k ∧ Hid (Below W3.heap.size W3 wr)) (fun i _ => 2 - (intOf i).toNat)
  case atStart => exact ⟨0, by omega, rfl, Lib.hid (Below.refl _ _)⟩
  case round =>
    obtain ⟨k, hk, rfl, HW⟩ := hrel
    have HXr := Lib.hid (HX3.out.below HW.out HX3.out.lt)
    have HCr := Lib.hid (HC3.out.below HW.out HC3.out.lt)
    have HLr := Lib.hid (HL3.out.below HW.out HL3.out.lt)
    have HBr := Lib.hid (HB3.out.trans (HW.out.mono hz3))
    have d0 : wr.cell? ⟨w.heap.size, 0, none⟩ = some (.slice A n c) := HXr.out.cell 0
    have d1 : wr.cell? ⟨w2.heap.size, 0, none⟩ = some (.slice A2 n c2) := HCr.out.cell 0
    have l0 : wr.cell? ⟨w2.heap.size + 1, 0, none⟩ = some (.bool false) := HLr.out.cell 0
    have l1 : wr.cell? ⟨w2.heap.size + 1, 1, none⟩ = some (.bool true) := HLr.out.cell 1
    have hwr := HW.out.size
    have HPr := Lib.hid (HP3.out.below (HW.out.mono hz3))
    have HRr := Lib.hid ((HR3.out.more (show w2.heap.size ≤ W3.heap.size by omega)).below HW.out)
    by_cases hlt : k < 2
    · have hround : ∀ bd : Bool, Hid (Calls Try.prog 9 #[.agg #[.slice A n c], .bool bd] wr fun e w' => e = .returned (.int .i64 (if valid (grs rs) bd then 0 else 70)) ∧ Below wr.heap.size wr w') := fun bd => Lib.hid (check_any w.heap.size A n c rs bd wr HPr.out (Nat.le_trans hz3 hwr))
      have hright : ∀ (bd : Bool) (w4 : World), Below wr.heap.size wr w4 → Calls Try.prog 10 #[.agg #[.slice A2 n c2], .bool bd] w4 fun e w' => e = .returned (.bool (decide (valid (grs rs) bd))) ∧ Below w4.heap.size w4 w' := fun bd w4 hb4 => by
        have h := rright_any W3.heap.size A2 n c2 rs2 bd w4 (HRr.out.below (hb4.mono hwr)) (Nat.le_trans hwr hb4.size)
        rw [HE2.out] at h
        exact h
      have HRG := Lib.hid hright
      have HCH := Lib.hid hround
      clear hround hright
      rcases (show k = 0 ∨ k = 1 by omega) with rfl | rfl
      · by_cases hv : valid (grs rs) false
        · have HK := (HCH.out false)
          rw [if_pos hv] at HK
          have HD : Hid (decide (valid (grs rs) false) = true) := Lib.hid (decide_eq_true hv)
          clear hv
          go_wp2_with (first
            | (go_at_call 9; refine HK.out.mono ?_; rintro e w4 ⟨rfl, hb4⟩; have HB4 := Lib.hid hb4; have e1 : w4.cell? ⟨w2.heap.size, 0, none⟩ = some (.slice A2 n c2) := (HCr.out.below hb4 HCr.out.lt).cell 0; clear hb4)
            | (go_at_call 10; refine (HRG.out _ w4 HB4.out).mono ?_; rintro e w5 ⟨rfl, hb5⟩; rw [HD.out]; have HB5 := Lib.hid (HB4.out.trans (hb5.mono HB4.out.size)); clear hb5))
          go_roundw
          case rel => exact ⟨1, by omega, by go_num, Lib.hid (HW.out.trans (HB5.out.mono hwr))⟩
          case measure => simp [intOf]
        · have HK := (HCH.out false)
          rw [if_neg hv] at HK
          have HD : Hid (decide (valid (grs rs) false) = false) := Lib.hid (decide_eq_false hv)
          clear hv
          go_wp2_with (first
            | (go_at_call 9; refine HK.out.mono ?_; rintro e w4 ⟨rfl, hb4⟩; have HB4 := Lib.hid hb4; have e1 : w4.cell? ⟨w2.heap.size, 0, none⟩ = some (.slice A2 n c2) := (HCr.out.below hb4 HCr.out.lt).cell 0; clear hb4)
            | (go_at_call 10; refine (HRG.out _ w4 HB4.out).mono ?_; rintro e w5 ⟨rfl, hb5⟩; rw [HD.out]; have HB5 := Lib.hid (HB4.out.trans (hb5.mono HB4.out.size)); clear hb5))
          go_roundw
          case rel => exact ⟨1, by omega, by go_num, Lib.hid (HW.out.trans (HB5.out.mono hwr))⟩
          case measure => simp [intOf]
      · by_cases hv : valid (grs rs) true
        · have HK := (HCH.out true)
          rw [if_pos hv] at HK
          have HD : Hid (decide (valid (grs rs) true) = true) := Lib.hid (decide_eq_true hv)
          clear hv
          go_wp2_with (first
            | (go_at_call 9; refine HK.out.mono ?_; rintro e w4 ⟨rfl, hb4⟩; have HB4 := Lib.hid hb4; have e1 : w4.cell? ⟨w2.heap.size, 0, none⟩ = some (.slice A2 n c2) := (HCr.out.below hb4 HCr.out.lt).cell 0; clear hb4)
            | (go_at_call 10; refine (HRG.out _ w4 HB4.out).mono ?_; rintro e w5 ⟨rfl, hb5⟩; rw [HD.out]; have HB5 := Lib.hid (HB4.out.trans (hb5.mono HB4.out.size)); clear hb5))
          go_roundw
          case rel => exact ⟨2, by omega, by go_num, Lib.hid (HW.out.trans (HB5.out.mono hwr))⟩
          case measure => simp [intOf]
        · have HK := (HCH.out true)
          rw [if_neg hv] at HK
          have HD : Hid (decide (valid (grs rs) true) = false) := Lib.hid (decide_eq_false hv)
          clear hv
          go_wp2_with (first
            | (go_at_call 9; refine HK.out.mono ?_; rintro e w4 ⟨rfl, hb4⟩; have HB4 := Lib.hid hb4; have e1 : w4.cell? ⟨w2.heap.size, 0, none⟩ = some (.slice A2 n c2) := (HCr.out.below hb4 HCr.out.lt).cell 0; clear hb4)
            | (go_at_call 10; refine (HRG.out _ w4 HB4.out).mono ?_; rintro e w5 ⟨rfl, hb5⟩; rw [HD.out]; have HB5 := Lib.hid (HB4.out.trans (hb5.mono HB4.out.size)); clear hb5))
          go_roundw
          case rel => exact ⟨2, by omega, by go_num, Lib.hid (HW.out.trans (HB5.out.mono hwr))⟩
          case measure => simp [intOf]
    · have hk2 : 2 ≤ k := by omega
      have HEE : Hid (decide (grs rs = grs rs2) = true) := Lib.hid (by rw [HE2.out]; simp)
      have HPW := Lib.hid (HPr.out.more (show w.heap.size ≤ wr.heap.size from Nat.le_trans hz3 hwr))
      have HRW := Lib.hid (HRr.out.more hwr)
      go_wp2_with (first | (go_at_call 11; refine (rsame_any wr.heap.size A A2 n n c c2 rs rs2 _ HPW.out HRW.out (Nat.le_refl _)).mono ?_; rintro e w9 ⟨rfl, hb9⟩; rw [HEE.out]; have HB9 := Lib.hid (HBr.out.trans (hb9.mono HBr.out.size)); clear hb9))
      go_ret
      exact ⟨rfl, HB9.out⟩
end Go.Proofs.Ytihfihockobpjaa
