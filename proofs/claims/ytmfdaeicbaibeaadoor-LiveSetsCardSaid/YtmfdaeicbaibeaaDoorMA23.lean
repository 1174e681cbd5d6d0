/-
  Texts of one seat, one behind the other: Rha, Rhb, Rx.
-/
import Derived.StillTailTactics
import Derived.Deep.QuietTactic
import Derived.Test.YtmfdaeicbaibeaaDoorMA15
import Derived.Test.YtmfdaeicbaibeaaDoorMA16
import Derived.Test.YtmfdaeicbaibeaaDoorMA17
import Derived.Test.YtmfdaeicbaibeaaDoorMA18
import Derived.Test.YtmfdaeicbaibeaaDoorMA19
import Derived.Test.YtmfdaeicbaibeaaDoorMA20
import Derived.Test.YtmfdaeicbaibeaaDoorMA21
import Derived.Test.YtmfdaeicbaibeaaDoorMA22

/-
  The document's head: a graph but for its nodes, read free.
-/
namespace Go.Proofs.YtmfdaeicbaibeaaDoor
set_option linter.unusedVariables false
set_option linter.unusedSimpArgs false
open Go.ChangeShapes Go.WideShapes Go.ChangeAt Go.RowKit

set_option maxRecDepth 100000 in
set_option maxHeartbeats 12800000 in
theorem rhead_false (B : Nat) (ps ks is : List Int) (nodes : List Nd) (po ko io no : Option Addr) (nP pc nK kc nI ic nN nc : Nat) (cells keep entry : Int) (res : Bool) (w : World) (hp : Reads w B 1 po nP (i64c ps)) (hpl : ps.length = nP) (hpc : nP ≤ pc) (hnP : nP ≤ 140737488351232) (hk : Reads w B 1 ko nK (u8c ks)) (hkl : ks.length = nK) (hnK : nK ≤ 140737488351232) (hi : Reads w B 1 io nI (i64c is)) (hil : is.length = nI) (hnI : nI ≤ 140737488351232) (hnl : nodes.length = nN) (hnN : nN ≤ 140737488351232) (hbyt : Byt ks) (hB : B ≤ w.heap.size) :
    Calls Tryd.prog 22 #[.agg #[.slice po nP pc, .slice ko nK kc, .int .i64 cells, .slice io nI ic, .bool res, .int .i64 keep, .slice no nN nc, .int .i64 entry], .bool false] w fun e w' => e = .returned (.bool (decide (headHolds ⟨ps, ks, cells, is, res, keep, nodes, entry⟩ false))) ∧ Below w.heap.size w w' := by
  have HBL : Hid (Below w.heap.size w (w.alloc (.cells #[.slice po nP pc, .slice ko nK kc, .int .i64 cells, .slice io nI ic, .bool res, .int .i64 keep, .slice no nN nc, .int .i64 entry] 37))) := (Below.refl _ _).alloc (Nat.le_refl _) _
  have hB1 : B ≤ (w.alloc (.cells #[.slice po nP pc, .slice ko nK kc, .int .i64 cells, .slice io nI ic, .bool res, .int .i64 keep, .slice no nN nc, .int .i64 entry] 37)).heap.size := by simp; omega
  have HBX : Hid (Blk (w.alloc (.cells #[.slice po nP pc, .slice ko nK kc, .int .i64 cells, .slice io nI ic, .bool res, .int .i64 keep, .slice no nN nc, .int .i64 entry] 37)) w.heap.size 37 #[.slice po nP pc, .slice ko nK kc, .int .i64 cells, .slice io nI ic, .bool res, .int .i64 keep, .slice no nN nc, .int .i64 entry]) := Blk.new w _ _
  have HP := Lib.hid (hp.below (HBL.out.mono hB))
  have HK := Lib.hid (hk.below (HBL.out.mono hB))
  have HI := Lib.hid (hi.below (HBL.out.mono hB))
  have HPL := Lib.hid hpl
  have HKL := Lib.hid hkl
  have HIL := Lib.hid hil
  have HX : Hid (headHolds ⟨ps, ks, cells, is, res, keep, nodes, entry⟩ false ↔ nK ≤ 1024 ∧ (false = true → 16 ≤ nK) ∧ nP ≤ 4 ∧ nI = nP ∧ 0 ≤ cells ∧ cells ≤ 64 ∧ -1 ≤ keep ∧ keep < cells ∧ (∀ k ∈ ks, k ≤ 1) ∧ (∀ i, i < nP → rparam ⟨ps, ks, cells, is, res, keep, nodes, entry⟩ false i) ∧ 1 ≤ nN ∧ nN ≤ 4096 ∧ isOne entry nN) := Lib.hid (by
    rw [← rhead_eq hbyt]
    unfold rhead
    simp only [hkl, hpl, hil, hnl])
  clear hp hk hi hpl hkl hil hnl hbyt
  by_cases c0 : nK ≤ 1024
  rotate_left
  · have g0a : decide ((nK : Int) > 1024) = true := by simp; omega
    have g0b : decide (nK > 1024) = true := by simp; omega
    have HD : Hid (decide (headHolds ⟨ps, ks, cells, is, res, keep, nodes, entry⟩ false) = false) := Lib.hid (by rw [decide_eq_false_iff_not, HX.out]; intro h; exact c0 h.1)
    go_enter Tryd.func22, Tryd.ntmps22
    go_wp2
    go_ret
    exact ⟨by rw [HD.out]; rfl, HBL.out⟩
  have g0a : decide ((nK : Int) > 1024) = false := by simp; omega
  have g0b : decide (nK > 1024) = false := by simp; omega
  by_cases c2 : nP ≤ 4
  rotate_left
  · have g2a : decide ((nP : Int) > 4) = true := by simp; omega
    have g2b : decide (nP > 4) = true := by simp; omega
    have HD : Hid (decide (headHolds ⟨ps, ks, cells, is, res, keep, nodes, entry⟩ false) = false) := Lib.hid (by rw [decide_eq_false_iff_not, HX.out]; intro h; exact c2 h.2.2.1)
    go_enter Tryd.func22, Tryd.ntmps22
    go_wp2
    go_ret
    exact ⟨by rw [HD.out]; rfl, HBL.out⟩
  have g2a : decide ((nP : Int) > 4) = false := by simp; omega
  have g2b : decide (nP > 4) = false := by simp; omega
  by_cases c3 : nI = nP
  rotate_left
  · have g3a : ((nI : Int) != (nP : Int)) = true := by rw [bne_iff_ne]; omega
    have g3b : (nI != nP) = true := by rw [bne_iff_ne]; omega
    have HD : Hid (decide (headHolds ⟨ps, ks, cells, is, res, keep, nodes, entry⟩ false) = false) := Lib.hid (by rw [decide_eq_false_iff_not, HX.out]; intro h; exact c3 h.2.2.2.1)
    go_enter Tryd.func22, Tryd.ntmps22
    go_wp2
    go_ret
    exact ⟨by rw [HD.out]; rfl, HBL.out⟩
  subst c3
  have g3a : ((nI : Int) != (nI : Int)) = false := by simp
  have g3b : (nI != nI) = false := by simp
  by_cases c4 : 0 ≤ cells
  rotate_left
  · have g4a : decide (cells < 0) = true := by simp; omega
    have HD : Hid (decide (headHolds ⟨ps, ks, cells, is, res, keep, nodes, entry⟩ false) = false) := Lib.hid (by rw [decide_eq_false_iff_not, HX.out]; intro h; exact c4 h.2.2.2.2.1)
    go_enter Tryd.func22, Tryd.ntmps22
    go_wp2
    go_ret
    exact ⟨by rw [HD.out]; rfl, HBL.out⟩
  have g4a : decide (cells < 0) = false := by simp; omega
  by_cases c5 : cells ≤ 64
  rotate_left
  · have g5a : decide (cells > 64) = true := by simp; omega
    have HD : Hid (decide (headHolds ⟨ps, ks, cells, is, res, keep, nodes, entry⟩ false) = false) := Lib.hid (by rw [decide_eq_false_iff_not, HX.out]; intro h; exact c5 h.2.2.2.2.2.1)
    go_enter Tryd.func22, Tryd.ntmps22
    go_wp2
    go_ret
    exact ⟨by rw [HD.out]; rfl, HBL.out⟩
  have g5a : decide (cells > 64) = false := by simp; omega
  by_cases c6 : -1 ≤ keep
  rotate_left
  · have g6a : decide (keep < -1) = true := by simp; omega
    have HD : Hid (decide (headHolds ⟨ps, ks, cells, is, res, keep, nodes, entry⟩ false) = false) := Lib.hid (by rw [decide_eq_false_iff_not, HX.out]; intro h; exact c6 h.2.2.2.2.2.2.1)
    go_enter Tryd.func22, Tryd.ntmps22
    go_wp2
    go_ret
    exact ⟨by rw [HD.out]; rfl, HBL.out⟩
  have g6a : decide (keep < -1) = false := by simp; omega
  by_cases c7 : keep < cells
  rotate_left
  · have g7a : decide (keep ≥ cells) = true := by simp; omega
    have HD : Hid (decide (headHolds ⟨ps, ks, cells, is, res, keep, nodes, entry⟩ false) = false) := Lib.hid (by rw [decide_eq_false_iff_not, HX.out]; intro h; exact c7 h.2.2.2.2.2.2.2.1)
    go_enter Tryd.func22, Tryd.ntmps22
    go_wp2
    go_ret
    exact ⟨by rw [HD.out]; rfl, HBL.out⟩
  have g7a : decide (keep ≥ cells) = false := by simp; omega
  have HC : Hid ((∀ k ∈ ks, k ≤ 1) → (∀ i, i < nI → rparam ⟨ps, ks, cells, is, res, keep, nodes, entry⟩ false i) → 1 ≤ nN → nN ≤ 4096 → isOne entry nN → headHolds ⟨ps, ks, cells, is, res, keep, nodes, entry⟩ false) := Lib.hid fun h1 h2 h3 h4 h5 => HX.out.2 ⟨c0, (fun h => by cases h), c2, rfl, c4, c5, c6, c7, h1, h2, h3, h4, h5⟩
  clear c2 c4 c5 c6 c7
  obtain ⟨W1, hW1⟩ : ∃ W, W = (w.alloc (.cells #[.slice po nI pc, .slice ko nK kc, .int .i64 cells, .slice io nI ic, .bool res, .int .i64 keep, .slice no nN nc, .int .i64 entry] 37)) := ⟨_, rfl⟩
  have HW1 := Lib.hid hW1
  rw [← hW1] at HBL hB1 HBX HP HK HI
  clear hW1
  go_enter Tryd.func22, Tryd.ntmps22
  go_wp2
  rw [← HW1.out]
  go_loopw [62] (fun i wr => ∃ k : Nat, k ≤ nK ∧ i = .int .i64 k ∧ Hid (∀ y ∈ ks.take k, y ≤ 1) ∧ wr = W1) (fun i _ => nK - (intOf i).toNat)
  case atStart => exact ⟨0, Nat.zero_le _, rfl, Lib.hid (by simp), rfl⟩
  case round =>
    obtain ⟨k, hkk, rfl, HQ, rfl⟩ := hrel
    by_cases hlt : k < nK
    · obtain ⟨b, off, x, hko, hb, HXK, x1⟩ := HK.out.byte hlt
      subst hko
      by_cases hx : x ≤ 1
      rotate_left
      · have q : decide (x > 1) = true := by simp; omega
        have HD : Hid (decide (headHolds ⟨ps, ks, cells, is, res, keep, nodes, entry⟩ false) = false) := Lib.hid (by rw [decide_eq_false_iff_not, HX.out]; intro h; exact hx (h.2.2.2.2.2.2.2.2.1 x (List.mem_of_getElem? HXK.out)))
        go_wp2
        go_ret
        exact ⟨by rw [HD.out]; rfl, HBL.out⟩
      have q : decide (x > 1) = false := by simp; omega
      have HQ2 := Lib.hid (all_take (Q := fun y : Int => y ≤ 1) HXK.out hx HQ.out)
      clear hx
      go_wp2
      go_roundw
      case rel => exact ⟨k + 1, by omega, by go_num, HQ2, by first | rfl | trivial⟩
      case measure => simp [intOf]; omega
    · obtain rfl : k = nK := by omega
      have HKS : Hid (∀ y ∈ ks, y ≤ 1) := Lib.hid (by have := HQ.out; rwa [List.take_of_length_le (by rw [HKL.out]; omega)] at this)
      have d0 : wr.cell? ⟨w.heap.size, 0, none⟩ = some (.slice po nI pc) := HBX.out.cell 0
      clear hlt hkk
      go_wp2
      clear d0
      obtain ⟨wo, rfl⟩ : ∃ wo : World, wo = wr := ⟨_, rfl⟩
      go_loopw [72] (fun i wx => ∃ k : Nat, k ≤ nI ∧ i = .int .i64 k ∧ Hid (∀ i, i < k → rparam ⟨ps, ks, cells, is, res, keep, nodes, entry⟩ false i) ∧ Hid (Below wo.heap.size wo wx)) (fun i _ => nI - (intOf i).toNat)
      case atStart => exact ⟨0, Nat.zero_le _, rfl, Lib.hid (by intro i hi; omega), Lib.hid (Below.refl _ _)⟩
      case round =>
        obtain ⟨j, hj, rfl, HJ, HW⟩ := hrel
        have HBX2 := Lib.hid (HBX.out.below HW.out HBX.out.lt)
        have HBL2 := Lib.hid (HBL.out.trans (HW.out.mono HBL.out.size))
        have hBr : B ≤ wr.heap.size := Nat.le_trans hB1 HW.out.size
        have d0 : wr.cell? ⟨w.heap.size, 0, none⟩ = some (.slice po nI pc) := HBX2.out.cell 0
        have d1 : wr.cell? ⟨w.heap.size, 1, none⟩ = some (.slice ko k kc) := HBX2.out.cell 1
        have d2 : wr.cell? ⟨w.heap.size, 2, none⟩ = some (.int .i64 cells) := HBX2.out.cell 2
        have d3 : wr.cell? ⟨w.heap.size, 3, none⟩ = some (.slice io nI ic) := HBX2.out.cell 3
        have d4 : wr.cell? ⟨w.heap.size, 4, none⟩ = some (.bool res) := HBX2.out.cell 4
        have d5 : wr.cell? ⟨w.heap.size, 5, none⟩ = some (.int .i64 keep) := HBX2.out.cell 5
        have d6 : wr.cell? ⟨w.heap.size, 6, none⟩ = some (.slice no nN nc) := HBX2.out.cell 6
        have d7 : wr.cell? ⟨w.heap.size, 7, none⟩ = some (.int .i64 entry) := HBX2.out.cell 7
        by_cases hjl : j < nI
        · obtain ⟨bp, op_, p, hpo, hbp, HXP, p1⟩ := (HP.out.below (HW.out.mono hB1)).int hjl
          obtain ⟨bi, oi, q, hio, hbi, HXI, i1⟩ := (HI.out.below (HW.out.mono hB1)).int hjl
          have HPA := Lib.hid (HP.out.below (HW.out.mono hB1))
          have HKA := Lib.hid (HK.out.below (HW.out.mono hB1))
          subst hpo
          subst hio
          have hpg : ps.getD j 0 = p := by simp [List.getD, HXP.out]
          have hig : is.getD j 0 = q := by simp [List.getD, HXI.out]
          have HRP : Hid (rparam ⟨ps, ks, cells, is, res, keep, nodes, entry⟩ false j ↔ isOne p k ∧ p ∉ ps.take j ∧ (false = true → p = j) ∧ -1 ≤ q ∧ q < cells ∧ (0 ≤ q → fits ks false p 0)) := Lib.hid (by
            unfold rparam
            simp only [hpg, hig, HKL.out])
          have HPG := Lib.hid hpg
          clear hpg hig
          have hbpr : bp < wr.heap.size := by omega
          have hbir : bi < wr.heap.size := by omega
          have HU := Lib.hid (HPA.out.upto (k := j) (by omega))
          have HUL : Hid ((ps.take j).length = j) := Lib.hid (by rw [List.length_take, HPL.out]; omega)
          by_cases e1 : 0 ≤ p
          rotate_left
          · have r1 : decide (p < 0) = true := by simp; omega
            have HD : Hid (decide (headHolds ⟨ps, ks, cells, is, res, keep, nodes, entry⟩ false) = false) := Lib.hid (by rw [decide_eq_false_iff_not, HX.out]; intro h; have h2 := HRP.out.1 (h.2.2.2.2.2.2.2.2.2.1 j hjl); exact e1 h2.1.1)
            go_wp2
            go_ret
            exact ⟨by rw [HD.out]; rfl, by first | exact HBL2.out | exact below_drewN HBL2.out _⟩
          have r1 : decide (p < 0) = false := by simp; omega
          by_cases e2 : p < k
          rotate_left
          · have r2 : decide (p ≥ (k : Int)) = true := by simp; omega
            have HD : Hid (decide (headHolds ⟨ps, ks, cells, is, res, keep, nodes, entry⟩ false) = false) := Lib.hid (by rw [decide_eq_false_iff_not, HX.out]; intro h; have h2 := HRP.out.1 (h.2.2.2.2.2.2.2.2.2.1 j hjl); exact e2 h2.1.2)
            go_wp2
            go_ret
            exact ⟨by rw [HD.out]; rfl, by first | exact HBL2.out | exact below_drewN HBL2.out _⟩
          have r2 : decide (p ≥ (k : Int)) = false := by simp; omega
          by_cases e3 : p ∈ ps.take j
          · have H2 : Hid (decide (p ∈ ps.take j) = true) := Lib.hid (decide_eq_true e3)
            have HD : Hid (decide (headHolds ⟨ps, ks, cells, is, res, keep, nodes, entry⟩ false) = false) := Lib.hid (by rw [decide_eq_false_iff_not, HX.out]; intro h; have h2 := HRP.out.1 (h.2.2.2.2.2.2.2.2.2.1 j hjl); exact h2.2.1 e3)
            clear e3
            go_wp2_with (first | (go_at_call 15; refine (in_any B _ _ _ (ps.take j) p _ HU.out HUL.out (by omega)).mono ?_; rintro e w3 ⟨rfl, hw3⟩; rw [hw3]; clear hw3; rw [H2.out]))
            go_ret
            exact ⟨by rw [HD.out]; rfl, by first | exact HBL2.out | exact below_drewN HBL2.out _⟩
          have H2 : Hid (decide (p ∈ ps.take j) = false) := Lib.hid (decide_eq_false e3)
          have HE3 := Lib.hid e3
          clear e3
          by_cases e5 : -1 ≤ q
          rotate_left
          · have r5 : decide (q < -1) = true := by simp; omega
            have HD : Hid (decide (headHolds ⟨ps, ks, cells, is, res, keep, nodes, entry⟩ false) = false) := Lib.hid (by rw [decide_eq_false_iff_not, HX.out]; intro h; have h2 := HRP.out.1 (h.2.2.2.2.2.2.2.2.2.1 j hjl); exact e5 h2.2.2.2.1)
            go_wp2_with (first | (go_at_call 15; refine (in_any B _ _ _ (ps.take j) p _ HU.out HUL.out (by omega)).mono ?_; rintro e w3 ⟨rfl, hw3⟩; rw [hw3]; clear hw3; rw [H2.out]))
            go_quiet (fail)
            go_wp2
            go_ret
            exact ⟨by rw [HD.out]; rfl, by first | exact HBL2.out | exact below_drewN HBL2.out _⟩
          have r5 : decide (q < -1) = false := by simp; omega
          by_cases e6 : q < cells
          rotate_left
          · have r6 : decide (q ≥ cells) = true := by simp; omega
            have HD : Hid (decide (headHolds ⟨ps, ks, cells, is, res, keep, nodes, entry⟩ false) = false) := Lib.hid (by rw [decide_eq_false_iff_not, HX.out]; intro h; have h2 := HRP.out.1 (h.2.2.2.2.2.2.2.2.2.1 j hjl); exact e6 h2.2.2.2.2.1)
            go_wp2_with (first | (go_at_call 15; refine (in_any B _ _ _ (ps.take j) p _ HU.out HUL.out (by omega)).mono ?_; rintro e w3 ⟨rfl, hw3⟩; rw [hw3]; clear hw3; rw [H2.out]))
            go_quiet (fail)
            go_wp2
            go_ret
            exact ⟨by rw [HD.out]; rfl, by first | exact HBL2.out | exact below_drewN HBL2.out _⟩
          have r6 : decide (q ≥ cells) = false := by simp; omega
          by_cases e7 : 0 ≤ q
          rotate_left
          · have r7 : decide (q ≥ 0) = false := by simp; omega
            have HJ2 := Lib.hid (upto_snoc HJ.out (HRP.out.2 ⟨⟨e1, e2⟩, HE3.out, (fun h => by cases h), e5, e6, fun h => absurd h e7⟩))
            clear e1 e2 e5 e6 e7
            go_wp2_with (first | (go_at_call 15; refine (in_any B _ _ _ (ps.take j) p _ HU.out HUL.out (by omega)).mono ?_; rintro e w3 ⟨rfl, hw3⟩; rw [hw3]; clear hw3; rw [H2.out]))
            go_quiet (fail)
            go_wp2
            go_roundw
            case rel => exact ⟨j + 1, by omega, by go_num, HJ2, Lib.hid (below_drewN HW.out _)⟩
            case measure => simp [intOf]; omega
          have r7 : decide (q ≥ 0) = true := by simp; omega
          have HKD : Hid (Reads wr.drew B 1 ko k (u8c ks)) := Lib.hid (HKA.out.drew)
          by_cases e8 : fits ks false p 0
          rotate_left
          · have H1 : Hid (decide (fits ks false p 0) = false) := Lib.hid (decide_eq_false e8)
            have HD : Hid (decide (headHolds ⟨ps, ks, cells, is, res, keep, nodes, entry⟩ false) = false) := Lib.hid (by rw [decide_eq_false_iff_not, HX.out]; intro h; have h2 := HRP.out.1 (h.2.2.2.2.2.2.2.2.2.1 j hjl); exact e8 (h2.2.2.2.2.2 e7))
            clear e8
            go_wp2_with (first | (go_at_call 15; refine (in_any B _ _ _ (ps.take j) p _ HU.out HUL.out (by omega)).mono ?_; rintro e w3 ⟨rfl, hw3⟩; rw [hw3]; clear hw3; rw [H2.out]))
            go_still_tail 27, (by kernel_rfl)
            change wpList _ _ _ _ _ wr.drew
            go_wp2_with (first | (go_at_call 46; refine (rfits_any B ks _ _ _ _ _ _ _ _ _ _ _ _ _ _ _ _ false p 0 _ HKD.out HKL.out hnK hBr).mono ?_; rintro ee w9 ⟨rfl, hb9⟩; have HWL : Hid (Below wr.heap.size wr w9) := Lib.hid ((Below.refl _ _).drew.trans hb9); clear hb9; rw [H1.out]))
            go_ret
            exact ⟨by rw [HD.out]; rfl, HBL2.out.trans (HWL.out.mono HBL2.out.size)⟩
          have H1 : Hid (decide (fits ks false p 0) = true) := Lib.hid (decide_eq_true e8)
          have HJ2 := Lib.hid (upto_snoc HJ.out (HRP.out.2 ⟨⟨e1, e2⟩, HE3.out, (fun h => by cases h), e5, e6, fun _ => e8⟩))
          clear e8
          go_wp2_with (first | (go_at_call 15; refine (in_any B _ _ _ (ps.take j) p _ HU.out HUL.out (by omega)).mono ?_; rintro e w3 ⟨rfl, hw3⟩; rw [hw3]; clear hw3; rw [H2.out]))
          go_still_tail 27, (by kernel_rfl)
          change wpList _ _ _ _ _ wr.drew
          go_wp2_with (first | (go_at_call 46; refine (rfits_any B ks _ _ _ _ _ _ _ _ _ _ _ _ _ _ _ _ false p 0 _ HKD.out HKL.out hnK hBr).mono ?_; rintro ee w9 ⟨rfl, hb9⟩; have HWL : Hid (Below wr.heap.size wr w9) := Lib.hid ((Below.refl _ _).drew.trans hb9); clear hb9; rw [H1.out]))
          go_roundw
          case rel => exact ⟨j + 1, by omega, by go_num, HJ2, Lib.hid (HW.out.trans (HWL.out.mono HW.out.size))⟩
          case measure => simp [intOf]; omega
        · obtain rfl : j = nI := by omega
          clear hjl hj
          by_cases k0 : 1 ≤ nN
          rotate_left
          · have s0a : decide ((nN : Int) ≥ 1) = false := by simp; omega
            have s0b : decide (nN ≥ 1) = false := by simp; omega
            have HD : Hid (decide (headHolds ⟨ps, ks, cells, is, res, keep, nodes, entry⟩ false) = false) := Lib.hid (by rw [decide_eq_false_iff_not, HX.out]; intro h; exact k0 h.2.2.2.2.2.2.2.2.2.2.1)
            go_wp2
            go_ret
            exact ⟨by rw [HD.out]; rfl, HBL2.out⟩
          have s0a : decide ((nN : Int) ≥ 1) = true := by simp; omega
          have s0b : decide (nN ≥ 1) = true := by simp; omega
          by_cases k1 : nN ≤ 4096
          rotate_left
          · have s1a : decide ((nN : Int) ≤ 4096) = false := by simp; omega
            have s1b : decide (nN ≤ 4096) = false := by simp; omega
            have HD : Hid (decide (headHolds ⟨ps, ks, cells, is, res, keep, nodes, entry⟩ false) = false) := Lib.hid (by rw [decide_eq_false_iff_not, HX.out]; intro h; exact k1 h.2.2.2.2.2.2.2.2.2.2.2.1)
            go_wp2
            go_ret
            exact ⟨by rw [HD.out]; rfl, HBL2.out⟩
          have s1a : decide ((nN : Int) ≤ 4096) = true := by simp; omega
          have s1b : decide (nN ≤ 4096) = true := by simp; omega
          by_cases k2 : 0 ≤ entry
          rotate_left
          · have s2a : decide (entry ≥ 0) = false := by simp; omega
            have HD : Hid (decide (headHolds ⟨ps, ks, cells, is, res, keep, nodes, entry⟩ false) = false) := Lib.hid (by rw [decide_eq_false_iff_not, HX.out]; intro h; exact k2 h.2.2.2.2.2.2.2.2.2.2.2.2.1)
            go_wp2
            go_ret
            exact ⟨by rw [HD.out]; rfl, HBL2.out⟩
          have s2a : decide (entry ≥ 0) = true := by simp; omega
          by_cases k3 : entry < nN
          rotate_left
          · have s3a : decide (entry < (nN : Int)) = false := by simp; omega
            have HD : Hid (decide (headHolds ⟨ps, ks, cells, is, res, keep, nodes, entry⟩ false) = false) := Lib.hid (by rw [decide_eq_false_iff_not, HX.out]; intro h; exact k3 h.2.2.2.2.2.2.2.2.2.2.2.2.2)
            go_wp2
            go_ret
            exact ⟨by rw [HD.out]; rfl, HBL2.out⟩
          have s3a : decide (entry < (nN : Int)) = true := by simp; omega
          have HD : Hid (decide (headHolds ⟨ps, ks, cells, is, res, keep, nodes, entry⟩ false) = true) := Lib.hid (by rw [decide_eq_true_eq]; exact HC.out HKS.out HJ.out k0 k1 ⟨k2, k3⟩)
          go_wp2
          go_ret
          exact ⟨by rw [HD.out]; rfl, HBL2.out⟩
end Go.Proofs.YtmfdaeicbaibeaaDoor

/-
  The document's head: a graph but for its nodes, read bound.
-/
namespace Go.Proofs.YtmfdaeicbaibeaaDoor
set_option linter.unusedVariables false
set_option linter.unusedSimpArgs false
open Go.ChangeShapes Go.WideShapes Go.ChangeAt Go.RowKit

set_option maxRecDepth 100000 in
set_option maxHeartbeats 12800000 in
theorem rhead_true (B : Nat) (ps ks is : List Int) (nodes : List Nd) (po ko io no : Option Addr) (nP pc nK kc nI ic nN nc : Nat) (cells keep entry : Int) (res : Bool) (w : World) (hp : Reads w B 1 po nP (i64c ps)) (hpl : ps.length = nP) (hpc : nP ≤ pc) (hnP : nP ≤ 140737488351232) (hk : Reads w B 1 ko nK (u8c ks)) (hkl : ks.length = nK) (hnK : nK ≤ 140737488351232) (hi : Reads w B 1 io nI (i64c is)) (hil : is.length = nI) (hnI : nI ≤ 140737488351232) (hnl : nodes.length = nN) (hnN : nN ≤ 140737488351232) (hbyt : Byt ks) (hB : B ≤ w.heap.size) :
    Calls Tryd.prog 22 #[.agg #[.slice po nP pc, .slice ko nK kc, .int .i64 cells, .slice io nI ic, .bool res, .int .i64 keep, .slice no nN nc, .int .i64 entry], .bool true] w fun e w' => e = .returned (.bool (decide (headHolds ⟨ps, ks, cells, is, res, keep, nodes, entry⟩ true))) ∧ Below w.heap.size w w' := by
  have HBL : Hid (Below w.heap.size w (w.alloc (.cells #[.slice po nP pc, .slice ko nK kc, .int .i64 cells, .slice io nI ic, .bool res, .int .i64 keep, .slice no nN nc, .int .i64 entry] 37))) := (Below.refl _ _).alloc (Nat.le_refl _) _
  have hB1 : B ≤ (w.alloc (.cells #[.slice po nP pc, .slice ko nK kc, .int .i64 cells, .slice io nI ic, .bool res, .int .i64 keep, .slice no nN nc, .int .i64 entry] 37)).heap.size := by simp; omega
  have HBX : Hid (Blk (w.alloc (.cells #[.slice po nP pc, .slice ko nK kc, .int .i64 cells, .slice io nI ic, .bool res, .int .i64 keep, .slice no nN nc, .int .i64 entry] 37)) w.heap.size 37 #[.slice po nP pc, .slice ko nK kc, .int .i64 cells, .slice io nI ic, .bool res, .int .i64 keep, .slice no nN nc, .int .i64 entry]) := Blk.new w _ _
  have HP := Lib.hid (hp.below (HBL.out.mono hB))
  have HK := Lib.hid (hk.below (HBL.out.mono hB))
  have HI := Lib.hid (hi.below (HBL.out.mono hB))
  have HPL := Lib.hid hpl
  have HKL := Lib.hid hkl
  have HIL := Lib.hid hil
  have HX : Hid (headHolds ⟨ps, ks, cells, is, res, keep, nodes, entry⟩ true ↔ nK ≤ 1024 ∧ (true = true → 16 ≤ nK) ∧ nP ≤ 4 ∧ nI = nP ∧ 0 ≤ cells ∧ cells ≤ 64 ∧ -1 ≤ keep ∧ keep < cells ∧ (∀ k ∈ ks, k ≤ 1) ∧ (∀ i, i < nP → rparam ⟨ps, ks, cells, is, res, keep, nodes, entry⟩ true i) ∧ 1 ≤ nN ∧ nN ≤ 4096 ∧ isOne entry nN) := Lib.hid (by
    rw [← rhead_eq hbyt]
    unfold rhead
    simp only [hkl, hpl, hil, hnl])
  clear hp hk hi hpl hkl hil hnl hbyt
  by_cases c0 : nK ≤ 1024
  rotate_left
  · have g0a : decide ((nK : Int) > 1024) = true := by simp; omega
    have g0b : decide (nK > 1024) = true := by simp; omega
    have HD : Hid (decide (headHolds ⟨ps, ks, cells, is, res, keep, nodes, entry⟩ true) = false) := Lib.hid (by rw [decide_eq_false_iff_not, HX.out]; intro h; exact c0 h.1)
    go_enter Tryd.func22, Tryd.ntmps22
    go_wp2
    go_ret
    exact ⟨by rw [HD.out]; rfl, HBL.out⟩
  have g0a : decide ((nK : Int) > 1024) = false := by simp; omega
  have g0b : decide (nK > 1024) = false := by simp; omega
  by_cases c1 : 16 ≤ nK
  rotate_left
  · have g1a : decide ((nK : Int) < 16) = true := by simp; omega
    have g1b : decide (nK < 16) = true := by simp; omega
    have HD : Hid (decide (headHolds ⟨ps, ks, cells, is, res, keep, nodes, entry⟩ true) = false) := Lib.hid (by rw [decide_eq_false_iff_not, HX.out]; intro h; exact c1 (h.2.1 rfl))
    go_enter Tryd.func22, Tryd.ntmps22
    go_wp2
    go_ret
    exact ⟨by rw [HD.out]; rfl, HBL.out⟩
  have g1a : decide ((nK : Int) < 16) = false := by simp; omega
  have g1b : decide (nK < 16) = false := by simp; omega
  by_cases c2 : nP ≤ 4
  rotate_left
  · have g2a : decide ((nP : Int) > 4) = true := by simp; omega
    have g2b : decide (nP > 4) = true := by simp; omega
    have HD : Hid (decide (headHolds ⟨ps, ks, cells, is, res, keep, nodes, entry⟩ true) = false) := Lib.hid (by rw [decide_eq_false_iff_not, HX.out]; intro h; exact c2 h.2.2.1)
    go_enter Tryd.func22, Tryd.ntmps22
    go_wp2
    go_ret
    exact ⟨by rw [HD.out]; rfl, HBL.out⟩
  have g2a : decide ((nP : Int) > 4) = false := by simp; omega
  have g2b : decide (nP > 4) = false := by simp; omega
  by_cases c3 : nI = nP
  rotate_left
  · have g3a : ((nI : Int) != (nP : Int)) = true := by rw [bne_iff_ne]; omega
    have g3b : (nI != nP) = true := by rw [bne_iff_ne]; omega
    have HD : Hid (decide (headHolds ⟨ps, ks, cells, is, res, keep, nodes, entry⟩ true) = false) := Lib.hid (by rw [decide_eq_false_iff_not, HX.out]; intro h; exact c3 h.2.2.2.1)
    go_enter Tryd.func22, Tryd.ntmps22
    go_wp2
    go_ret
    exact ⟨by rw [HD.out]; rfl, HBL.out⟩
  subst c3
  have g3a : ((nI : Int) != (nI : Int)) = false := by simp
  have g3b : (nI != nI) = false := by simp
  by_cases c4 : 0 ≤ cells
  rotate_left
  · have g4a : decide (cells < 0) = true := by simp; omega
    have HD : Hid (decide (headHolds ⟨ps, ks, cells, is, res, keep, nodes, entry⟩ true) = false) := Lib.hid (by rw [decide_eq_false_iff_not, HX.out]; intro h; exact c4 h.2.2.2.2.1)
    go_enter Tryd.func22, Tryd.ntmps22
    go_wp2
    go_ret
    exact ⟨by rw [HD.out]; rfl, HBL.out⟩
  have g4a : decide (cells < 0) = false := by simp; omega
  by_cases c5 : cells ≤ 64
  rotate_left
  · have g5a : decide (cells > 64) = true := by simp; omega
    have HD : Hid (decide (headHolds ⟨ps, ks, cells, is, res, keep, nodes, entry⟩ true) = false) := Lib.hid (by rw [decide_eq_false_iff_not, HX.out]; intro h; exact c5 h.2.2.2.2.2.1)
    go_enter Tryd.func22, Tryd.ntmps22
    go_wp2
    go_ret
    exact ⟨by rw [HD.out]; rfl, HBL.out⟩
  have g5a : decide (cells > 64) = false := by simp; omega
  by_cases c6 : -1 ≤ keep
  rotate_left
  · have g6a : decide (keep < -1) = true := by simp; omega
    have HD : Hid (decide (headHolds ⟨ps, ks, cells, is, res, keep, nodes, entry⟩ true) = false) := Lib.hid (by rw [decide_eq_false_iff_not, HX.out]; intro h; exact c6 h.2.2.2.2.2.2.1)
    go_enter Tryd.func22, Tryd.ntmps22
    go_wp2
    go_ret
    exact ⟨by rw [HD.out]; rfl, HBL.out⟩
  have g6a : decide (keep < -1) = false := by simp; omega
  by_cases c7 : keep < cells
  rotate_left
  · have g7a : decide (keep ≥ cells) = true := by simp; omega
    have HD : Hid (decide (headHolds ⟨ps, ks, cells, is, res, keep, nodes, entry⟩ true) = false) := Lib.hid (by rw [decide_eq_false_iff_not, HX.out]; intro h; exact c7 h.2.2.2.2.2.2.2.1)
    go_enter Tryd.func22, Tryd.ntmps22
    go_wp2
    go_ret
    exact ⟨by rw [HD.out]; rfl, HBL.out⟩
  have g7a : decide (keep ≥ cells) = false := by simp; omega
  have HC : Hid ((∀ k ∈ ks, k ≤ 1) → (∀ i, i < nI → rparam ⟨ps, ks, cells, is, res, keep, nodes, entry⟩ true i) → 1 ≤ nN → nN ≤ 4096 → isOne entry nN → headHolds ⟨ps, ks, cells, is, res, keep, nodes, entry⟩ true) := Lib.hid fun h1 h2 h3 h4 h5 => HX.out.2 ⟨c0, (fun _ => c1), c2, rfl, c4, c5, c6, c7, h1, h2, h3, h4, h5⟩
  clear c2 c4 c5 c6 c7
  obtain ⟨W1, hW1⟩ : ∃ W, W = (w.alloc (.cells #[.slice po nI pc, .slice ko nK kc, .int .i64 cells, .slice io nI ic, .bool res, .int .i64 keep, .slice no nN nc, .int .i64 entry] 37)) := ⟨_, rfl⟩
  have HW1 := Lib.hid hW1
  rw [← hW1] at HBL hB1 HBX HP HK HI
  clear hW1
  go_enter Tryd.func22, Tryd.ntmps22
  go_wp2
  rw [← HW1.out]
  go_loopw [62] (fun i wr => ∃ k : Nat, k ≤ nK ∧ i = .int .i64 k ∧ Hid (∀ y ∈ ks.take k, y ≤ 1) ∧ wr = W1) (fun i _ => nK - (intOf i).toNat)
  case atStart => exact ⟨0, Nat.zero_le _, rfl, Lib.hid (by simp), rfl⟩
  case round =>
    obtain ⟨k, hkk, rfl, HQ, rfl⟩ := hrel
    by_cases hlt : k < nK
    · obtain ⟨b, off, x, hko, hb, HXK, x1⟩ := HK.out.byte hlt
      subst hko
      by_cases hx : x ≤ 1
      rotate_left
      · have q : decide (x > 1) = true := by simp; omega
        have HD : Hid (decide (headHolds ⟨ps, ks, cells, is, res, keep, nodes, entry⟩ true) = false) := Lib.hid (by rw [decide_eq_false_iff_not, HX.out]; intro h; exact hx (h.2.2.2.2.2.2.2.2.1 x (List.mem_of_getElem? HXK.out)))
        go_wp2
        go_ret
        exact ⟨by rw [HD.out]; rfl, HBL.out⟩
      have q : decide (x > 1) = false := by simp; omega
      have HQ2 := Lib.hid (all_take (Q := fun y : Int => y ≤ 1) HXK.out hx HQ.out)
      clear hx
      go_wp2
      go_roundw
      case rel => exact ⟨k + 1, by omega, by go_num, HQ2, by first | rfl | trivial⟩
      case measure => simp [intOf]; omega
    · obtain rfl : k = nK := by omega
      have HKS : Hid (∀ y ∈ ks, y ≤ 1) := Lib.hid (by have := HQ.out; rwa [List.take_of_length_le (by rw [HKL.out]; omega)] at this)
      have d0 : wr.cell? ⟨w.heap.size, 0, none⟩ = some (.slice po nI pc) := HBX.out.cell 0
      clear hlt hkk
      go_wp2
      clear d0
      obtain ⟨wo, rfl⟩ : ∃ wo : World, wo = wr := ⟨_, rfl⟩
      go_loopw [72] (fun i wx => ∃ k : Nat, k ≤ nI ∧ i = .int .i64 k ∧ Hid (∀ i, i < k → rparam ⟨ps, ks, cells, is, res, keep, nodes, entry⟩ true i) ∧ Hid (Below wo.heap.size wo wx)) (fun i _ => nI - (intOf i).toNat)
      case atStart => exact ⟨0, Nat.zero_le _, rfl, Lib.hid (by intro i hi; omega), Lib.hid (Below.refl _ _)⟩
      case round =>
        obtain ⟨j, hj, rfl, HJ, HW⟩ := hrel
        have HBX2 := Lib.hid (HBX.out.below HW.out HBX.out.lt)
        have HBL2 := Lib.hid (HBL.out.trans (HW.out.mono HBL.out.size))
        have hBr : B ≤ wr.heap.size := Nat.le_trans hB1 HW.out.size
        have d0 : wr.cell? ⟨w.heap.size, 0, none⟩ = some (.slice po nI pc) := HBX2.out.cell 0
        have d1 : wr.cell? ⟨w.heap.size, 1, none⟩ = some (.slice ko k kc) := HBX2.out.cell 1
        have d2 : wr.cell? ⟨w.heap.size, 2, none⟩ = some (.int .i64 cells) := HBX2.out.cell 2
        have d3 : wr.cell? ⟨w.heap.size, 3, none⟩ = some (.slice io nI ic) := HBX2.out.cell 3
        have d4 : wr.cell? ⟨w.heap.size, 4, none⟩ = some (.bool res) := HBX2.out.cell 4
        have d5 : wr.cell? ⟨w.heap.size, 5, none⟩ = some (.int .i64 keep) := HBX2.out.cell 5
        have d6 : wr.cell? ⟨w.heap.size, 6, none⟩ = some (.slice no nN nc) := HBX2.out.cell 6
        have d7 : wr.cell? ⟨w.heap.size, 7, none⟩ = some (.int .i64 entry) := HBX2.out.cell 7
        by_cases hjl : j < nI
        · obtain ⟨bp, op_, p, hpo, hbp, HXP, p1⟩ := (HP.out.below (HW.out.mono hB1)).int hjl
          obtain ⟨bi, oi, q, hio, hbi, HXI, i1⟩ := (HI.out.below (HW.out.mono hB1)).int hjl
          have HPA := Lib.hid (HP.out.below (HW.out.mono hB1))
          have HKA := Lib.hid (HK.out.below (HW.out.mono hB1))
          subst hpo
          subst hio
          have hpg : ps.getD j 0 = p := by simp [List.getD, HXP.out]
          have hig : is.getD j 0 = q := by simp [List.getD, HXI.out]
          have HRP : Hid (rparam ⟨ps, ks, cells, is, res, keep, nodes, entry⟩ true j ↔ isOne p k ∧ p ∉ ps.take j ∧ (true = true → p = j) ∧ -1 ≤ q ∧ q < cells ∧ (0 ≤ q → fits ks true p 0)) := Lib.hid (by
            unfold rparam
            simp only [hpg, hig, HKL.out])
          have HPG := Lib.hid hpg
          clear hpg hig
          have hbpr : bp < wr.heap.size := by omega
          have hbir : bi < wr.heap.size := by omega
          have HU := Lib.hid (HPA.out.upto (k := j) (by omega))
          have HUL : Hid ((ps.take j).length = j) := Lib.hid (by rw [List.length_take, HPL.out]; omega)
          by_cases e1 : 0 ≤ p
          rotate_left
          · have r1 : decide (p < 0) = true := by simp; omega
            have HD : Hid (decide (headHolds ⟨ps, ks, cells, is, res, keep, nodes, entry⟩ true) = false) := Lib.hid (by rw [decide_eq_false_iff_not, HX.out]; intro h; have h2 := HRP.out.1 (h.2.2.2.2.2.2.2.2.2.1 j hjl); exact e1 h2.1.1)
            go_wp2
            go_ret
            exact ⟨by rw [HD.out]; rfl, by first | exact HBL2.out | exact below_drewN HBL2.out _⟩
          have r1 : decide (p < 0) = false := by simp; omega
          by_cases e2 : p < k
          rotate_left
          · have r2 : decide (p ≥ (k : Int)) = true := by simp; omega
            have HD : Hid (decide (headHolds ⟨ps, ks, cells, is, res, keep, nodes, entry⟩ true) = false) := Lib.hid (by rw [decide_eq_false_iff_not, HX.out]; intro h; have h2 := HRP.out.1 (h.2.2.2.2.2.2.2.2.2.1 j hjl); exact e2 h2.1.2)
            go_wp2
            go_ret
            exact ⟨by rw [HD.out]; rfl, by first | exact HBL2.out | exact below_drewN HBL2.out _⟩
          have r2 : decide (p ≥ (k : Int)) = false := by simp; omega
          by_cases e3 : p ∈ ps.take j
          · have H2 : Hid (decide (p ∈ ps.take j) = true) := Lib.hid (decide_eq_true e3)
            have HD : Hid (decide (headHolds ⟨ps, ks, cells, is, res, keep, nodes, entry⟩ true) = false) := Lib.hid (by rw [decide_eq_false_iff_not, HX.out]; intro h; have h2 := HRP.out.1 (h.2.2.2.2.2.2.2.2.2.1 j hjl); exact h2.2.1 e3)
            clear e3
            go_wp2_with (first | (go_at_call 15; refine (in_any B _ _ _ (ps.take j) p _ HU.out HUL.out (by omega)).mono ?_; rintro e w3 ⟨rfl, hw3⟩; rw [hw3]; clear hw3; rw [H2.out]))
            go_ret
            exact ⟨by rw [HD.out]; rfl, by first | exact HBL2.out | exact below_drewN HBL2.out _⟩
          have H2 : Hid (decide (p ∈ ps.take j) = false) := Lib.hid (decide_eq_false e3)
          have HE3 := Lib.hid e3
          clear e3
          by_cases e4 : p = (j : Int)
          rotate_left
          · have r4 : (p != (j : Int)) = true := by simpa using e4
            have HD : Hid (decide (headHolds ⟨ps, ks, cells, is, res, keep, nodes, entry⟩ true) = false) := Lib.hid (by rw [decide_eq_false_iff_not, HX.out]; intro h; have h2 := HRP.out.1 (h.2.2.2.2.2.2.2.2.2.1 j hjl); exact e4 (h2.2.2.1 rfl))
            clear e4
            go_wp2_with (first | (go_at_call 15; refine (in_any B _ _ _ (ps.take j) p _ HU.out HUL.out (by omega)).mono ?_; rintro e w3 ⟨rfl, hw3⟩; rw [hw3]; clear hw3; rw [H2.out]))
            go_ret
            exact ⟨by rw [HD.out]; rfl, by first | exact HBL2.out | exact below_drewN HBL2.out _⟩
          have r4 : (p != (j : Int)) = false := by simpa using e4
          have HE4 := Lib.hid e4
          clear e4
          by_cases e5 : -1 ≤ q
          rotate_left
          · have r5 : decide (q < -1) = true := by simp; omega
            have HD : Hid (decide (headHolds ⟨ps, ks, cells, is, res, keep, nodes, entry⟩ true) = false) := Lib.hid (by rw [decide_eq_false_iff_not, HX.out]; intro h; have h2 := HRP.out.1 (h.2.2.2.2.2.2.2.2.2.1 j hjl); exact e5 h2.2.2.2.1)
            go_wp2_with (first | (go_at_call 15; refine (in_any B _ _ _ (ps.take j) p _ HU.out HUL.out (by omega)).mono ?_; rintro e w3 ⟨rfl, hw3⟩; rw [hw3]; clear hw3; rw [H2.out]))
            go_quiet (fail)
            go_wp2
            go_ret
            exact ⟨by rw [HD.out]; rfl, by first | exact HBL2.out | exact below_drewN HBL2.out _⟩
          have r5 : decide (q < -1) = false := by simp; omega
          by_cases e6 : q < cells
          rotate_left
          · have r6 : decide (q ≥ cells) = true := by simp; omega
            have HD : Hid (decide (headHolds ⟨ps, ks, cells, is, res, keep, nodes, entry⟩ true) = false) := Lib.hid (by rw [decide_eq_false_iff_not, HX.out]; intro h; have h2 := HRP.out.1 (h.2.2.2.2.2.2.2.2.2.1 j hjl); exact e6 h2.2.2.2.2.1)
            go_wp2_with (first | (go_at_call 15; refine (in_any B _ _ _ (ps.take j) p _ HU.out HUL.out (by omega)).mono ?_; rintro e w3 ⟨rfl, hw3⟩; rw [hw3]; clear hw3; rw [H2.out]))
            go_quiet (fail)
            go_wp2
            go_ret
            exact ⟨by rw [HD.out]; rfl, by first | exact HBL2.out | exact below_drewN HBL2.out _⟩
          have r6 : decide (q ≥ cells) = false := by simp; omega
          by_cases e7 : 0 ≤ q
          rotate_left
          · have r7 : decide (q ≥ 0) = false := by simp; omega
            have HJ2 := Lib.hid (upto_snoc HJ.out (HRP.out.2 ⟨⟨e1, e2⟩, HE3.out, (fun _ => HE4.out), e5, e6, fun h => absurd h e7⟩))
            clear e1 e2 e5 e6 e7
            go_wp2_with (first | (go_at_call 15; refine (in_any B _ _ _ (ps.take j) p _ HU.out HUL.out (by omega)).mono ?_; rintro e w3 ⟨rfl, hw3⟩; rw [hw3]; clear hw3; rw [H2.out]))
            go_quiet (fail)
            go_wp2
            go_roundw
            case rel => exact ⟨j + 1, by omega, by go_num, HJ2, Lib.hid (below_drewN HW.out _)⟩
            case measure => simp [intOf]; omega
          have r7 : decide (q ≥ 0) = true := by simp; omega
          have HKD : Hid (Reads wr.drew B 1 ko k (u8c ks)) := Lib.hid (HKA.out.drew)
          by_cases e8 : fits ks true p 0
          rotate_left
          · have H1 : Hid (decide (fits ks true p 0) = false) := Lib.hid (decide_eq_false e8)
            have HD : Hid (decide (headHolds ⟨ps, ks, cells, is, res, keep, nodes, entry⟩ true) = false) := Lib.hid (by rw [decide_eq_false_iff_not, HX.out]; intro h; have h2 := HRP.out.1 (h.2.2.2.2.2.2.2.2.2.1 j hjl); exact e8 (h2.2.2.2.2.2 e7))
            clear e8
            go_wp2_with (first | (go_at_call 15; refine (in_any B _ _ _ (ps.take j) p _ HU.out HUL.out (by omega)).mono ?_; rintro e w3 ⟨rfl, hw3⟩; rw [hw3]; clear hw3; rw [H2.out]))
            go_still_tail 27, (by kernel_rfl)
            change wpList _ _ _ _ _ wr.drew
            go_wp2_with (first | (go_at_call 46; refine (rfits_any B ks _ _ _ _ _ _ _ _ _ _ _ _ _ _ _ _ true p 0 _ HKD.out HKL.out hnK hBr).mono ?_; rintro ee w9 ⟨rfl, hb9⟩; have HWL : Hid (Below wr.heap.size wr w9) := Lib.hid ((Below.refl _ _).drew.trans hb9); clear hb9; rw [H1.out]))
            go_ret
            exact ⟨by rw [HD.out]; rfl, HBL2.out.trans (HWL.out.mono HBL2.out.size)⟩
          have H1 : Hid (decide (fits ks true p 0) = true) := Lib.hid (decide_eq_true e8)
          have HJ2 := Lib.hid (upto_snoc HJ.out (HRP.out.2 ⟨⟨e1, e2⟩, HE3.out, (fun _ => HE4.out), e5, e6, fun _ => e8⟩))
          clear e8
          go_wp2_with (first | (go_at_call 15; refine (in_any B _ _ _ (ps.take j) p _ HU.out HUL.out (by omega)).mono ?_; rintro e w3 ⟨rfl, hw3⟩; rw [hw3]; clear hw3; rw [H2.out]))
          go_still_tail 27, (by kernel_rfl)
          change wpList _ _ _ _ _ wr.drew
          go_wp2_with (first | (go_at_call 46; refine (rfits_any B ks _ _ _ _ _ _ _ _ _ _ _ _ _ _ _ _ true p 0 _ HKD.out HKL.out hnK hBr).mono ?_; rintro ee w9 ⟨rfl, hb9⟩; have HWL : Hid (Below wr.heap.size wr w9) := Lib.hid ((Below.refl _ _).drew.trans hb9); clear hb9; rw [H1.out]))
          go_roundw
          case rel => exact ⟨j + 1, by omega, by go_num, HJ2, Lib.hid (HW.out.trans (HWL.out.mono HW.out.size))⟩
          case measure => simp [intOf]; omega
        · obtain rfl : j = nI := by omega
          clear hjl hj
          by_cases k0 : 1 ≤ nN
          rotate_left
          · have s0a : decide ((nN : Int) ≥ 1) = false := by simp; omega
            have s0b : decide (nN ≥ 1) = false := by simp; omega
            have HD : Hid (decide (headHolds ⟨ps, ks, cells, is, res, keep, nodes, entry⟩ true) = false) := Lib.hid (by rw [decide_eq_false_iff_not, HX.out]; intro h; exact k0 h.2.2.2.2.2.2.2.2.2.2.1)
            go_wp2
            go_ret
            exact ⟨by rw [HD.out]; rfl, HBL2.out⟩
          have s0a : decide ((nN : Int) ≥ 1) = true := by simp; omega
          have s0b : decide (nN ≥ 1) = true := by simp; omega
          by_cases k1 : nN ≤ 4096
          rotate_left
          · have s1a : decide ((nN : Int) ≤ 4096) = false := by simp; omega
            have s1b : decide (nN ≤ 4096) = false := by simp; omega
            have HD : Hid (decide (headHolds ⟨ps, ks, cells, is, res, keep, nodes, entry⟩ true) = false) := Lib.hid (by rw [decide_eq_false_iff_not, HX.out]; intro h; exact k1 h.2.2.2.2.2.2.2.2.2.2.2.1)
            go_wp2
            go_ret
            exact ⟨by rw [HD.out]; rfl, HBL2.out⟩
          have s1a : decide ((nN : Int) ≤ 4096) = true := by simp; omega
          have s1b : decide (nN ≤ 4096) = true := by simp; omega
          by_cases k2 : 0 ≤ entry
          rotate_left
          · have s2a : decide (entry ≥ 0) = false := by simp; omega
            have HD : Hid (decide (headHolds ⟨ps, ks, cells, is, res, keep, nodes, entry⟩ true) = false) := Lib.hid (by rw [decide_eq_false_iff_not, HX.out]; intro h; exact k2 h.2.2.2.2.2.2.2.2.2.2.2.2.1)
            go_wp2
            go_ret
            exact ⟨by rw [HD.out]; rfl, HBL2.out⟩
          have s2a : decide (entry ≥ 0) = true := by simp; omega
          by_cases k3 : entry < nN
          rotate_left
          · have s3a : decide (entry < (nN : Int)) = false := by simp; omega
            have HD : Hid (decide (headHolds ⟨ps, ks, cells, is, res, keep, nodes, entry⟩ true) = false) := Lib.hid (by rw [decide_eq_false_iff_not, HX.out]; intro h; exact k3 h.2.2.2.2.2.2.2.2.2.2.2.2.2)
            go_wp2
            go_ret
            exact ⟨by rw [HD.out]; rfl, HBL2.out⟩
          have s3a : decide (entry < (nN : Int)) = true := by simp; omega
          have HD : Hid (decide (headHolds ⟨ps, ks, cells, is, res, keep, nodes, entry⟩ true) = true) := Lib.hid (by rw [decide_eq_true_eq]; exact HC.out HKS.out HJ.out k0 k1 ⟨k2, k3⟩)
          go_wp2
          go_ret
          exact ⟨by rw [HD.out]; rfl, HBL2.out⟩
end Go.Proofs.YtmfdaeicbaibeaaDoor

/-
  The document's node and head, any of them.
-/
namespace Go.Proofs.YtmfdaeicbaibeaaDoor
set_option linter.unusedVariables false
set_option linter.unusedSimpArgs false
open Go.ChangeShapes Go.WideShapes Go.ChangeAt Go.RowKit

set_option maxRecDepth 100000 in
theorem rnode_none (gs : List Gr) (g : Gr) (fo : Option Addr) (nF cF : Nat) (po ko io no : Option Addr) (nP pc nK kc nI ic nN nc : Nat) (cells keep entry : Int) (res bd : Bool) (op bop d e a b f cell imm : Int) (args : List Int) (nx el : Int) (ao : Option Addr) (nA ac : Nat) (w : World) (hk1 : ∀ k ∈ g.kinds, k = 0 ∨ k = 1) (ho0 : 0 ≤ op) (ho1 : op ≤ 255) (ho : op < 1 ∨ 18 < op) :
    Calls Tryd.prog 23 #[.slice fo nF cF, .agg #[.slice po nP pc, .slice ko nK kc, .int .i64 cells, .slice io nI ic, .bool res, .int .i64 keep, .slice no nN nc, .int .i64 entry], .bool bd, .agg #[.int .u8 op, .int .u8 bop, .int .i64 d, .int .i64 e, .int .i64 a, .int .i64 b, .int .i64 f, .int .i64 cell, .int .u64 imm, .slice ao nA ac, .int .i64 nx, .int .i64 el]] w fun ee w' => ee = .returned (.bool (decide (nodeHolds gs g bd ⟨op, bop, d, e, a, b, f, cell, imm, args, nx, el⟩))) ∧ Below w.heap.size w w' := by
  have HB2 : Hid (Below w.heap.size w ((w.alloc (.cells #[.slice po nP pc, .slice ko nK kc, .int .i64 cells, .slice io nI ic, .bool res, .int .i64 keep, .slice no nN nc, .int .i64 entry] 37)).alloc (.cells #[.int .u8 op, .int .u8 bop, .int .i64 d, .int .i64 e, .int .i64 a, .int .i64 b, .int .i64 f, .int .i64 cell, .int .u64 imm, .slice ao nA ac, .int .i64 nx, .int .i64 el] 64))) := ((Below.refl _ _).alloc (Nat.le_refl _) _).alloc (by simp) _
  have HD : Hid (decide (nodeHolds gs g bd ⟨op, bop, d, e, a, b, f, cell, imm, args, nx, el⟩) = false) := Lib.hid (by
    rw [decide_eq_false_iff_not, ← rnode_eq hk1 ho0 ho1]
    rintro ⟨⟨h1, h2⟩, _⟩
    have h1 : 1 ≤ op := h1
    have h2 : op ≤ 18 := h2
    omega)
  by_cases h : op < 1
  · have q : decide (op < 1) = true := by simpa using h
    go_enter Tryd.func23, Tryd.ntmps23
    go_wp2
    go_ret
    exact ⟨by rw [HD.out]; rfl, HB2.out⟩
  · have q : decide (op < 1) = false := by simpa using h
    have q2 : decide (op > 18) = true := by simp; omega
    go_enter Tryd.func23, Tryd.ntmps23
    go_wp2
    go_ret
    exact ⟨by rw [HD.out]; rfl, HB2.out⟩

theorem rnode_any (B : Nat) (rs : List RG) (r : RG) (i : RN) (fo : Option Addr) (nF cF : Nat) (bd : Bool) (w : World) (HF0 : RdP w B fo nF rs) (hg : RdG w B r) (hwg : WfG r.gr) (hi : RdN w B i) (hwi : WfN i.nd) (hB : B ≤ w.heap.size) (hk1 : ∀ k ∈ r.gr.kinds, k = 0 ∨ k = 1) (hh : ∀ g ∈ grs rs, headHolds g bd) :
    Calls Tryd.prog 23 #[.slice fo nF cF, .agg #[.slice r.po r.gr.params.length r.pc, .slice r.ko r.gr.kinds.length r.kc, .int .i64 r.gr.cells, .slice r.io r.gr.init.length r.ic, .bool r.gr.result, .int .i64 r.gr.keep, .slice r.no r.gr.nodes.length r.nc, .int .i64 r.gr.entry], .bool bd, .agg #[.int .u8 i.nd.op, .int .u8 i.nd.bop, .int .i64 i.nd.d, .int .i64 i.nd.e, .int .i64 i.nd.a, .int .i64 i.nd.b, .int .i64 i.nd.f, .int .i64 i.nd.cell, .int .u64 i.nd.imm, .slice i.ao i.nd.args.length i.ac, .int .i64 i.nd.next, .int .i64 i.nd.els]] w fun ee w' => ee = .returned (.bool (decide (nodeHolds (grs rs) r.gr bd i.nd))) ∧ Below w.heap.size w w' := by
  obtain ⟨⟨op, bop, d, e, a, b, f, cell, imm, args, nx, el⟩, ao, ac⟩ := i
  have ho0 := hwi.o0
  have ho1 := hwi.o1
  have hal := hwi.al
  have hkl := hwg.kl
  have ha := hi.args
  simp only at ho0 ho1 hal ha
  rcases op_cases ho0 ho1 with rfl | rfl | rfl | rfl | rfl | rfl | rfl | rfl | rfl | rfl | rfl | rfl | rfl | rfl | rfl | rfl | rfl | rfl | h
  · exact rnode_1 B rs r.gr.params r.gr.kinds r.gr.init r.gr.nodes fo nF cF r.po r.ko r.io r.no _ r.pc _ r.kc _ r.ic _ r.nc r.gr.cells r.gr.keep r.gr.entry r.gr.result bd bop d e a b f cell imm args nx el ao _ ac w HF0 hg.kinds rfl (by omega) ha rfl (by omega) hB hk1 hh rfl
  · exact rnode_2 B rs r.gr.params r.gr.kinds r.gr.init r.gr.nodes fo nF cF r.po r.ko r.io r.no _ r.pc _ r.kc _ r.ic _ r.nc r.gr.cells r.gr.keep r.gr.entry r.gr.result bd bop d e a b f cell imm args nx el ao _ ac w HF0 hg.kinds rfl (by omega) ha rfl (by omega) hB hk1 hh rfl
  · exact rnode_3 B rs r.gr.params r.gr.kinds r.gr.init r.gr.nodes fo nF cF r.po r.ko r.io r.no _ r.pc _ r.kc _ r.ic _ r.nc r.gr.cells r.gr.keep r.gr.entry r.gr.result bd bop d e a b f cell imm args nx el ao _ ac w HF0 hg.kinds rfl (by omega) ha rfl (by omega) hB hk1 hh rfl
  · exact rnode_4 B rs r.gr.params r.gr.kinds r.gr.init r.gr.nodes fo nF cF r.po r.ko r.io r.no _ r.pc _ r.kc _ r.ic _ r.nc r.gr.cells r.gr.keep r.gr.entry r.gr.result bd bop d e a b f cell imm args nx el ao _ ac w HF0 hg.kinds rfl (by omega) ha rfl (by omega) hB hk1 hh rfl
  · exact rnode_5 B rs r.gr.params r.gr.kinds r.gr.init r.gr.nodes fo nF cF r.po r.ko r.io r.no _ r.pc _ r.kc _ r.ic _ r.nc r.gr.cells r.gr.keep r.gr.entry r.gr.result bd bop d e a b f cell imm args nx el ao _ ac w HF0 hg.kinds rfl (by omega) ha rfl (by omega) hB hk1 hh rfl
  · exact rnode_6 B rs r.gr.params r.gr.kinds r.gr.init r.gr.nodes fo nF cF r.po r.ko r.io r.no _ r.pc _ r.kc _ r.ic _ r.nc r.gr.cells r.gr.keep r.gr.entry r.gr.result bd bop d e a b f cell imm args nx el ao _ ac w HF0 hg.kinds rfl (by omega) ha rfl (by omega) hB hk1 hh rfl
  · exact rnode_7 B rs r.gr.params r.gr.kinds r.gr.init r.gr.nodes fo nF cF r.po r.ko r.io r.no _ r.pc _ r.kc _ r.ic _ r.nc r.gr.cells r.gr.keep r.gr.entry r.gr.result bd bop d e a b f cell imm args nx el ao _ ac w HF0 hg.kinds rfl (by omega) ha rfl (by omega) hB hk1 hh rfl
  · exact rnode_8 B rs r.gr.params r.gr.kinds r.gr.init r.gr.nodes fo nF cF r.po r.ko r.io r.no _ r.pc _ r.kc _ r.ic _ r.nc r.gr.cells r.gr.keep r.gr.entry r.gr.result bd bop d e a b f cell imm args nx el ao _ ac w HF0 hg.kinds rfl (by omega) ha rfl (by omega) hB hk1 hh rfl
  · exact rnode_9 B rs r.gr.params r.gr.kinds r.gr.init r.gr.nodes fo nF cF r.po r.ko r.io r.no _ r.pc _ r.kc _ r.ic _ r.nc r.gr.cells r.gr.keep r.gr.entry r.gr.result bd bop d e a b f cell imm args nx el ao _ ac w HF0 hg.kinds rfl (by omega) ha rfl (by omega) hB hk1 hh rfl
  · exact rnode_10 B rs r.gr.params r.gr.kinds r.gr.init r.gr.nodes fo nF cF r.po r.ko r.io r.no _ r.pc _ r.kc _ r.ic _ r.nc r.gr.cells r.gr.keep r.gr.entry r.gr.result bd bop d e a b f cell imm args nx el ao _ ac w HF0 hg.kinds rfl (by omega) ha rfl (by omega) hB hk1 hh rfl
  · exact rnode_11 B rs r.gr.params r.gr.kinds r.gr.init r.gr.nodes fo nF cF r.po r.ko r.io r.no _ r.pc _ r.kc _ r.ic _ r.nc r.gr.cells r.gr.keep r.gr.entry r.gr.result bd bop d e a b f cell imm args nx el ao _ ac w HF0 hg.kinds rfl (by omega) ha rfl (by omega) hB hk1 hh rfl
  · exact rnode_12 B rs r.gr.params r.gr.kinds r.gr.init r.gr.nodes fo nF cF r.po r.ko r.io r.no _ r.pc _ r.kc _ r.ic _ r.nc r.gr.cells r.gr.keep r.gr.entry r.gr.result bd bop d e a b f cell imm args nx el ao _ ac w HF0 hg.kinds rfl (by omega) ha rfl (by omega) hB hk1 hh rfl
  · exact rnode_13 B rs r.gr.params r.gr.kinds r.gr.init r.gr.nodes fo nF cF r.po r.ko r.io r.no _ r.pc _ r.kc _ r.ic _ r.nc r.gr.cells r.gr.keep r.gr.entry r.gr.result bd bop d e a b f cell imm args nx el ao _ ac w HF0 hg.kinds rfl (by omega) ha rfl (by omega) hB hk1 hh rfl
  · exact rnode_14 B rs r.gr.params r.gr.kinds r.gr.init r.gr.nodes fo nF cF r.po r.ko r.io r.no _ r.pc _ r.kc _ r.ic _ r.nc r.gr.cells r.gr.keep r.gr.entry r.gr.result bd bop d e a b f cell imm args nx el ao _ ac w HF0 hg.kinds rfl (by omega) ha rfl (by omega) hB hk1 hh rfl
  · exact rnode_15 B rs r.gr.params r.gr.kinds r.gr.init r.gr.nodes fo nF cF r.po r.ko r.io r.no _ r.pc _ r.kc _ r.ic _ r.nc r.gr.cells r.gr.keep r.gr.entry r.gr.result bd bop d e a b f cell imm args nx el ao _ ac w HF0 hg.kinds rfl (by omega) ha rfl (by omega) hB hk1 hh rfl
  · exact rnode_16 B rs r.gr.params r.gr.kinds r.gr.init r.gr.nodes fo nF cF r.po r.ko r.io r.no _ r.pc _ r.kc _ r.ic _ r.nc r.gr.cells r.gr.keep r.gr.entry r.gr.result bd bop d e a b f cell imm args nx el ao _ ac w HF0 hg.kinds rfl (by omega) ha rfl (by omega) hB hk1 hh rfl
  · exact rnode_17 B rs r.gr.params r.gr.kinds r.gr.init r.gr.nodes fo nF cF r.po r.ko r.io r.no _ r.pc _ r.kc _ r.ic _ r.nc r.gr.cells r.gr.keep r.gr.entry r.gr.result bd bop d e a b f cell imm args nx el ao _ ac w HF0 hg.kinds rfl (by omega) ha rfl (by omega) hB hk1 hh rfl
  · exact rnode_18 B rs r.gr.params r.gr.kinds r.gr.init r.gr.nodes fo nF cF r.po r.ko r.io r.no _ r.pc _ r.kc _ r.ic _ r.nc r.gr.cells r.gr.keep r.gr.entry r.gr.result bd bop d e a b f cell imm args nx el ao _ ac w HF0 hg.kinds rfl (by omega) ha rfl (by omega) hB hk1 hh rfl
  · exact rnode_none (grs rs) r.gr fo nF cF r.po r.ko r.io r.no _ r.pc _ r.kc _ r.ic _ r.nc r.gr.cells r.gr.keep r.gr.entry r.gr.result bd op bop d e a b f cell imm args nx el ao _ ac w hk1 ho0 ho1 (by omega)
theorem rhead_any (B : Nat) (r : RG) (bd : Bool) (w : World) (h : RdG w B r) (hw : WfG r.gr) (hB : B ≤ w.heap.size) :
    Calls Tryd.prog 22 #[.agg #[.slice r.po r.gr.params.length r.pc, .slice r.ko r.gr.kinds.length r.kc, .int .i64 r.gr.cells, .slice r.io r.gr.init.length r.ic, .bool r.gr.result, .int .i64 r.gr.keep, .slice r.no r.gr.nodes.length r.nc, .int .i64 r.gr.entry], .bool bd] w fun e w' => e = .returned (.bool (decide (headHolds r.gr bd))) ∧ Below w.heap.size w w' := by
  have h1 := hw.pl
  have h2 := hw.kl
  have h3 := hw.il
  have h4 := hw.nl
  cases bd
  · exact rhead_false B r.gr.params r.gr.kinds r.gr.init r.gr.nodes r.po r.ko r.io r.no _ r.pc _ r.kc _ r.ic _ r.nc r.gr.cells r.gr.keep r.gr.entry r.gr.result w h.params rfl h.pcap (by omega) h.kinds rfl (by omega) h.init rfl (by omega) rfl (by omega) hw.kinds hB
  · exact rhead_true B r.gr.params r.gr.kinds r.gr.init r.gr.nodes r.po r.ko r.io r.no _ r.pc _ r.kc _ r.ic _ r.nc r.gr.cells r.gr.keep r.gr.entry r.gr.result w h.params rfl h.pcap (by omega) h.kinds rfl (by omega) h.init rfl (by omega) rfl (by omega) hw.kinds hB
end Go.Proofs.YtmfdaeicbaibeaaDoor
