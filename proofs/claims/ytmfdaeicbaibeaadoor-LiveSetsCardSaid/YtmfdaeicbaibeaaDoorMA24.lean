/-
  Texts of one seat, one behind the other: Rt, Si, LSa, LSw.
-/
import Derived.BigQuiet
import Derived.Test.YtmfdaeicbaibeaaDoorMA23
import Derived.Test.YtmfdaeicbaibeaaDoorMA13
import Derived.Test.YtmfdaeicbaibeaaDoorMA14
import Derived.Test.YtmfdaeicbaibeaaDoorMA15

/-
  The document's Right: which programs of graphs are right.
-/
namespace Go.Proofs.YtmfdaeicbaibeaaDoor
set_option linter.unusedVariables false
set_option linter.unusedSimpArgs false
open Go.ChangeShapes Go.WideShapes Go.ChangeAt Go.RowKit

set_option maxRecDepth 100000 in
set_option maxHeartbeats 12800000 in
theorem rright_any (B : Nat) (fo : Option Addr) (nF cF : Nat) (rs : List RG) (bd : Bool) (w : World) (h : RdP w B fo nF rs) (hB : B ≤ w.heap.size) :
    Calls Tryd.prog 9 #[.agg #[.slice fo nF cF], .bool bd] w fun e w' => e = .returned (.bool (decide (valid (grs rs) bd))) ∧ Below w.heap.size w w' := by
  have HBL : Hid (Below w.heap.size w (w.alloc (.cells #[.slice fo nF cF] 24))) := (Below.refl _ _).alloc (Nat.le_refl _) _
  have HBX : Hid (Blk (w.alloc (.cells #[.slice fo nF cF] 24)) w.heap.size 24 #[.slice fo nF cF]) := Blk.new w _ _
  have hB1 : B ≤ (w.alloc (.cells #[.slice fo nF cF] 24)).heap.size := by simp; omega
  have HF := Lib.hid (h.below (HBL.out.mono hB))
  have HGL : Hid ((grs rs).length = nF) := Lib.hid (by rw [length_grs, h.len])
  obtain ⟨W1, hW1⟩ : ∃ W, W = (w.alloc (.cells #[.slice fo nF cF] 24)) := ⟨_, rfl⟩
  have HW1 := Lib.hid hW1
  have HZ1 : Hid (w.heap.size ≤ W1.heap.size) := Lib.hid (by rw [hW1]; simp)
  rw [← hW1] at HBL HBX hB1 HF
  have d0 : W1.cell? ⟨w.heap.size, 0, none⟩ = some (.slice fo nF cF) := HBX.out.cell 0
  clear h hW1
  by_cases c1 : nF < 1
  · have HD : Hid (decide (valid (grs rs) bd) = false) := Lib.hid (by rw [decide_eq_false_iff_not]; rintro ⟨⟨h, _⟩, _⟩; rw [HGL.out] at h; omega)
    have g : decide ((nF : Int) < 1) = true := by simp; omega
    go_enter Tryd.func9, Tryd.ntmps9
    go_wp2
    go_ret
    exact ⟨by rw [HD.out]; rfl, by rw [← HW1.out]; exact HBL.out⟩
  have g : decide ((nF : Int) < 1) = false := by simp; omega
  by_cases c2 : 16 < nF
  · have HD : Hid (decide (valid (grs rs) bd) = false) := Lib.hid (by rw [decide_eq_false_iff_not]; rintro ⟨⟨_, h⟩, _⟩; rw [HGL.out] at h; omega)
    have g2 : decide ((nF : Int) > 16) = true := by simp; omega
    go_enter Tryd.func9, Tryd.ntmps9
    go_wp2
    go_ret
    exact ⟨by rw [HD.out]; rfl, by rw [← HW1.out]; exact HBL.out⟩
  have g2 : decide ((nF : Int) > 16) = false := by simp; omega
  have hj : 0 < nF := by omega
  obtain ⟨b0, off0, r0, hfo, hb0, HX0, HRG0, HWG0, y0, _, _, _, y4, _, _, _⟩ := HF.out.gr hj
  simp only [Nat.zero_mul, Nat.add_zero] at y0 y4
  have HG0 : Hid (grAt (grs rs) 0 = r0.gr) := Lib.hid (grAt_of HX0.out)
  subst hfo
  have hbr0 : b0 < W1.heap.size := by omega
  obtain ⟨p0, hp0⟩ : ∃ x, x = r0.gr.params.length := ⟨_, rfl⟩
  obtain ⟨q0, hq0⟩ : ∃ x, x = r0.gr.result := ⟨_, rfl⟩
  rw [← hp0] at y0
  rw [← hq0] at y4
  have HP0 := Lib.hid hp0
  have HQ0 := Lib.hid hq0
  clear hp0 hq0
  by_cases c3 : p0 = 0
  rotate_left
  · have HD : Hid (decide (valid (grs rs) bd) = false) := Lib.hid (by rw [decide_eq_false_iff_not]; rintro ⟨_, ⟨h, _⟩, _⟩; rw [HG0.out, ← HP0.out] at h; exact c3 h)
    have g3 : ((p0 : Int) != 0) = true := by rw [bne_iff_ne]; omega
    have g3' : (p0 != 0) = true := by rw [bne_iff_ne]; omega
    clear c3
    rw [HW1.out] at y0 y4
    go_enter Tryd.func9, Tryd.ntmps9
    go_wp2
    go_ret
    exact ⟨by rw [HD.out]; rfl, by rw [← HW1.out]; exact HBL.out⟩
  have g3 : ((p0 : Int) != 0) = false := by simp; omega
  have g3' : (p0 != 0) = false := by simp; omega
  cases q0
  rotate_left
  · have HD : Hid (decide (valid (grs rs) bd) = false) := Lib.hid (by rw [decide_eq_false_iff_not]; rintro ⟨_, ⟨_, h⟩, _⟩; rw [HG0.out, ← HQ0.out] at h; cases h)
    clear c3
    rw [HW1.out] at y0 y4
    go_enter Tryd.func9, Tryd.ntmps9
    go_wp2
    go_ret
    exact ⟨by rw [HD.out]; rfl, by rw [← HW1.out]; exact HBL.out⟩
  have HV : Hid (valid (grs rs) bd ↔ (∀ g ∈ grs rs, headHolds g bd) ∧ ∀ g ∈ grs rs, ∀ n ∈ g.nodes, nodeHolds (grs rs) g bd n) := Lib.hid (by
    unfold valid
    rw [HG0.out, ← HP0.out, ← HQ0.out, HGL.out]
    exact ⟨fun h => h.2.2, fun h => ⟨⟨by omega, by omega⟩, ⟨c3, rfl⟩, h⟩⟩)
  obtain ⟨fo, hfo⟩ : ∃ x, x = (some ⟨b0, off0, none⟩ : Option Addr) := ⟨_, rfl⟩
  have HFO := Lib.hid hfo
  have hn16 : nF ≤ 16 := by omega
  clear c1 c2
  clear d0
  rw [HW1.out] at y0 y4
  go_enter Tryd.func9, Tryd.ntmps9
  go_wp2
  rw [← HW1.out]
  clear y0 y4
  go_loopw [40] (fun i wr => ∃ k : Nat, k ≤ nF ∧ i = .int .i64 k ∧ Hid (∀ g ∈ (grs rs).take k, headHolds g bd) ∧ Hid (Below W1.heap.size W1 wr)) (fun i _ => nF - (intOf i).toNat)
  case atStart => exact ⟨0, Nat.zero_le _, rfl, Lib.hid (by simp), Lib.hid (Below.refl _ _)⟩
  case round =>
    obtain ⟨k, hk, rfl, HA, HW⟩ := hrel
    have hz := HW.out.size
    have d0 : wr.cell? ⟨w.heap.size, 0, none⟩ = some (.slice (some ⟨b0, off0, none⟩) nF cF) := (HBX.out.below HW.out HBX.out.lt).cell 0
    have HBW := Lib.hid (HBL.out.trans (HW.out.mono HZ1.out))
    by_cases hlt : k < nF
    · obtain ⟨b, off, r, hfe, hb, HX, HRG, HWG, x0, x1, x2, x3, x4, x5, x6, x7⟩ := (HF.out.below (HW.out.mono hB1)).gr hlt
      obtain ⟨rfl, rfl⟩ : b0 = b ∧ off0 = off := by injection hfe with hfe; injection hfe with h1 h2; exact ⟨h1, h2⟩
      clear hfe
      have hbr : b0 < wr.heap.size := by omega
      have HBA : Hid (Below wr.heap.size wr (wr.alloc (.cells #[.slice r.po r.gr.params.length r.pc, .slice r.ko r.gr.kinds.length r.kc, .int .i64 r.gr.cells, .slice r.io r.gr.init.length r.ic, .bool r.gr.result, .int .i64 r.gr.keep, .slice r.no r.gr.nodes.length r.nc, .int .i64 r.gr.entry] 37))) := (Below.refl _ _).alloc (Nat.le_refl _) _
      have HRA := Lib.hid (HRG.out.below (HBA.out.mono (by omega)))
      have hBa : B ≤ (wr.alloc (.cells #[.slice r.po r.gr.params.length r.pc, .slice r.ko r.gr.kinds.length r.kc, .int .i64 r.gr.cells, .slice r.io r.gr.init.length r.ic, .bool r.gr.result, .int .i64 r.gr.keep, .slice r.no r.gr.nodes.length r.nc, .int .i64 r.gr.entry] 37)).heap.size := by simp; omega
      have HMM : Hid (r.gr ∈ grs rs) := Lib.hid (List.mem_map_of_mem (List.mem_of_getElem? HX.out))
      have HXG : Hid ((grs rs)[k]? = some r.gr) := Lib.hid (by unfold grs; rw [List.getElem?_map, HX.out]; rfl)
      by_cases c4 : headHolds r.gr bd
      · have H1 : Hid (decide (headHolds r.gr bd) = true) := Lib.hid (decide_eq_true c4)
        have HA2 := Lib.hid (all_take (Q := fun g => headHolds g bd) HXG.out c4 HA.out)
        clear c4
        go_wp2_with (first | (go_at_call 22; refine (rhead_any B r bd _ HRA.out HWG.out hBa).mono ?_; rintro e w2 ⟨rfl, hb2⟩; have HB2 := Lib.hid (HBA.out.trans (hb2.mono HBA.out.size)); clear hb2; rw [H1.out]))
        go_roundw
        case rel => exact ⟨k + 1, by omega, by go_num, HA2, Lib.hid (HW.out.trans (HB2.out.mono hz))⟩
        case measure => simp [intOf]; omega
      · have H1 : Hid (decide (headHolds r.gr bd) = false) := Lib.hid (decide_eq_false c4)
        have HD : Hid (decide (valid (grs rs) bd) = false) := Lib.hid (by rw [decide_eq_false_iff_not, HV.out]; rintro ⟨h, _⟩; exact c4 (h _ HMM.out))
        clear c4
        go_wp2_with (first | (go_at_call 22; refine (rhead_any B r bd _ HRA.out HWG.out hBa).mono ?_; rintro e w2 ⟨rfl, hb2⟩; have HB2 := Lib.hid (HBA.out.trans (hb2.mono HBA.out.size)); clear hb2; rw [H1.out]))
        go_ret
        exact ⟨by rw [HD.out]; rfl, HBW.out.trans (HB2.out.mono HBW.out.size)⟩
    · obtain rfl : nF = k := by omega
      have HHA : Hid (∀ g ∈ grs rs, headHolds g bd) := Lib.hid (by have := HA.out; rwa [List.take_of_length_le (by rw [HGL.out]; omega)] at this)
      clear hlt hk
      go_wp2
      obtain ⟨wo, rfl⟩ : ∃ wo, wo = wr := ⟨_, rfl⟩
      clear d0
      go_loopw [52] (fun i wr => ∃ k : Nat, k ≤ nF ∧ i = .int .i64 k ∧ Hid (∀ g ∈ (grs rs).take k, ∀ n ∈ g.nodes, nodeHolds (grs rs) g bd n) ∧ Hid (Below W1.heap.size W1 wr)) (fun i _ => nF - (intOf i).toNat)
      case atStart => exact ⟨0, Nat.zero_le _, rfl, Lib.hid (by simp), HW⟩
      case round =>
        clear HW HBW hz
        obtain ⟨k, hk, rfl, HA, HW⟩ := hrel
        have hz := HW.out.size
        have d0 : wr.cell? ⟨w.heap.size, 0, none⟩ = some (.slice (some ⟨b0, off0, none⟩) nF cF) := (HBX.out.below HW.out HBX.out.lt).cell 0
        have HBW := Lib.hid (HBL.out.trans (HW.out.mono HZ1.out))
        by_cases hlt : k < nF
        · obtain ⟨b, off, r, hfe, hb, HX, HRG, HWG, x0, x1, x2, x3, x4, x5, x6, x7⟩ := (HF.out.below (HW.out.mono hB1)).gr hlt
          obtain ⟨rfl, rfl⟩ : b0 = b ∧ off0 = off := by injection hfe with hfe; injection hfe with h1 h2; exact ⟨h1, h2⟩
          clear hfe
          have hbr : b0 < wr.heap.size := by omega
          have hb8 : Below wr.heap.size wr (wr.alloc (.cells #[.slice r.po r.gr.params.length r.pc, .slice r.ko r.gr.kinds.length r.kc, .int .i64 r.gr.cells, .slice r.io r.gr.init.length r.ic, .bool r.gr.result, .int .i64 r.gr.keep, .slice r.no r.gr.nodes.length r.nc, .int .i64 r.gr.entry] 37)) := (Below.refl _ _).alloc (Nat.le_refl _) _
          have hg8 : Blk (wr.alloc (.cells #[.slice r.po r.gr.params.length r.pc, .slice r.ko r.gr.kinds.length r.kc, .int .i64 r.gr.cells, .slice r.io r.gr.init.length r.ic, .bool r.gr.result, .int .i64 r.gr.keep, .slice r.no r.gr.nodes.length r.nc, .int .i64 r.gr.entry] 37)) wr.heap.size 37 #[.slice r.po r.gr.params.length r.pc, .slice r.ko r.gr.kinds.length r.kc, .int .i64 r.gr.cells, .slice r.io r.gr.init.length r.ic, .bool r.gr.result, .int .i64 r.gr.keep, .slice r.no r.gr.nodes.length r.nc, .int .i64 r.gr.entry] := Blk.new wr _ _
          have HMM : Hid (r.gr ∈ grs rs) := Lib.hid (List.mem_map_of_mem (List.mem_of_getElem? HX.out))
          have HXG : Hid ((grs rs)[k]? = some r.gr) := Lib.hid (by unfold grs; rw [List.getElem?_map, HX.out]; rfl)
          have hwn := HWG.out.nl
          have HK1 : Hid (∀ k ∈ r.gr.kinds, k = 0 ∨ k = 1) := Lib.hid (HHA.out _ HMM.out).1.2.2
          obtain ⟨nN, hnN⟩ : ∃ x, x = r.gr.nodes.length := ⟨_, rfl⟩
          have HNN := Lib.hid hnN
          rw [← hnN] at hwn
          go_wp2
          obtain ⟨p8, HP8⟩ : ∃ x, Hid (x = wr.heap.size) := ⟨_, Lib.hid rfl⟩
          obtain ⟨W8, hW8⟩ : ∃ W, W = (wr.alloc (.cells #[.slice r.po r.gr.params.length r.pc, .slice r.ko r.gr.kinds.length r.kc, .int .i64 r.gr.cells, .slice r.io r.gr.init.length r.ic, .bool r.gr.result, .int .i64 r.gr.keep, .slice r.no r.gr.nodes.length r.nc, .int .i64 r.gr.entry] 37)) := ⟨_, rfl⟩
          rw [← hW8] at hb8 hg8 ⊢
          rw [← HP8.out] at hg8 ⊢
          rw [← hnN]
          have HW8 := Lib.hid (HW.out.trans (hb8.mono hz))
          have HG8 := Lib.hid hg8
          have HRG8 := Lib.hid (HRG.out.below (hb8.mono (by omega)))
          have hB8 : B ≤ W8.heap.size := Nat.le_trans (by omega) hb8.size
          obtain ⟨wo2, hwo2⟩ : ∃ wo, wo = wr := ⟨_, rfl⟩
          clear hwo2 hW8 hb8 hg8 hnN HP8 x0 x1 x2 x3 x4 x5 x6 x7 d0
          go_loopw [59] (fun i wr => ∃ m : Nat, m ≤ nN ∧ i = .int .i64 m ∧ Hid (∀ n ∈ r.gr.nodes.take m, nodeHolds (grs rs) r.gr bd n) ∧ Hid (Below W8.heap.size W8 wr)) (fun i _ => nN - (intOf i).toNat)
          case atStart => exact ⟨0, Nat.zero_le _, rfl, Lib.hid (by simp), Lib.hid (Below.refl _ _)⟩
          case round =>
            obtain ⟨m, hm, rfl, HM, HWM⟩ := hrel
            have HWW := Lib.hid (HW8.out.trans (HWM.out.mono HW8.out.size))
            have HGM := Lib.hid (HG8.out.below HWM.out HG8.out.lt)
            have HBW := Lib.hid (HBL.out.trans (HWW.out.mono HZ1.out))
            have d0 : wr.cell? ⟨w.heap.size, 0, none⟩ = some (.slice (some ⟨b0, off0, none⟩) nF cF) := (HBX.out.below HWW.out HBX.out.lt).cell 0
            have v0 : wr.cell? ⟨p8, 0, none⟩ = some (.slice r.po r.gr.params.length r.pc) := HGM.out.cell 0
            have v1 : wr.cell? ⟨p8, 1, none⟩ = some (.slice r.ko r.gr.kinds.length r.kc) := HGM.out.cell 1
            have v2 : wr.cell? ⟨p8, 2, none⟩ = some (.int .i64 r.gr.cells) := HGM.out.cell 2
            have v3 : wr.cell? ⟨p8, 3, none⟩ = some (.slice r.io r.gr.init.length r.ic) := HGM.out.cell 3
            have v4 : wr.cell? ⟨p8, 4, none⟩ = some (.bool r.gr.result) := HGM.out.cell 4
            have v5 : wr.cell? ⟨p8, 5, none⟩ = some (.int .i64 r.gr.keep) := HGM.out.cell 5
            have v6 : wr.cell? ⟨p8, 6, none⟩ = some (.slice r.no r.gr.nodes.length r.nc) := HGM.out.cell 6
            have v7 : wr.cell? ⟨p8, 7, none⟩ = some (.int .i64 r.gr.entry) := HGM.out.cell 7
            have hg8 := HGM.out.lt
            have hbl : w.heap.size < wr.heap.size := Nat.lt_of_lt_of_le HBX.out.lt HWW.out.size
            by_cases hml : m < nN
            · have HRN : Hid (RdNs wr B r.no nN r.ns) := Lib.hid (by rw [HNN.out]; exact (HRG8.out.below (HWM.out.mono hB8)).nodes)
              obtain ⟨bn, on, i, hno, hbn, HXI, HRI, HWI, u0, u1, u2, u3, u4, u5, u6, u7, u8, u9, u10, u11⟩ := HRN.out.nd hml
              have HXN : Hid (r.gr.nodes[m]? = some i.nd) := Lib.hid (by rw [← HRG8.out.nd]; unfold nds; rw [List.getElem?_map, HXI.out]; rfl)
              have hBr : B ≤ wr.heap.size := Nat.le_trans hB8 HWM.out.size
              have hbnr : bn < wr.heap.size := by omega
              have HBA : Hid (Below wr.heap.size wr (wr.alloc (.cells #[.int .u8 i.nd.op, .int .u8 i.nd.bop, .int .i64 i.nd.d, .int .i64 i.nd.e, .int .i64 i.nd.a, .int .i64 i.nd.b, .int .i64 i.nd.f, .int .i64 i.nd.cell, .int .u64 i.nd.imm, .slice i.ao i.nd.args.length i.ac, .int .i64 i.nd.next, .int .i64 i.nd.els] 64))) := (Below.refl _ _).alloc (Nat.le_refl _) _
              have hBa : B ≤ (wr.alloc (.cells #[.int .u8 i.nd.op, .int .u8 i.nd.bop, .int .i64 i.nd.d, .int .i64 i.nd.e, .int .i64 i.nd.a, .int .i64 i.nd.b, .int .i64 i.nd.f, .int .i64 i.nd.cell, .int .u64 i.nd.imm, .slice i.ao i.nd.args.length i.ac, .int .i64 i.nd.next, .int .i64 i.nd.els] 64)).heap.size := by simp; omega
              have HFA := Lib.hid ((HF.out.below (HWW.out.mono hB1)).below (HBA.out.mono hBr))
              have HRA := Lib.hid ((HRG8.out.below (HWM.out.mono hB8)).below (HBA.out.mono hBr))
              have HIA := Lib.hid (HRI.out.below (HBA.out.mono hBr))
              rw [hno]
              have HNO := Lib.hid hno
              clear hno
              by_cases c4 : nodeHolds (grs rs) r.gr bd i.nd
              · have H1 : Hid (decide (nodeHolds (grs rs) r.gr bd i.nd) = true) := Lib.hid (decide_eq_true c4)
                have HM2 := Lib.hid (all_take (Q := fun n => nodeHolds (grs rs) r.gr bd n) HXN.out c4 HM.out)
                clear c4
                go_wp2_with (first | (go_at_call 23; refine (rnode_any B rs r i (some ⟨b0, off0, none⟩) nF cF bd _ HFA.out HRA.out HWG.out HIA.out HWI.out hBa HK1.out HHA.out).mono ?_; rintro e w4 ⟨rfl, hb4⟩; have HB4 := Lib.hid (HBA.out.trans (hb4.mono HBA.out.size)); clear hb4; rw [H1.out]))
                go_roundw
                case rel => exact ⟨m + 1, by omega, by go_num, HM2, Lib.hid (HWM.out.trans (HB4.out.mono HWM.out.size))⟩
                case measure => simp [intOf]; omega
              · have H1 : Hid (decide (nodeHolds (grs rs) r.gr bd i.nd) = false) := Lib.hid (decide_eq_false c4)
                have HD : Hid (decide (valid (grs rs) bd) = false) := Lib.hid (by rw [decide_eq_false_iff_not, HV.out]; rintro ⟨_, h⟩; exact c4 (h _ HMM.out _ (List.mem_of_getElem? HXN.out)))
                clear c4
                go_wp2_with (first | (go_at_call 23; refine (rnode_any B rs r i (some ⟨b0, off0, none⟩) nF cF bd _ HFA.out HRA.out HWG.out HIA.out HWI.out hBa HK1.out HHA.out).mono ?_; rintro e w4 ⟨rfl, hb4⟩; have HB4 := Lib.hid (HBA.out.trans (hb4.mono HBA.out.size)); clear hb4; rw [H1.out]))
                go_ret
                exact ⟨by rw [HD.out]; rfl, HBW.out.trans (HB4.out.mono HBW.out.size)⟩
            · obtain rfl : nN = m := by omega
              have HA2 := Lib.hid (all_take (Q := fun g => ∀ n ∈ g.nodes, nodeHolds (grs rs) g bd n) HXG.out (by have := HM.out; rwa [List.take_of_length_le (by rw [← HNN.out]; omega)] at this) HA.out)
              clear hml hm
              go_wp2
              go_roundw
              case rel => exact ⟨k + 1, by omega, by go_num, HA2, HWW⟩
              case measure => simp [intOf]; omega
        · obtain rfl : nF = k := by omega
          have HD : Hid (decide (valid (grs rs) bd) = true) := Lib.hid (by
            rw [decide_eq_true_eq, HV.out]
            refine ⟨HHA.out, ?_⟩
            have := HA.out
            rwa [List.take_of_length_le (by rw [HGL.out]; omega)] at this)
          go_wp2
          go_ret
          exact ⟨by rw [HD.out]; rfl, HBW.out⟩
end Go.Proofs.YtmfdaeicbaibeaaDoor

/-
  The document's SameInts.
-/
namespace Go.Proofs.YtmfdaeicbaibeaaDoor
set_option linter.unusedVariables false
set_option linter.unusedSimpArgs false
open Go.ChangeShapes Go.WideShapes Go.ChangeAt Go.RowKit

theorem eq_len {α : Type} [DecidableEq α] {a b : List α} (h : a.length ≠ b.length) : decide (a = b) = false := by
  simp only [decide_eq_false_iff_not]
  intro e
  exact h (by rw [e])
theorem eq_at {α : Type} [DecidableEq α] {a b : List α} {k : Nat} {x y : α} (hx : a[k]? = some x) (hy : b[k]? = some y) (h : x ≠ y) : decide (a = b) = false := by
  simp only [decide_eq_false_iff_not]
  intro e
  rw [e, hy] at hx
  exact h (by simpa using hx.symm)

set_option maxHeartbeats 1600000 in
theorem rsi_any (B : Nat) (ao bo : Option Addr) (n m c d : Nat) (la lb : List Int) (w : World) (ha : Reads w B 1 ao n (i64c la)) (hb : Reads w B 1 bo m (i64c lb)) (hn : la.length = n) (hm : lb.length = m)
    (hnb : n ≤ 140737488351232) (hmb : m ≤ 140737488351232) :
    Calls Tryd.prog 24 #[.slice ao n c, .slice bo m d] w fun e w' => e = .returned (.bool (decide (la = lb))) ∧ ∃ q, w' = w.drewN q := by
  have HA := Lib.hid ha
  have HB := Lib.hid hb
  have HN := Lib.hid hn
  have HM := Lib.hid hm
  clear ha hb hn hm
  by_cases hgt : n ≠ m
  · have hr : decide (la = lb) = false := eq_len (by rw [HN.out, HM.out]; exact hgt)
    have HR := Lib.hid hr
    clear hr
    go_enter Tryd.func24, Tryd.ntmps24
    go_wp2
    go_ret
    exact ⟨by rw [HR.out]; rfl, 0, rfl⟩
  · obtain rfl : n = m := by omega
    clear hgt
    go_enter Tryd.func24, Tryd.ntmps24
    go_wp2
    go_loopw [13] (fun i wr => ∃ k q : Nat, k ≤ n ∧ i = .int .i64 k ∧ Hid (lb.take k = la.take k) ∧ wr = w.drewN q) (fun i _ => n - (intOf i).toNat)
    case atStart => exact ⟨0, 0, Nat.zero_le _, rfl, rfl, rfl⟩
    case round =>
      obtain ⟨k, q, hk, rfl, HP, rfl⟩ := hrel
      by_cases hlt : k < n
      · obtain ⟨b1, o1, x, rfl, hb1, HX, x1⟩ := HA.out.int hlt
        obtain ⟨b2, o2, y, rfl, hb2, HY, y1⟩ := HB.out.int hlt
        by_cases hxy : x = y
        · have hd : (x != y) = false := by simpa using hxy
          have HXY := Lib.hid hxy
          clear hxy
          go_wp2
          go_quiet (fail)
          go_wp2
          go_roundw
          case rel => exact ⟨k + 1, q + nq, by omega, by go_num, by show lb.take (k + 1) = la.take (k + 1); rw [take_at HX.out, take_at HY.out, HP.out, HXY.out], rfl⟩
          case measure => simp [intOf]; omega
        · have hr : decide (la = lb) = false := eq_at HX.out HY.out hxy
          have hd : (x != y) = true := by simpa using hxy
          have HR := Lib.hid hr
          clear hxy hr
          go_wp2
          go_quiet (fail)
          go_wp2
          go_ret
          exact ⟨by rw [HR.out]; rfl, q + nq, World.drewN_drewN _ _ _⟩
      · obtain rfl : n = k := by omega
        have hr : decide (la = lb) = true := by
          have h := HP.out
          rw [List.take_of_length_le (by rw [HM.out]; omega), List.take_of_length_le (by rw [HN.out]; omega)] at h
          rw [h]; simp
        have HR := Lib.hid hr
        clear hr
        go_wp2
        go_ret
        exact ⟨by rw [HR.out]; rfl, _, rfl⟩
end Go.Proofs.YtmfdaeicbaibeaaDoor

/-
  The document's SameLists, of lists that are the same; LiveSets: the walk.
-/
namespace Go.Proofs.YtmfdaeicbaibeaaDoor
set_option linter.unusedVariables false
set_option linter.unusedSimpArgs false
open Go.ChangeShapes Go.WideShapes Go.ChangeAt Go.RowKit

theorem lrsi_refl (B : Nat) (ao bo : Option Addr) (n m c d : Nat) (la : List Int) (w : World) (ha : Reads w B 1 ao n (i64c la)) (hb : Reads w B 1 bo m (i64c la)) (hn : la.length = n) (hm : la.length = m) (hnb : n ≤ 140737488351232) (hmb : m ≤ 140737488351232) :
    Calls Tryd.prog 24 #[.slice ao n c, .slice bo m d] w fun e w' => e = .returned (.bool true) ∧ ∃ q, w' = w.drewN q := by
  have h := rsi_any B ao bo n m c d la la w ha hb hn hm hnb hmb
  rwa [decide_eq_true rfl] at h
set_option maxRecDepth 100000 in
set_option maxHeartbeats 3200000 in
theorem sameLists_eq (b1 O n c : Nat) (A : Option Addr) (vs vs2 : Nat → Value) (f : Nat → List Int) (W2 w : World) (h1 : RdL w b1 O n vs f) (h2 : OutR W2 n (.slice A n c) vs2 f w) (hn : n ≤ 4096) (hf : ∀ i, i < n → (f i).length ≤ 4096) :
    Calls Tryd.prog 10 #[.slice (some ⟨O, 0, none⟩) n n, .slice A n c] w fun e w' => e = .returned (.bool true) ∧ ∃ nq, w' = w.drewN nq := by
  have H1 := Lib.hid h1
  have H2 := Lib.hid h2
  have HF := Lib.hid hf
  clear h1 h2 hf
  go_enter Tryd.func10, Tryd.ntmps10
  go_wp2
  go_loopw [13] (fun s wr => ∃ k : Nat, k ≤ n ∧ s = .int .i64 k ∧ Hid (∃ nq, wr = w.drewN nq)) (fun s _ => n - (intOf s).toNat)
  case atStart => exact ⟨0, by omega, rfl, Lib.hid ⟨0, rfl⟩⟩
  case round =>
    obtain ⟨k, hk, rfl, HW⟩ := hrel
    have H1r : Hid (RdL wr b1 O n vs f) := Lib.hid (by
      obtain ⟨nq, e⟩ := HW.out
      rw [e]
      exact ⟨H1.out.row, H1.out.own⟩)
    have H2r : Hid (OutR W2 n (.slice A n c) vs2 f wr) := Lib.hid (by
      obtain ⟨nq, e⟩ := HW.out
      rw [e]
      exact ⟨H2.out.out, H2.out.own⟩)
    by_cases hlt : k < n
    · obtain ⟨A1, c1, e1⟩ := own_slice (H1r.out.own k hlt)
      obtain ⟨A2, c2, e2⟩ := own_slice (H2r.out.own k hlt)
      obtain ⟨bo, oo, hoe, hbo, hco⟩ := (Reads.of_own H2r.out.out).lit (by omega) (by omega)
      have r1 : wr.cell? ⟨O, k, none⟩ = some (.slice A1 (f k).length c1) := by
        have h := H1r.out.row.cell k
        rw [rowA_at _ hlt, e1] at h
        exact h
      have r2 : wr.cell? ⟨bo, oo + k, none⟩ = some (.slice A2 (f k).length c2) := by rw [← e2]; exact hco k _ (range_at vs2 hlt)
      have HSI : Hid (∀ nq, Calls Tryd.prog 24 #[.slice A1 (f k).length c1, .slice A2 (f k).length c2] (wr.drewN nq) fun e w' => e = .returned (.bool true) ∧ ∃ q, w' = (wr.drewN nq).drewN q) := Lib.hid fun nq => lrsi_refl wr.heap.size A1 A2 _ _ c1 c2 (f k) _ (by
        have h := H1r.out.own k hlt
        rw [e1] at h
        exact Reads.of_own h) (by
        have h := H2r.out.own k hlt
        rw [e2] at h
        exact Reads.of_own h) rfl rfl (by have := HF.out k hlt; omega) (by have := HF.out k hlt; omega)
      have HOE := Lib.hid hoe
      rw [hoe]
      clear hoe e1 e2 hco
      go_wp2
      go_quiet ((go_at_call 24; exact Calls.quiet_of (HSI.out _)))
      go_wp2
      go_roundw
      case rel => exact ⟨k + 1, by omega, by go_num, Lib.hid (by obtain ⟨n0, e⟩ := HW.out; exact ⟨n0 + nq, by rw [e]; first | rfl | (simp [World.drewN, Nat.add_assoc])⟩)⟩
      case measure => simp [intOf]; omega
    · go_wp2
      go_ret
      obtain ⟨n0, e⟩ := HW.out
      exact ⟨rfl, n0, e⟩
end Go.Proofs.YtmfdaeicbaibeaaDoor

/-
  LiveSets: the walk.
-/
namespace Go.Proofs.YtmfdaeicbaibeaaDoor
set_option linter.unusedVariables false
set_option linter.unusedSimpArgs false
open Go.ChangeShapes Go.WideShapes Go.ChangeAt Go.RowKit

/-- an answer that is an error -/
theorem LvPost.bad {L : List Nd → Nat → Nat → List Int} {gs : List Gr} {f : Int} {z : Int} {w w' : World} {e : Ending} (h : LvPost L gs f w e w') (hz : chkL gs f = z) (h0 : z ≠ 0) :
    Below w.heap.size w w' ∧ e = .returned (.tuple #[.slice none 0 0, .int .i64 z]) := by
  obtain ⟨hb, A, n, c, rfl, h1, _⟩ := h
  obtain ⟨rfl, rfl, rfl⟩ := h1 (by rw [hz]; exact h0)
  exact ⟨hb, by rw [hz]⟩
set_option maxRecDepth 100000 in
set_option maxHeartbeats 12800000 in
theorem sets_walk (fo : Option Addr) (nF cF : Nat) (rs : List RG) (f : Int) (w : World) (h : RdP w w.heap.size fo nF rs) (hT : TzTab w) :
    Calls Tryd.prog 3 #[.agg #[.slice fo nF cF], .int .i64 f] w fun e w' => e = .returned (.bool true) ∧ Below w.heap.size w w' := by
  have hb0 : Below w.heap.size w (w.alloc (.cells #[.slice fo nF cF] 24)) := (Below.refl _ _).alloc (Nat.le_refl _) _
  have HG0 := Lib.hid (Blk.new w 24 #[.slice fo nF cF])
  have HF := Lib.hid (lfirst_any (w.alloc (.cells #[.slice fo nF cF] 24)) (hT.below hb0))
  have HB0 := Lib.hid hb0
  have H := Lib.hid h
  have HT := Lib.hid hT
  have HIN : Hid (∀ W, Below w.heap.size w W → Calls Tryd.prog 7 #[.agg #[.slice fo nF cF], .int .i64 f] W (LvPost liveL (grs rs) f W)) := Lib.hid fun W hb => in_live w.heap.size fo nF cF rs f W (h.below hb) hb.size (hT.below hb)
  have HOU : Hid (∀ W, Below w.heap.size w W → Calls Tryd.prog 8 #[.agg #[.slice fo nF cF], .int .i64 f] W (LvPost liveOL (grs rs) f W)) := Lib.hid fun W hb => out_live w.heap.size fo nF cF rs f W (h.below hb) hb.size (hT.below hb)
  have HRI : Hid (∀ W, Below w.heap.size w W → Calls Tryd.prog 9 #[.agg #[.slice fo nF cF], .bool false] W fun e w' => e = .returned (.bool (decide (valid (grs rs) false))) ∧ Below W.heap.size W w') := Lib.hid fun W hb => rright_any w.heap.size fo nF cF rs false W (h.below hb) hb.size
  clear h hT hb0
  have HG : Hid (∀ W, Below (w.heap.size + 1) (w.alloc (.cells #[.slice fo nF cF] 24)) W → W.cell? ⟨w.heap.size, 0, none⟩ = some (.slice fo nF cF)) := Lib.hid fun W hb => (HG0.out.below hb (by omega)).cell 0
  have HZ0 : Hid ((w.alloc (.cells #[.slice fo nF cF] 24)).heap.size = w.heap.size + 1) := Lib.hid (by simp)
  by_cases hv : valid (grs rs) false
  · have HD : Hid (decide (valid (grs rs) false) = true) := Lib.hid (decide_eq_true hv)
    rw [HD.out] at HRI
    by_cases hr : f < 0 ∨ (nF : Int) ≤ f
    · have HC : Hid (chkL (grs rs) f = 2) := Lib.hid (by
        unfold chkL
        rw [if_pos hv, if_pos]
        rw [length_grs, H.out.len]
        exact hr)
      have HV := Lib.hid hv
      clear hv
      by_cases h0 : f < 0
      · have g0 : decide (f < 0) = true := decide_eq_true h0
        clear h0 hr
        go_enter Tryd.func3, Tryd.ntmps3
        go_wp2_with (first
          | (go_at_call 6; refine HF.out.mono ?_; rintro e w1 ⟨rfl, hb1⟩; rw [HZ0.out] at hb1; have HB1 := Lib.hid hb1; have HW1 := Lib.hid (HB0.out.trans (hb1.mono (by omega))); have x1 := HG.out _ hb1; clear hb1)
          | (go_at_call 7; refine (HIN.out _ HW1.out).mono ?_; rintro e w2 hl; obtain ⟨hb2, rfl⟩ := hl.bad HC.out (by decide); have hb2' := HB1.out.trans (hb2.mono (by have := HB1.out.size; simp at this; omega)); have HB2 := Lib.hid hb2'; have HW2 := Lib.hid (HW1.out.trans (hb2.mono HW1.out.size)); have x2 := HG.out _ hb2'; clear hl hb2 hb2')
          | (go_at_call 8; refine (HOU.out _ HW2.out).mono ?_; rintro e w3 hl; obtain ⟨hb3, rfl⟩ := hl.bad HC.out (by decide); have hb3' := HB2.out.trans (hb3.mono (by have := HB2.out.size; simp at this; omega)); have HB3 := Lib.hid hb3'; have HW3 := Lib.hid (HW2.out.trans (hb3.mono HW2.out.size)); have x3 := HG.out _ hb3'; clear hl hb3 hb3')
          | (go_at_call 9; refine (HRI.out _ HW3.out).mono ?_; rintro e w4 ⟨rfl, hb4⟩; have hb4' := HB3.out.trans (hb4.mono (by have := HB3.out.size; simp at this; omega)); have HW4 := Lib.hid (HW3.out.trans (hb4.mono HW3.out.size)); have x4 := HG.out _ hb4'; clear hb4 hb4'))
        go_ret
        exact ⟨rfl, HW4.out⟩
      · have g0 : decide (f < 0) = false := decide_eq_false h0
        have g1 : decide (f ≥ (nF : Int)) = true := decide_eq_true (by omega)
        have g2 : decide ((nF : Int) ≤ f) = true := decide_eq_true (by omega)
        clear h0 hr
        go_enter Tryd.func3, Tryd.ntmps3
        go_wp2_with (first
          | (go_at_call 6; refine HF.out.mono ?_; rintro e w1 ⟨rfl, hb1⟩; rw [HZ0.out] at hb1; have HB1 := Lib.hid hb1; have HW1 := Lib.hid (HB0.out.trans (hb1.mono (by omega))); have x1 := HG.out _ hb1; clear hb1)
          | (go_at_call 7; refine (HIN.out _ HW1.out).mono ?_; rintro e w2 hl; obtain ⟨hb2, rfl⟩ := hl.bad HC.out (by decide); have hb2' := HB1.out.trans (hb2.mono (by have := HB1.out.size; simp at this; omega)); have HB2 := Lib.hid hb2'; have HW2 := Lib.hid (HW1.out.trans (hb2.mono HW1.out.size)); have x2 := HG.out _ hb2'; clear hl hb2 hb2')
          | (go_at_call 8; refine (HOU.out _ HW2.out).mono ?_; rintro e w3 hl; obtain ⟨hb3, rfl⟩ := hl.bad HC.out (by decide); have hb3' := HB2.out.trans (hb3.mono (by have := HB2.out.size; simp at this; omega)); have HB3 := Lib.hid hb3'; have HW3 := Lib.hid (HW2.out.trans (hb3.mono HW2.out.size)); have x3 := HG.out _ hb3'; clear hl hb3 hb3')
          | (go_at_call 9; refine (HRI.out _ HW3.out).mono ?_; rintro e w4 ⟨rfl, hb4⟩; have hb4' := HB3.out.trans (hb4.mono (by have := HB3.out.size; simp at this; omega)); have HW4 := Lib.hid (HW3.out.trans (hb4.mono HW3.out.size)); have x4 := HG.out _ hb4'; clear hb4 hb4'))
        go_ret
        exact ⟨rfl, HW4.out⟩
    · obtain ⟨k, rfl⟩ : ∃ k : Nat, f = (k : Int) := ⟨f.toNat, by omega⟩
      have hkF : k < nF := by omega
      obtain ⟨b, off, r, hfe, hb, HX, HRG, HWG, x0, x1, x2, x3, x4, x5, x6, x7⟩ := H.out.gr hkF
      have HXG : Hid ((grs rs)[k]? = some r.gr) := Lib.hid (by unfold grs; rw [List.getElem?_map, HX.out]; rfl)
      have hmem : r.gr ∈ grs rs := List.mem_of_getElem? HXG.out
      have hsz := valid_sizes hv hmem
      have hnin := valid_next hv hmem
      rw [← HRG.out.nd] at hnin
      have HSZ := Lib.hid hsz
      have HND := Lib.hid HRG.out.nd
      have HRF : Hid (∀ W, Below w.heap.size w W → Calls Tryd.prog 11 #[.agg #[.slice r.po r.gr.params.length r.pc, .slice r.ko r.gr.kinds.length r.kc, .int .i64 r.gr.cells, .slice r.io r.gr.init.length r.ic, .bool r.gr.result, .int .i64 r.gr.keep, .slice r.no r.gr.nodes.length r.nc, .int .i64 r.gr.entry]] W (LlPost (liveL (nds r.ns) r.gr.kinds.length) r.gr.nodes.length W)) := Lib.hid fun W hbw => refIn_any w.heap.size r.po r.ko r.io r.no r.gr.params.length r.pc r.gr.kinds.length r.kc r.gr.init.length r.ic r.gr.nodes.length r.nc r.gr.cells r.gr.keep r.gr.entry r.gr.result r.ns W (HRG.out.nodes.below hbw) hbw.size hsz.2 hsz.1 hnin
      have HRO : Hid (∀ W, Below w.heap.size w W → Calls Tryd.prog 12 #[.agg #[.slice r.po r.gr.params.length r.pc, .slice r.ko r.gr.kinds.length r.kc, .int .i64 r.gr.cells, .slice r.io r.gr.init.length r.ic, .bool r.gr.result, .int .i64 r.gr.keep, .slice r.no r.gr.nodes.length r.nc, .int .i64 r.gr.entry]] W (LlPost (liveOL (nds r.ns) r.gr.kinds.length) r.gr.nodes.length W)) := Lib.hid fun W hbw => refOut_any w.heap.size r.po r.ko r.io r.no r.gr.params.length r.pc r.gr.kinds.length r.kc r.gr.init.length r.ic r.gr.nodes.length r.nc r.gr.cells r.gr.keep r.gr.entry r.gr.result r.ns W (HRG.out.nodes.below hbw) hbw.size hsz.2 hsz.1 hnin
      rw [HND.out] at HRF HRO
      have HV := Lib.hid hv
      have HLL : Hid (∀ i, (liveL r.gr.nodes r.gr.kinds.length i).length ≤ 4096) := Lib.hid fun i => by have := liveL_le r.gr.nodes r.gr.kinds.length i; omega
      have HLO : Hid (∀ i, (liveOL r.gr.nodes r.gr.kinds.length i).length ≤ 4096) := Lib.hid fun i => by
        have h1 := trueL_len (liveOB r.gr.nodes i) r.gr.kinds.length
        rw [liveOB_list] at h1
        omega
      have g0 : decide ((k : Int) < 0) = false := decide_eq_false (by omega)
      have g1 : decide ((k : Int) ≥ (nF : Int)) = false := decide_eq_false (by omega)
      have g2 : decide ((nF : Int) ≤ (k : Int)) = false := decide_eq_false (by omega)
      have HCE : Hid (∀ W, Below w.heap.size w W → W.cell? ⟨b, off + k * 8, none⟩ = some (.slice r.po r.gr.params.length r.pc) ∧ W.cell? ⟨b, off + k * 8 + 1, none⟩ = some (.slice r.ko r.gr.kinds.length r.kc) ∧ W.cell? ⟨b, off + k * 8 + 2, none⟩ = some (.int .i64 r.gr.cells) ∧ W.cell? ⟨b, off + k * 8 + 3, none⟩ = some (.slice r.io r.gr.init.length r.ic) ∧ W.cell? ⟨b, off + k * 8 + 4, none⟩ = some (.bool r.gr.result) ∧ W.cell? ⟨b, off + k * 8 + 5, none⟩ = some (.int .i64 r.gr.keep) ∧ W.cell? ⟨b, off + k * 8 + 6, none⟩ = some (.slice r.no r.gr.nodes.length r.nc) ∧ W.cell? ⟨b, off + k * 8 + 7, none⟩ = some (.int .i64 r.gr.entry)) := Lib.hid fun W hbw => ⟨(hbw.cell (p := ⟨b, _, none⟩) hb).trans x0, (hbw.cell (p := ⟨b, _, none⟩) hb).trans x1, (hbw.cell (p := ⟨b, _, none⟩) hb).trans x2, (hbw.cell (p := ⟨b, _, none⟩) hb).trans x3, (hbw.cell (p := ⟨b, _, none⟩) hb).trans x4, (hbw.cell (p := ⟨b, _, none⟩) hb).trans x5, (hbw.cell (p := ⟨b, _, none⟩) hb).trans x6, (hbw.cell (p := ⟨b, _, none⟩) hb).trans x7⟩
      rw [hfe] at HG0 HF HB0 HIN HOU HRI HG HZ0 H ⊢
      clear hfe x0 x1 x2 x3 x4 x5 x6 x7 hsz hnin hr hv hmem
      go_enter Tryd.func3, Tryd.ntmps3
      go_wp2_with (first
        | (go_at_call 6; refine HF.out.mono ?_; rintro e w1 ⟨rfl, hb1⟩; rw [HZ0.out] at hb1; have HB1 := Lib.hid hb1; have HW1 := Lib.hid (HB0.out.trans (hb1.mono (by omega))); have x1 := HG.out _ hb1; clear hb1)
        | (go_at_call 7; refine (HIN.out _ HW1.out).mono ?_; rintro e w2 hl; obtain ⟨hb2, O2, vs2, rfl, hO2, hr2⟩ := hl.ok HV.out HXG.out; have hb2' := HB1.out.trans (hb2.mono (by have := HB1.out.size; simp at this; omega)); have HB2 := Lib.hid hb2'; have HW2 := Lib.hid (HW1.out.trans (hb2.mono HW1.out.size)); have HR2 := Lib.hid hr2; have x2 := HG.out _ hb2'; clear hl hb2 hb2' hr2)
        | (go_at_call 8; refine (HOU.out _ HW2.out).mono ?_; rintro e w3 hl; obtain ⟨hb3, O3, vs3, rfl, hO3, hr3⟩ := hl.ok HV.out HXG.out; have hb3' := HB2.out.trans (hb3.mono (by have := HB2.out.size; simp at this; omega)); have HB3 := Lib.hid hb3'; have HW3 := Lib.hid (HW2.out.trans (hb3.mono HW2.out.size)); have HR3 := Lib.hid hr3; have HR2c := Lib.hid (HR2.out.on hb3); have x3 := HG.out _ hb3'; clear hl hb3 hb3' hr3)
        | (go_at_call 9; refine (HRI.out _ HW3.out).mono ?_; rintro e w4 ⟨rfl, hb4⟩; have hb4' := HB3.out.trans (hb4.mono (by have := HB3.out.size; simp at this; omega)); have HB4 := Lib.hid hb4'; have HW4 := Lib.hid (HW3.out.trans (hb4.mono HW3.out.size)); have HR2d := Lib.hid (HR2c.out.on hb4); have HR3d := Lib.hid (HR3.out.on hb4); have x4 := HG.out _ hb4'; obtain ⟨y0, y1, y2, y3, y4, y5, y6, y7⟩ := HCE.out _ HW4.out; clear hb4 hb4')
        | (go_at_call 11; refine (HRF.out _ HW4.out).mono ?_; rintro e w5 ⟨hb5, A5, c5, vs5, rfl, ho5⟩; have HR2e := Lib.hid (HR2d.out.on hb5); have HR3e := Lib.hid (HR3d.out.on hb5); have HO5 := Lib.hid ho5; have HB5 := Lib.hid (HB4.out.trans (hb5.mono (by have := HB4.out.size; simp at this; omega))); have HW5 := Lib.hid (HW4.out.trans (hb5.mono HW4.out.size)); have HSL1 := Lib.hid (sameLists_eq _ O2 _ c5 A5 vs2 vs5 _ _ w5 HR2e.out HO5.out HSZ.out.2 (fun i _ => HLL.out i)); clear hb5 ho5)
        | (go_at_call 10; (with_reducible refine HSL1.out.mono ?_); rintro e w6 ⟨rfl, nq6, hw6⟩; have HB6 : Hid (Below (w.heap.size + 1) (w.alloc (.cells #[.slice (some ⟨b, off, none⟩) nF cF] 24)) w6) := Lib.hid (by rw [hw6]; exact below_drewN HB5.out nq6); have HW6 : Hid (Below w.heap.size w w6) := Lib.hid (by rw [hw6]; exact below_drewN HW5.out nq6); (have HR3f : Hid (RdL w6 _ O3 r.gr.nodes.length vs3 (liveOL r.gr.nodes r.gr.kinds.length)) := Lib.hid (by rw [hw6]; exact ⟨HR3e.out.row, HR3e.out.own⟩)); (have x6 := HG.out _ HB6.out); (obtain ⟨z0, z1, z2, z3, z4, z5, z6, z7⟩ := HCE.out _ HW6.out); (clear hw6))
        | (go_at_call 12; refine (HRO.out _ HW6.out).mono ?_; rintro e w7 ⟨hb7, A7, c7, vs7, rfl, ho7⟩; have HR3g := Lib.hid (HR3f.out.on hb7); have HO7 := Lib.hid ho7; have HW7 := Lib.hid (HW6.out.trans (hb7.mono HW6.out.size)); have HSL2 := Lib.hid (sameLists_eq _ O3 _ c7 A7 vs3 vs7 _ _ w7 HR3g.out HO7.out HSZ.out.2 (fun i _ => HLO.out i)); clear hb7 ho7)
        | (go_at_call 10; (with_reducible refine HSL2.out.mono ?_); rintro e w8 ⟨rfl, nq8, hw8⟩; have HW8 : Hid (Below w.heap.size w w8) := Lib.hid (by rw [hw8]; exact below_drewN HW7.out nq8); clear hw8))
      go_ret
      exact ⟨rfl, HW8.out⟩
  · have HD : Hid (decide (valid (grs rs) false) = false) := Lib.hid (decide_eq_false hv)
    rw [HD.out] at HRI
    have HC : Hid (chkL (grs rs) f = 70) := Lib.hid (by
      unfold chkL
      rw [if_neg hv])
    clear hv
    go_enter Tryd.func3, Tryd.ntmps3
    go_wp2_with (first
      | (go_at_call 6; refine HF.out.mono ?_; rintro e w1 ⟨rfl, hb1⟩; rw [HZ0.out] at hb1; have HB1 := Lib.hid hb1; have HW1 := Lib.hid (HB0.out.trans (hb1.mono (by omega))); have x1 := HG.out _ hb1; clear hb1)
      | (go_at_call 7; refine (HIN.out _ HW1.out).mono ?_; rintro e w2 hl; obtain ⟨hb2, rfl⟩ := hl.bad HC.out (by decide); have hb2' := HB1.out.trans (hb2.mono (by have := HB1.out.size; simp at this; omega)); have HB2 := Lib.hid hb2'; have HW2 := Lib.hid (HW1.out.trans (hb2.mono HW1.out.size)); have x2 := HG.out _ hb2'; clear hl hb2 hb2')
      | (go_at_call 8; refine (HOU.out _ HW2.out).mono ?_; rintro e w3 hl; obtain ⟨hb3, rfl⟩ := hl.bad HC.out (by decide); have hb3' := HB2.out.trans (hb3.mono (by have := HB2.out.size; simp at this; omega)); have HB3 := Lib.hid hb3'; have HW3 := Lib.hid (HW2.out.trans (hb3.mono HW2.out.size)); have x3 := HG.out _ hb3'; clear hl hb3 hb3')
      | (go_at_call 9; refine (HRI.out _ HW3.out).mono ?_; rintro e w4 ⟨rfl, hb4⟩; have HW4 := Lib.hid (HW3.out.trans (hb4.mono HW3.out.size)); clear hb4))
    go_ret
    exact ⟨rfl, HW4.out⟩
end Go.Proofs.YtmfdaeicbaibeaaDoor
