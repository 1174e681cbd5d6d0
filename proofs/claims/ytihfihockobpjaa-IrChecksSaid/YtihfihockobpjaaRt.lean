/-
  The document's Right: which programs of graphs are right.
-/
import Derived.Test.YtihfihockobpjaaRx
namespace Go.Proofs.Ytihfihockobpjaa
set_option linter.unusedVariables false
set_option linter.unusedSimpArgs false
open Go.ChangeShapes Go.WideShapes Go.ChangeAt Go.RowKit

set_option maxRecDepth 100000 in
set_option maxHeartbeats 12800000 in
theorem rright_any (B : Nat) (fo : Option Addr) (nF cF : Nat) (rs : List RG) (bd : Bool) (w : World) (h : RdP w B fo nF rs) (hB : B ≤ w.heap.size) :
    Calls Try.prog 10 #[.agg #[.slice fo nF cF], .bool bd] w fun e w' => e = .returned (.bool (decide (valid (grs rs) bd))) ∧ Below w.heap.size w w' := by
  have HBL : Hid (Below w.heap.size w (w.alloc (.cells #[.slice fo nF cF] 24))) := (Below.refl _ _).alloc (Nat.le_refl _) _
  have HBX : Hid (Blk (w.alloc (.cells #[.slice fo nF cF] 24)) w.heap.size 24 #[.slice fo nF cF]) := Blk.new w _ _
  have hB1 : B ≤ (w.alloc (.cells #[.slice fo nF cF] 24)).heap.size := by simp; omega
  have HF := Lib.hid (h.below (HBL.out.mono hB))
  have HGL : Hid ((grs rs).length = nF) := Lib.hid (by rw [length_grs, h.len])
  obtain ⟨W1, hW1⟩ : ∃ W, W = (w.alloc (.cells #[.slice fo nF cF] 24)) := ⟨_, rfl⟩
  have HW1 := Lib.hid hW1
  have HZ1 : Hid (w.heap.size ≤ W1.heap.size) := Lib.hid (by rw [hW1]; simp)
  rw [← hW1] at HBL HBX hB1 HF
  have d0 : W1.cell? ⟨w.heap.size, 0, none⟩ = some (.slice fo nF cF) := HBX.out.cell 0
  clear h hW1
  by_cases c1 : nF < 1
  · have HD : Hid (decide (valid (grs rs) bd) = false) := Lib.hid (by rw [decide_eq_false_iff_not]; rintro ⟨⟨h, _⟩, _⟩; rw [HGL.out] at h; omega)
    have g : decide ((nF : Int) < 1) = true := by simp; omega
    go_enter Try.func10, Try.ntmps10
    go_wp2
    go_ret
    exact ⟨by rw [HD.out]; rfl, by rw [← HW1.out]; exact HBL.out⟩
  have g : decide ((nF : Int) < 1) = false := by simp; omega
  by_cases c2 : 16 < nF
  · have HD : Hid (decide (valid (grs rs) bd) = false) := Lib.hid (by rw [decide_eq_false_iff_not]; rintro ⟨⟨_, h⟩, _⟩; rw [HGL.out] at h; omega)
    have g2 : decide ((nF : Int) > 16) = true := by simp; omega
    go_enter Try.func10, Try.ntmps10
    go_wp2
    go_ret
    exact ⟨by rw [HD.out]; rfl, by rw [← HW1.out]; exact HBL.out⟩
  have g2 : decide ((nF : Int) > 16) = false := by simp; omega
  have hj : 0 < nF := by omega
  obtain ⟨b0, off0, r0, hfo, hb0, HX0, HRG0, HWG0, y0, _, _, _, y4, _, _, _⟩ := HF.out.gr hj
  simp only [Nat.zero_mul, Nat.add_zero] at y0 y4
  have HG0 : Hid (grAt (grs rs) 0 = r0.gr) := Lib.hid (grAt_of HX0.out)
  subst hfo
  have hbr0 : b0 < W1.heap.size := by omega
  obtain ⟨p0, hp0⟩ : ∃ x, x = r0.gr.params.length := ⟨_, rfl⟩
  obtain ⟨q0, hq0⟩ : ∃ x, x = r0.gr.result := ⟨_, rfl⟩
  rw [← hp0] at y0
  rw [← hq0] at y4
  have HP0 := Lib.hid hp0
  have HQ0 := Lib.hid hq0
  clear hp0 hq0
  by_cases c3 : p0 = 0
  rotate_left
  · have HD : Hid (decide (valid (grs rs) bd) = false) := Lib.hid (by rw [decide_eq_false_iff_not]; rintro ⟨_, ⟨h, _⟩, _⟩; rw [HG0.out, ← HP0.out] at h; exact c3 h)
    have g3 : ((p0 : Int) != 0) = true := by rw [bne_iff_ne]; omega
    have g3' : (p0 != 0) = true := by rw [bne_iff_ne]; omega
    clear c3
    rw [HW1.out] at y0 y4
    go_enter Try.func10, Try.ntmps10
    go_wp2
    go_ret
    exact ⟨by rw [HD.out]; rfl, by rw [← HW1.out]; exact HBL.out⟩
  have g3 : ((p0 : Int) != 0) = false := by simp; omega
  have g3' : (p0 != 0) = false := by simp; omega
  cases q0
  rotate_left
  · have HD : Hid (decide (valid (grs rs) bd) = false) := Lib.hid (by rw [decide_eq_false_iff_not]; rintro ⟨_, ⟨_, h⟩, _⟩; rw [HG0.out, ← HQ0.out] at h; cases h)
    clear c3
    rw [HW1.out] at y0 y4
    go_enter Try.func10, Try.ntmps10
    go_wp2
    go_ret
    exact ⟨by rw [HD.out]; rfl, by rw [← HW1.out]; exact HBL.out⟩
  have HV : Hid (valid (grs rs) bd ↔ (∀ g ∈ grs rs, headHolds g bd) ∧ ∀ g ∈ grs rs, ∀ n ∈ g.nodes, nodeHolds (grs rs) g bd n) := Lib.hid (by
    unfold valid
    rw [HG0.out, ← HP0.out, ← HQ0.out, HGL.out]
    exact ⟨fun h => h.2.2, fun h => ⟨⟨by omega, by omega⟩, ⟨c3, rfl⟩, h⟩⟩)
  obtain ⟨fo, hfo⟩ : ∃ x, x = (some ⟨b0, off0, none⟩ : Option Addr) := ⟨_, rfl⟩
  have HFO := Lib.hid hfo
  have hn16 : nF ≤ 16 := by omega
  clear c1 c2
  clear d0
  rw [HW1.out] at y0 y4
  go_enter Try.func10, Try.ntmps10
  go_wp2
  rw [← HW1.out]
  clear y0 y4
  go_loopw [40] (fun i wr => ∃ k : Nat, k ≤ nF ∧ i = .int .i64 k ∧ Hid (∀ g ∈ (grs rs).take k, headHolds g bd) ∧ Hid (Below W1.heap.size W1 wr)) (fun i _ => nF - (intOf i).toNat)
  case atStart => exact ⟨0, Nat.zero_le _, rfl, Lib.hid (by simp), Lib.hid (Below.refl _ _)⟩
  case round =>
    obtain ⟨k, hk, rfl, HA, HW⟩ := hrel
    have hz := HW.out.size
    have d0 : wr.cell? ⟨w.heap.size, 0, none⟩ = some (.slice (some ⟨b0, off0, none⟩) nF cF) := (HBX.out.below HW.out HBX.out.lt).cell 0
    have HBW := Lib.hid (HBL.out.trans (HW.out.mono HZ1.out))
    by_cases hlt : k < nF
    · obtain ⟨b, off, r, hfe, hb, HX, HRG, HWG, x0, x1, x2, x3, x4, x5, x6, x7⟩ := (HF.out.below (HW.out.mono hB1)).gr hlt
      obtain ⟨rfl, rfl⟩ : b0 = b ∧ off0 = off := by injection hfe with hfe; injection hfe with h1 h2; exact ⟨h1, h2⟩
      clear hfe
      have hbr : b0 < wr.heap.size := by omega
      have HBA : Hid (Below wr.heap.size wr (wr.alloc (.cells #[.slice r.po r.gr.params.length r.pc, .slice r.ko r.gr.kinds.length r.kc, .int .i64 r.gr.cells, .slice r.io r.gr.init.length r.ic, .bool r.gr.result, .int .i64 r.gr.keep, .slice r.no r.gr.nodes.length r.nc, .int .i64 r.gr.entry] 45))) := (Below.refl _ _).alloc (Nat.le_refl _) _
      have HRA := Lib.hid (HRG.out.below (HBA.out.mono (by omega)))
      have hBa : B ≤ (wr.alloc (.cells #[.slice r.po r.gr.params.length r.pc, .slice r.ko r.gr.kinds.length r.kc, .int .i64 r.gr.cells, .slice r.io r.gr.init.length r.ic, .bool r.gr.result, .int .i64 r.gr.keep, .slice r.no r.gr.nodes.length r.nc, .int .i64 r.gr.entry] 45)).heap.size := by simp; omega
      have HMM : Hid (r.gr ∈ grs rs) := Lib.hid (List.mem_map_of_mem (List.mem_of_getElem? HX.out))
      have HXG : Hid ((grs rs)[k]? = some r.gr) := Lib.hid (by unfold grs; rw [List.getElem?_map, HX.out]; rfl)
      by_cases c4 : headHolds r.gr bd
      · have H1 : Hid (decide (headHolds r.gr bd) = true) := Lib.hid (decide_eq_true c4)
        have HA2 := Lib.hid (all_take (Q := fun g => headHolds g bd) HXG.out c4 HA.out)
        clear c4
        go_wp2_with (first | (go_at_call 22; refine (rhead_any B r bd _ HRA.out HWG.out hBa).mono ?_; rintro e w2 ⟨rfl, hb2⟩; have HB2 := Lib.hid (HBA.out.trans (hb2.mono HBA.out.size)); clear hb2; rw [H1.out]))
        go_roundw
        case rel => exact ⟨k + 1, by omega, by go_num, HA2, Lib.hid (HW.out.trans (HB2.out.mono hz))⟩
        case measure => simp [intOf]; omega
      · have H1 : Hid (decide (headHolds r.gr bd) = false) := Lib.hid (decide_eq_false c4)
        have HD : Hid (decide (valid (grs rs) bd) = false) := Lib.hid (by rw [decide_eq_false_iff_not, HV.out]; rintro ⟨h, _⟩; exact c4 (h _ HMM.out))
        clear c4
        go_wp2_with (first | (go_at_call 22; refine (rhead_any B r bd _ HRA.out HWG.out hBa).mono ?_; rintro e w2 ⟨rfl, hb2⟩; have HB2 := Lib.hid (HBA.out.trans (hb2.mono HBA.out.size)); clear hb2; rw [H1.out]))
        go_ret
        exact ⟨by rw [HD.out]; rfl, HBW.out.trans (HB2.out.mono HBW.out.size)⟩
    · obtain rfl : nF = k := by omega
      have HHA : Hid (∀ g ∈ grs rs, headHolds g bd) := Lib.hid (by have := HA.out; rwa [List.take_of_length_le (by rw [HGL.out]; omega)] at this)
      clear hlt hk
      go_wp2
      obtain ⟨wo, rfl⟩ : ∃ wo, wo = wr := ⟨_, rfl⟩
      clear d0
      go_loopw [52] (fun i wr => ∃ k : Nat, k ≤ nF ∧ i = .int .i64 k ∧ Hid (∀ g ∈ (grs rs).take k, ∀ n ∈ g.nodes, nodeHolds (grs rs) g bd n) ∧ Hid (Below W1.heap.size W1 wr)) (fun i _ => nF - (intOf i).toNat)
      case atStart => exact ⟨0, Nat.zero_le _, rfl, Lib.hid (by simp), HW⟩
      case round =>
        clear HW HBW hz
        obtain ⟨k, hk, rfl, HA, HW⟩ := hrel
        have hz := HW.out.size
        have d0 : wr.cell? ⟨w.heap.size, 0, none⟩ = some (.slice (some ⟨b0, off0, none⟩) nF cF) := (HBX.out.below HW.out HBX.out.lt).cell 0
        have HBW := Lib.hid (HBL.out.trans (HW.out.mono HZ1.out))
        by_cases hlt : k < nF
        · obtain ⟨b, off, r, hfe, hb, HX, HRG, HWG, x0, x1, x2, x3, x4, x5, x6, x7⟩ := (HF.out.below (HW.out.mono hB1)).gr hlt
          obtain ⟨rfl, rfl⟩ : b0 = b ∧ off0 = off := by injection hfe with hfe; injection hfe with h1 h2; exact ⟨h1, h2⟩
          clear hfe
          have hbr : b0 < wr.heap.size := by omega
          have hb8 : Below wr.heap.size wr (wr.alloc (.cells #[.slice r.po r.gr.params.length r.pc, .slice r.ko r.gr.kinds.length r.kc, .int .i64 r.gr.cells, .slice r.io r.gr.init.length r.ic, .bool r.gr.result, .int .i64 r.gr.keep, .slice r.no r.gr.nodes.length r.nc, .int .i64 r.gr.entry] 45)) := (Below.refl _ _).alloc (Nat.le_refl _) _
          have hg8 : Blk (wr.alloc (.cells #[.slice r.po r.gr.params.length r.pc, .slice r.ko r.gr.kinds.length r.kc, .int .i64 r.gr.cells, .slice r.io r.gr.init.length r.ic, .bool r.gr.result, .int .i64 r.gr.keep, .slice r.no r.gr.nodes.length r.nc, .int .i64 r.gr.entry] 45)) wr.heap.size 45 #[.slice r.po r.gr.params.length r.pc, .slice r.ko r.gr.kinds.length r.kc, .int .i64 r.gr.cells, .slice r.io r.gr.init.length r.ic, .bool r.gr.result, .int .i64 r.gr.keep, .slice r.no r.gr.nodes.length r.nc, .int .i64 r.gr.entry] := Blk.new wr _ _
          have HMM : Hid (r.gr ∈ grs rs) := Lib.hid (List.mem_map_of_mem (List.mem_of_getElem? HX.out))
          have HXG : Hid ((grs rs)[k]? = some r.gr) := Lib.hid (by unfold grs; rw [List.getElem?_map, HX.out]; rfl)
          have hwn := HWG.out.nl
          have HK1 : Hid (∀ k ∈ r.gr.kinds, k = 0 ∨ k = 1) := Lib.hid (HHA.out _ HMM.out).1.2.2
          obtain ⟨nN, hnN⟩ : ∃ x, x = r.gr.nodes.length := ⟨_, rfl⟩
          have HNN := Lib.hid hnN
          rw [← hnN] at hwn
          go_wp2
          obtain ⟨p8, HP8⟩ : ∃ x, Hid (x = wr.heap.size) := ⟨_, Lib.hid rfl⟩
          obtain ⟨W8, hW8⟩ : ∃ W, W = (wr.alloc (.cells #[.slice r.po r.gr.params.length r.pc, .slice r.ko r.gr.kinds.length r.kc, .int .i64 r.gr.cells, .slice r.io r.gr.init.length r.ic, .bool r.gr.result, .int .i64 r.gr.keep, .slice r.no r.gr.nodes.length r.nc, .int .i64 r.gr.entry] 45)) := ⟨_, rfl⟩
          rw [← hW8] at hb8 hg8 ⊢
          rw [← HP8.out] at hg8 ⊢
          rw [← hnN]
          have HW8 := Lib.hid (HW.out.trans (hb8.mono hz))
          have HG8 := Lib.hid hg8
          have HRG8 := Lib.hid (HRG.out.below (hb8.mono (by omega)))
          have hB8 : B ≤ W8.heap.size := Nat.le_trans (by omega) hb8.size
          obtain ⟨wo2, hwo2⟩ : ∃ wo, wo = wr := ⟨_, rfl⟩
          clear hwo2 hW8 hb8 hg8 hnN HP8 x0 x1 x2 x3 x4 x5 x6 x7 d0
          go_loopw [59] (fun i wr => ∃ m : Nat, m ≤ nN ∧ i = .int .i64 m ∧ Hid (∀ n ∈ r.gr.nodes.take m, nodeHolds (grs rs) r.gr bd n) ∧ Hid (Below W8.heap.size W8 wr)) (fun i _ => nN - (intOf i).toNat)
          case atStart => exact ⟨0, Nat.zero_le _, rfl, Lib.hid (by simp), Lib.hid (Below.refl _ _)⟩
          case round =>
            obtain ⟨m, hm, rfl, HM, HWM⟩ := hrel
            have HWW := Lib.hid (HW8.out.trans (HWM.out.mono HW8.out.size))
            have HGM := Lib.hid (HG8.out.below HWM.out HG8.out.lt)
            have HBW := Lib.hid (HBL.out.trans (HWW.out.mono HZ1.out))
            have d0 : wr.cell? ⟨w.heap.size, 0, none⟩ = some (.slice (some ⟨b0, off0, none⟩) nF cF) := (HBX.out.below HWW.out HBX.out.lt).cell 0
            have v0 : wr.cell? ⟨p8, 0, none⟩ = some (.slice r.po r.gr.params.length r.pc) := HGM.out.cell 0
            have v1 : wr.cell? ⟨p8, 1, none⟩ = some (.slice r.ko r.gr.kinds.length r.kc) := HGM.out.cell 1
            have v2 : wr.cell? ⟨p8, 2, none⟩ = some (.int .i64 r.gr.cells) := HGM.out.cell 2
            have v3 : wr.cell? ⟨p8, 3, none⟩ = some (.slice r.io r.gr.init.length r.ic) := HGM.out.cell 3
            have v4 : wr.cell? ⟨p8, 4, none⟩ = some (.bool r.gr.result) := HGM.out.cell 4
            have v5 : wr.cell? ⟨p8, 5, none⟩ = some (.int .i64 r.gr.keep) := HGM.out.cell 5
            have v6 : wr.cell? ⟨p8, 6, none⟩ = some (.slice r.no r.gr.nodes.length r.nc) := HGM.out.cell 6
            have v7 : wr.cell? ⟨p8, 7, none⟩ = some (.int .i64 r.gr.entry) := HGM.out.cell 7
            have hg8 := HGM.out.lt
            have hbl : w.heap.size < wr.heap.size := Nat.lt_of_lt_of_le HBX.out.lt HWW.out.size
            by_cases hml : m < nN
            · have HRN : Hid (RdNs wr B r.no nN r.ns) := Lib.hid (by rw [HNN.out]; exact (HRG8.out.below (HWM.out.mono hB8)).nodes)
              obtain ⟨bn, on, i, hno, hbn, HXI, HRI, HWI, u0, u1, u2, u3, u4, u5, u6, u7, u8, u9, u10, u11⟩ := HRN.out.nd hml
              have HXN : Hid (r.gr.nodes[m]? = some i.nd) := Lib.hid (by rw [← HRG8.out.nd]; unfold nds; rw [List.getElem?_map, HXI.out]; rfl)
              have hBr : B ≤ wr.heap.size := Nat.le_trans hB8 HWM.out.size
              have hbnr : bn < wr.heap.size := by omega
              have HBA : Hid (Below wr.heap.size wr (wr.alloc (.cells #[.int .u8 i.nd.op, .int .u8 i.nd.bop, .int .i64 i.nd.d, .int .i64 i.nd.e, .int .i64 i.nd.a, .int .i64 i.nd.b, .int .i64 i.nd.f, .int .i64 i.nd.cell, .int .u64 i.nd.imm, .slice i.ao i.nd.args.length i.ac, .int .i64 i.nd.next, .int .i64 i.nd.els] 38))) := (Below.refl _ _).alloc (Nat.le_refl _) _
              have hBa : B ≤ (wr.alloc (.cells #[.int .u8 i.nd.op, .int .u8 i.nd.bop, .int .i64 i.nd.d, .int .i64 i.nd.e, .int .i64 i.nd.a, .int .i64 i.nd.b, .int .i64 i.nd.f, .int .i64 i.nd.cell, .int .u64 i.nd.imm, .slice i.ao i.nd.args.length i.ac, .int .i64 i.nd.next, .int .i64 i.nd.els] 38)).heap.size := by simp; omega
              have HFA := Lib.hid ((HF.out.below (HWW.out.mono hB1)).below (HBA.out.mono hBr))
              have HRA := Lib.hid ((HRG8.out.below (HWM.out.mono hB8)).below (HBA.out.mono hBr))
              have HIA := Lib.hid (HRI.out.below (HBA.out.mono hBr))
              rw [hno]
              have HNO := Lib.hid hno
              clear hno
              by_cases c4 : nodeHolds (grs rs) r.gr bd i.nd
              · have H1 : Hid (decide (nodeHolds (grs rs) r.gr bd i.nd) = true) := Lib.hid (decide_eq_true c4)
                have HM2 := Lib.hid (all_take (Q := fun n => nodeHolds (grs rs) r.gr bd n) HXN.out c4 HM.out)
                clear c4
                go_wp2_with (first | (go_at_call 23; refine (rnode_any B rs r i (some ⟨b0, off0, none⟩) nF cF bd _ HFA.out HRA.out HWG.out HIA.out HWI.out hBa HK1.out HHA.out).mono ?_; rintro e w4 ⟨rfl, hb4⟩; have HB4 := Lib.hid (HBA.out.trans (hb4.mono HBA.out.size)); clear hb4; rw [H1.out]))
                go_roundw
                case rel => exact ⟨m + 1, by omega, by go_num, HM2, Lib.hid (HWM.out.trans (HB4.out.mono HWM.out.size))⟩
                case measure => simp [intOf]; omega
              · have H1 : Hid (decide (nodeHolds (grs rs) r.gr bd i.nd) = false) := Lib.hid (decide_eq_false c4)
                have HD : Hid (decide (valid (grs rs) bd) = false) := Lib.hid (by rw [decide_eq_false_iff_not, HV.out]; rintro ⟨_, h⟩; exact c4 (h _ HMM.out _ (List.mem_of_getElem? HXN.out)))
                clear c4
                go_wp2_with (first | (go_at_call 23; refine (rnode_any B rs r i (some ⟨b0, off0, none⟩) nF cF bd _ HFA.out HRA.out HWG.out HIA.out HWI.out hBa HK1.out HHA.out).mono ?_; rintro e w4 ⟨rfl, hb4⟩; have HB4 := Lib.hid (HBA.out.trans (hb4.mono HBA.out.size)); clear hb4; rw [H1.out]))
                go_ret
                exact ⟨by rw [HD.out]; rfl, HBW.out.trans (HB4.out.mono HBW.out.size)⟩
            · obtain rfl : nN = m := by omega
              have HA2 := Lib.hid (all_take (Q := fun g => ∀ n ∈ g.nodes, nodeHolds (grs rs) g bd n) HXG.out (by have := HM.out; rwa [List.take_of_length_le (by rw [← HNN.out]; omega)] at this) HA.out)
              clear hml hm
              go_wp2
              go_roundw
              case rel => exact ⟨k + 1, by omega, by go_num, HA2, HWW⟩
              case measure => simp [intOf]; omega
        · obtain rfl : nF = k := by omega
          have HD : Hid (decide (valid (grs rs) bd) = true) := Lib.hid (by
            rw [decide_eq_true_eq, HV.out]
            refine ⟨HHA.out, ?_⟩
            have := HA.out
            rwa [List.take_of_length_le (by rw [HGL.out]; omega)] at this)
          go_wp2
          go_ret
          exact ⟨by rw [HD.out]; rfl, HBW.out⟩
end Go.Proofs.Ytihfihockobpjaa
