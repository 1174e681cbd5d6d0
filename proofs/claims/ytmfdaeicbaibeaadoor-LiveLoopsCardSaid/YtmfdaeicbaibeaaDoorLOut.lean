/-
  Package live: Out.
-/
import Derived.Test.YtmfdaeicbaibeaaDoorLAft
namespace Go.Proofs.YtmfdaeicbaibeaaDoor
set_option linter.unusedVariables false
set_option linter.unusedSimpArgs false
open Go.ChangeShapes Go.WideShapes Go.ChangeAt Go.RowKit

set_option maxRecDepth 100000 in
set_option maxHeartbeats 3200000 in
theorem out_live (B : Nat) (fo : Option Addr) (nF cF : Nat) (rs : List RG) (f : Int) (w : World) (h : RdP w B fo nF rs) (hB : B ≤ w.heap.size) (hT : TzTab w) :
    Calls Tryd.prog 8 #[.agg #[.slice fo nF cF], .int .i64 f] w (LvPost liveOL (grs rs) f w) := by
  have HBL : Hid (Below w.heap.size w (w.alloc (.cells #[.slice fo nF cF] 24))) := (Below.refl _ _).alloc (Nat.le_refl _) _
  have HG := Lib.hid (Blk.new w 24 #[.slice fo nF cF])
  have HV := Lib.hid (lcheck_any B fo nF cF rs f (w.alloc (.cells #[.slice fo nF cF] 24)) (h.below (HBL.out.mono hB)) (by simp; omega))
  have H := Lib.hid h
  have HT := Lib.hid hT
  clear h hT
  obtain ⟨z, hz⟩ : ∃ z, z = chkL (grs rs) f := ⟨_, rfl⟩
  rw [← hz] at HV
  have HZ := Lib.hid hz
  clear hz
  by_cases h0 : z = 0
  · subst h0
    obtain ⟨hv, k, rfl, hk⟩ := chk_zero HZ.out.symm
    have hkF : k < nF := by rw [length_grs, H.out.len] at hk; exact hk
    obtain ⟨b, off, r, rfl, hb, HX, HRG, HWG, x0, x1, x2, x3, x4, x5, x6, x7⟩ := H.out.gr hkF
    have HXG : Hid ((grs rs)[k]? = some r.gr) := Lib.hid (by unfold grs; rw [List.getElem?_map, HX.out]; rfl)
    have hmem : r.gr ∈ grs rs := List.mem_of_getElem? HXG.out
    have hsz := valid_sizes hv hmem
    have hrin := valid_reads hv hmem
    have hnin := valid_next hv hmem
    rw [← HRG.out.nd] at hrin hnin
    have HSZ := Lib.hid hsz
    have HAT : Hid (∀ W, Below w.heap.size w W → Calls Tryd.prog 21 #[.agg #[.slice r.po r.gr.params.length r.pc, .slice r.ko r.gr.kinds.length r.kc, .int .i64 r.gr.cells, .slice r.io r.gr.init.length r.ic, .bool r.gr.result, .int .i64 r.gr.keep, .slice r.no r.gr.nodes.length r.nc, .int .i64 r.gr.entry]] W fun e w' =>
      ∃ R wss, e = .returned (.slice (some ⟨R, 0, none⟩) r.gr.nodes.length r.gr.nodes.length) ∧ SetsI w' R r.gr.nodes.length ((r.gr.kinds.length + 63) / 64) r.gr.kinds.length wss ∧ (∀ i, i < r.gr.nodes.length → ∀ p : Nat, hasS wss i p = true ↔ LiveO (nds r.ns) p i) ∧ Below W.heap.size W w' ∧ W.heap.size < R) := Lib.hid fun W hbw =>
        liveAfter_any B r.po r.ko r.io r.no r.gr.params.length r.pc r.gr.kinds.length r.kc r.gr.init.length r.ic r.gr.nodes.length r.nc ((r.gr.kinds.length + 63) / 64) r.gr.cells r.gr.keep r.gr.entry r.gr.result r.ns W (HRG.out.nodes.below (hbw.mono hB)) (by have := hbw.size; omega) hsz.2 hsz.1 rfl hnin hrin
    clear hsz hrin hnin hv hk
    go_enter Tryd.func8, Tryd.ntmps8
    go_wp2_with (first
      | (go_at_call 18; refine HV.out.mono ?_; rintro e w2 ⟨rfl, hb2⟩; have HB2 := Lib.hid (HBL.out.trans (hb2.mono HBL.out.size)); have g6 : w2.cell? ⟨w.heap.size, 0, none⟩ = some (.slice (some ⟨b, off, none⟩) nF cF) := (HG.out.below hb2 HG.out.lt).cell 0; have bc := HB2.out; have y0 := (bc.cell (p := ⟨b, off + k * 8, none⟩) (by show b < _; omega)).trans x0; have y1 := (bc.cell (p := ⟨b, off + k * 8 + 1, none⟩) (by show b < _; omega)).trans x1; have y2 := (bc.cell (p := ⟨b, off + k * 8 + 2, none⟩) (by show b < _; omega)).trans x2; have y3 := (bc.cell (p := ⟨b, off + k * 8 + 3, none⟩) (by show b < _; omega)).trans x3; have y4 := (bc.cell (p := ⟨b, off + k * 8 + 4, none⟩) (by show b < _; omega)).trans x4; have y5 := (bc.cell (p := ⟨b, off + k * 8 + 5, none⟩) (by show b < _; omega)).trans x5; have y6 := (bc.cell (p := ⟨b, off + k * 8 + 6, none⟩) (by show b < _; omega)).trans x6; have y7 := (bc.cell (p := ⟨b, off + k * 8 + 7, none⟩) (by show b < _; omega)).trans x7; clear hb2 bc)
      | (go_at_call 21; refine (HAT.out _ HB2.out).mono ?_; rintro e w3 ⟨R, wss, rfl, hs3, hl3, hb3, _⟩; have HS3 := Lib.hid hs3; have HL3 := Lib.hid hl3; have HB3 := Lib.hid (HB2.out.trans (hb3.mono HB2.out.size)); clear hs3 hl3 hb3)
      | (go_at_call 19; refine (lists_any R _ _ _ wss w3 HS3.out HSZ.out.2 (HT.out.below HB3.out)).mono ?_; rintro e w4 ⟨vs, rfl, hr4, hb4⟩; have HR4 := Lib.hid hr4; have HB4 := Lib.hid (HB3.out.trans (hb4.mono HB3.out.size)); clear hr4 hb4))
    go_ret2
    refine ⟨HB4.out, some ⟨w3.heap.size, 0, none⟩, r.gr.nodes.length, r.gr.nodes.length, by rw [← HZ.out]; rfl, fun h => absurd HZ.out.symm h, fun _ => ⟨w3.heap.size, vs, r.gr, HXG.out, rfl, rfl, rfl, HB3.out.size, HR4.out.row, fun i hi => ?_⟩⟩
    have e1 := liveOL_of HS3.out.wf rfl (fun p => HL3.out i hi p)
    rw [HRG.out.nd] at e1
    rw [← e1]
    exact own_more (HR4.out.own i hi) HB3.out.size
  · have g1 : (z != 0) = true := by simpa using h0
    have H0 := Lib.hid h0
    clear h0
    go_enter Tryd.func8, Tryd.ntmps8
    go_wp2_with (first
      | (go_at_call 18; refine HV.out.mono ?_; rintro e w2 ⟨rfl, hb2⟩; have HB2 := Lib.hid (HBL.out.trans (hb2.mono HBL.out.size)); clear hb2))
    go_ret2
    exact ⟨HB2.out, none, 0, 0, by rw [← HZ.out]; rfl, fun _ => ⟨rfl, rfl, rfl⟩, fun h => absurd (HZ.out.trans h) H0.out⟩
end Go.Proofs.YtmfdaeicbaibeaaDoor
