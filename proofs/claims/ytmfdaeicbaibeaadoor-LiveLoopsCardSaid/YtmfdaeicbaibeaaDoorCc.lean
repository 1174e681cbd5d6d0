/-
  Package ir: Check.
-/
import Derived.Test.YtmfdaeicbaibeaaDoorCz
namespace Go.Proofs.YtmfdaeicbaibeaaDoor
set_option linter.unusedVariables false
set_option linter.unusedSimpArgs false
open Go.ChangeShapes Go.WideShapes Go.ChangeAt Go.RowKit

theorem all_take {α : Type} {Q : α → Prop} {l : List α} {k : Nat} {x : α} (hx : l[k]? = some x) (hq : Q x) (hb : ∀ y ∈ l.take k, Q y) : ∀ y ∈ l.take (k + 1), Q y := by
  intro y hy
  rw [List.take_add_one, hx] at hy
  rcases List.mem_append.1 hy with hy | hy
  · exact hb y hy
  · simp at hy; subst hy; exact hq
set_option maxRecDepth 100000 in
set_option maxHeartbeats 12800000 in
theorem isValid_any (B : Nat) (fo : Option Addr) (nF cF : Nat) (rs : List RG) (bd : Bool) (w : World) (h : RdP w B fo nF rs) (hB : B ≤ w.heap.size) :
    Calls Tryd.prog 56 #[.slice fo nF cF, .bool bd] w fun e w' => e = .returned (.bool (decide (valid (grs rs) bd))) ∧ Below w.heap.size w w' := by
  have HF := Lib.hid h
  have HGL : Hid ((grs rs).length = nF) := Lib.hid (by rw [length_grs, h.len])
  clear h
  by_cases c1 : nF < 1
  · have HD : Hid (decide (valid (grs rs) bd) = false) := Lib.hid (by rw [decide_eq_false_iff_not]; rintro ⟨⟨h, _⟩, _⟩; rw [HGL.out] at h; omega)
    have g : decide ((nF : Int) < 1) = true := by simp; omega
    go_enter Tryd.func56, Tryd.ntmps56
    go_wp2
    go_ret
    exact ⟨by rw [HD.out]; rfl, Below.refl _ _⟩
  have g : decide ((nF : Int) < 1) = false := by simp; omega
  by_cases c2 : 16 < nF
  · have HD : Hid (decide (valid (grs rs) bd) = false) := Lib.hid (by rw [decide_eq_false_iff_not]; rintro ⟨⟨_, h⟩, _⟩; rw [HGL.out] at h; omega)
    have g2 : decide ((nF : Int) > 16) = true := by simp; omega
    go_enter Tryd.func56, Tryd.ntmps56
    go_wp2
    go_ret
    exact ⟨by rw [HD.out]; rfl, Below.refl _ _⟩
  have g2 : decide ((nF : Int) > 16) = false := by simp; omega
  have hj : 0 < nF := by omega
  obtain ⟨b0, off0, r0, hfo, hb0, HX0, HRG0, HWG0, y0, _, _, _, y4, _, _, _⟩ := HF.out.gr hj
  simp only [Nat.zero_mul, Nat.add_zero] at y0 y4
  have HG0 : Hid (grAt (grs rs) 0 = r0.gr) := Lib.hid (grAt_of HX0.out)
  subst hfo
  have hbr0 : b0 < w.heap.size := by omega
  obtain ⟨p0, hp0⟩ : ∃ x, x = r0.gr.params.length := ⟨_, rfl⟩
  obtain ⟨q0, hq0⟩ : ∃ x, x = r0.gr.result := ⟨_, rfl⟩
  rw [← hp0] at y0
  rw [← hq0] at y4
  have HP0 := Lib.hid hp0
  have HQ0 := Lib.hid hq0
  clear hp0 hq0
  by_cases c3 : p0 = 0
  rotate_left
  · have HD : Hid (decide (valid (grs rs) bd) = false) := Lib.hid (by rw [decide_eq_false_iff_not]; rintro ⟨_, ⟨h, _⟩, _⟩; rw [HG0.out, ← HP0.out] at h; exact c3 h)
    have g3 : decide ((p0 : Int) > 0) = true := by simp; omega
    have g3' : decide (0 < p0) = true := by simp; omega
    clear c3
    go_enter Tryd.func56, Tryd.ntmps56
    go_wp2
    go_ret
    exact ⟨by rw [HD.out]; rfl, Below.refl _ _⟩
  have g3 : decide ((p0 : Int) > 0) = false := by simp; omega
  have g3' : decide (0 < p0) = false := by simp; omega
  cases q0
  rotate_left
  · have HD : Hid (decide (valid (grs rs) bd) = false) := Lib.hid (by rw [decide_eq_false_iff_not]; rintro ⟨_, ⟨_, h⟩, _⟩; rw [HG0.out, ← HQ0.out] at h; cases h)
    clear c3
    go_enter Tryd.func56, Tryd.ntmps56
    go_wp2
    go_ret
    exact ⟨by rw [HD.out]; rfl, Below.refl _ _⟩
  have HV : Hid (valid (grs rs) bd ↔ (∀ g ∈ grs rs, headHolds g bd) ∧ ∀ g ∈ grs rs, ∀ n ∈ g.nodes, nodeHolds (grs rs) g bd n) := Lib.hid (by
    unfold valid
    rw [HG0.out, ← HP0.out, ← HQ0.out, HGL.out]
    exact ⟨fun h => h.2.2, fun h => ⟨⟨by omega, by omega⟩, ⟨c3, rfl⟩, h⟩⟩)
  obtain ⟨fo, hfo⟩ : ∃ x, x = (some ⟨b0, off0, none⟩ : Option Addr) := ⟨_, rfl⟩
  have HFO := Lib.hid hfo
  have hn16 : nF ≤ 16 := by omega
  clear c1 c2
  go_enter Tryd.func56, Tryd.ntmps56
  go_wp2
  clear y0 y4
  go_loopw [32] (fun i wr => ∃ k : Nat, k ≤ nF ∧ i = .int .i64 k ∧ Hid (∀ g ∈ (grs rs).take k, headHolds g bd) ∧ Hid (Below w.heap.size w wr)) (fun i _ => nF - (intOf i).toNat)
  case atStart => exact ⟨0, Nat.zero_le _, rfl, Lib.hid (by simp), Below.refl _ _⟩
  case round =>
    obtain ⟨k, hk, rfl, HA, HW⟩ := hrel
    by_cases hlt : k < nF
    · obtain ⟨b, off, r, hfe, hb, HX, HRG, HWG, x0, x1, x2, x3, x4, x5, x6, x7⟩ := (HF.out.below (HW.out.mono hB)).gr hlt
      obtain ⟨rfl, rfl⟩ : b0 = b ∧ off0 = off := by injection hfe with hfe; injection hfe with h1 h2; exact ⟨h1, h2⟩
      clear hfe
      have hz := HW.out.size
      have hbr : b0 < wr.heap.size := by omega
      have HBA : Hid (Below wr.heap.size wr (wr.alloc (.cells #[.slice r.po r.gr.params.length r.pc, .slice r.ko r.gr.kinds.length r.kc, .int .i64 r.gr.cells, .slice r.io r.gr.init.length r.ic, .bool r.gr.result, .int .i64 r.gr.keep, .slice r.no r.gr.nodes.length r.nc, .int .i64 r.gr.entry] 37))) := (Below.refl _ _).alloc (Nat.le_refl _) _
      have HRA := Lib.hid (HRG.out.below (HBA.out.mono (by omega)))
      have hBa : B ≤ (wr.alloc (.cells #[.slice r.po r.gr.params.length r.pc, .slice r.ko r.gr.kinds.length r.kc, .int .i64 r.gr.cells, .slice r.io r.gr.init.length r.ic, .bool r.gr.result, .int .i64 r.gr.keep, .slice r.no r.gr.nodes.length r.nc, .int .i64 r.gr.entry] 37)).heap.size := by simp; omega
      have HMM : Hid (r.gr ∈ grs rs) := Lib.hid (List.mem_map_of_mem (List.mem_of_getElem? HX.out))
      have HXG : Hid ((grs rs)[k]? = some r.gr) := Lib.hid (by unfold grs; rw [List.getElem?_map, HX.out]; rfl)
      by_cases c4 : headHolds r.gr bd
      · have H1 : Hid (decide (headHolds ⟨r.gr.params, r.gr.kinds, r.gr.cells, r.gr.init, r.gr.result, r.gr.keep, r.gr.nodes, r.gr.entry⟩ bd) = true) := Lib.hid (decide_eq_true c4)
        have HA2 := Lib.hid (all_take (Q := fun g => headHolds g bd) HXG.out c4 HA.out)
        clear c4
        go_wp2_with (first | (go_at_call 68; refine (headHolds_any B r.gr.params r.gr.kinds r.gr.init r.gr.nodes bd _ _ _ _ _ _ _ _ _ _ _ _ _ _ _ _ _ HRA.out.params rfl HRA.out.pcap (by have := HWG.out.pl; omega) HRA.out.kinds rfl (by have := HWG.out.kl; omega) HRA.out.init rfl (by have := HWG.out.il; omega) rfl hBa).mono ?_; rintro e w2 ⟨rfl, hb2⟩; have HB2 := Lib.hid (HBA.out.trans (hb2.mono HBA.out.size)); clear hb2; rw [H1.out]))
        go_roundw
        case rel => exact ⟨k + 1, by omega, by go_num, HA2, HW.out.trans (HB2.out.mono hz)⟩
        case measure => simp [intOf]; omega
      · have H1 : Hid (decide (headHolds ⟨r.gr.params, r.gr.kinds, r.gr.cells, r.gr.init, r.gr.result, r.gr.keep, r.gr.nodes, r.gr.entry⟩ bd) = false) := Lib.hid (decide_eq_false c4)
        have HD : Hid (decide (valid (grs rs) bd) = false) := Lib.hid (by rw [decide_eq_false_iff_not, HV.out]; rintro ⟨h, _⟩; exact c4 (h _ HMM.out))
        clear c4
        go_wp2_with (first | (go_at_call 68; refine (headHolds_any B r.gr.params r.gr.kinds r.gr.init r.gr.nodes bd _ _ _ _ _ _ _ _ _ _ _ _ _ _ _ _ _ HRA.out.params rfl HRA.out.pcap (by have := HWG.out.pl; omega) HRA.out.kinds rfl (by have := HWG.out.kl; omega) HRA.out.init rfl (by have := HWG.out.il; omega) rfl hBa).mono ?_; rintro e w2 ⟨rfl, hb2⟩; have HB2 := Lib.hid (HBA.out.trans (hb2.mono HBA.out.size)); clear hb2; rw [H1.out]))
        go_ret
        exact ⟨by rw [HD.out]; rfl, HW.out.trans (HB2.out.mono hz)⟩
    · obtain rfl : nF = k := by omega
      have HHA : Hid (∀ g ∈ grs rs, headHolds g bd) := Lib.hid (by have := HA.out; rwa [List.take_of_length_le (by rw [HGL.out]; omega)] at this)
      clear hlt hk
      obtain ⟨wo, rfl⟩ : ∃ wo, wo = wr := ⟨_, rfl⟩
      go_wp2
      go_loopw [43] (fun i wr => ∃ k : Nat, k ≤ nF ∧ i = .int .i64 k ∧ Hid (∀ g ∈ (grs rs).take k, ∀ n ∈ g.nodes, nodeHolds (grs rs) g bd n) ∧ Hid (Below w.heap.size w wr)) (fun i _ => nF - (intOf i).toNat)
      case atStart => exact ⟨0, Nat.zero_le _, rfl, Lib.hid (by simp), HW⟩
      case round =>
        clear HW
        obtain ⟨k, hk, rfl, HA, HW⟩ := hrel
        by_cases hlt : k < nF
        · obtain ⟨b, off, r, hfe, hb, HX, HRG, HWG, x0, x1, x2, x3, x4, x5, x6, x7⟩ := (HF.out.below (HW.out.mono hB)).gr hlt
          obtain ⟨rfl, rfl⟩ : b0 = b ∧ off0 = off := by injection hfe with hfe; injection hfe with h1 h2; exact ⟨h1, h2⟩
          clear hfe
          have hz := HW.out.size
          have hbr : b0 < wr.heap.size := by omega
          have HB2 : Hid (Below wr.heap.size wr ((wr.alloc (.cells #[.slice r.po r.gr.params.length r.pc, .slice r.ko r.gr.kinds.length r.kc, .int .i64 r.gr.cells, .slice r.io r.gr.init.length r.ic, .bool r.gr.result, .int .i64 r.gr.keep, .slice r.no r.gr.nodes.length r.nc, .int .i64 r.gr.entry] 37)).alloc (.cells #[.slice (some ⟨b0, off0, none⟩) nF cF, .slice r.po r.gr.params.length r.pc, .slice r.ko r.gr.kinds.length r.kc, .int .i64 r.gr.cells, .slice r.io r.gr.init.length r.ic, .bool r.gr.result, .int .i64 r.gr.keep, .slice r.no r.gr.nodes.length r.nc, .int .i64 r.gr.entry, .bool bd] 120))) := ((Below.refl _ _).alloc (Nat.le_refl _) _).alloc (by simp) _
          have HMM : Hid (r.gr ∈ grs rs) := Lib.hid (List.mem_map_of_mem (List.mem_of_getElem? HX.out))
          have HXG : Hid ((grs rs)[k]? = some r.gr) := Lib.hid (by unfold grs; rw [List.getElem?_map, HX.out]; rfl)
          have hmf : ∀ (fn : Fn) (first cap : Array Value) (w : World), (Instr.makeFunc fn first cap).run Tryd.prog w = .ok (.func fn first cap) w := fun _ _ _ _ => rfl
          have HNN := Lib.hid ((HRG.out.nodes.below (HB2.out.mono (by omega))))
          have HC := Lib.hid (contains_nodes B r.no r.gr.nodes.length r.nc r.ns (.agg #[.slice (some ⟨b0, off0, none⟩) nF cF, .slice r.po r.gr.params.length r.pc, .slice r.ko r.gr.kinds.length r.kc, .int .i64 r.gr.cells, .slice r.io r.gr.init.length r.ic, .bool r.gr.result, .int .i64 r.gr.keep, .slice r.no r.gr.nodes.length r.nc, .int .i64 r.gr.entry, .bool bd]) (fun nd => !decide (nodeHolds (grs rs) r.gr bd nd)) _ HNN.out (by have := HWG.out.nl; omega) (by simp; omega) fun W hW i hi => by
            have hwi := HNN.out.wf i hi
            have hBW : B ≤ W.heap.size := Nat.le_trans (Nat.le_trans hB hz) (Nat.le_trans HB2.out.size hW.size)
            have hbel : Below w.heap.size w W := HW.out.trans ((HB2.out.trans (hW.mono HB2.out.size)).mono hz)
            have hkr := (HRG.out.kinds.below ((HB2.out.trans (hW.mono HB2.out.size)).mono (by omega)))
            have har := ((HNN.out.each i hi).below (hW.mono (by simp; omega))).args
            exact breaks_any B rs r.gr.params r.gr.kinds r.gr.init r.gr.nodes (some ⟨b0, off0, none⟩) nF cF r.po r.ko r.io r.no r.gr.params.length r.pc r.gr.kinds.length r.kc r.gr.init.length r.ic r.gr.nodes.length r.nc r.gr.cells r.gr.keep r.gr.entry r.gr.result bd _ _ _ _ _ _ _ _ _ _ _ _ _ _ _ W (HF.out.below (hbel.mono hB)) hkr rfl har rfl hwi.al hBW (fun hb g hg => by have := HHA.out g hg; rwa [hb] at this) hwi.o0 hwi.o1 rfl)
          by_cases c4 : ∀ n ∈ r.gr.nodes, nodeHolds (grs rs) r.gr bd n
          · have H1 : Hid (((nds r.ns).any fun nd => !decide (nodeHolds (grs rs) r.gr bd nd)) = false) := Lib.hid (by rw [HRG.out.nd, List.any_eq_false]; intro x hx; simpa using c4 x hx)
            have HA2 := Lib.hid (all_take (Q := fun g => ∀ n ∈ g.nodes, nodeHolds (grs rs) g bd n) HXG.out c4 HA.out)
            clear c4
            go_wp2_with (first | (go_at_call 69; refine HC.out.mono ?_; rintro e w4 ⟨rfl, hb4⟩; have HB4 := Lib.hid (HB2.out.trans (hb4.mono HB2.out.size)); clear hb4; rw [H1.out]))
            go_roundw
            case rel => exact ⟨k + 1, by omega, by go_num, HA2, HW.out.trans (HB4.out.mono hz)⟩
            case measure => simp [intOf]; omega
          · have H1 : Hid (((nds r.ns).any fun nd => !decide (nodeHolds (grs rs) r.gr bd nd)) = true) := Lib.hid (by
              rw [HRG.out.nd, List.any_eq_true]
              obtain ⟨x, hx⟩ := Classical.not_forall.1 c4
              obtain ⟨hx1, hx2⟩ := Classical.not_imp.1 hx
              exact ⟨x, hx1, by simpa using hx2⟩)
            have HD : Hid (decide (valid (grs rs) bd) = false) := Lib.hid (by rw [decide_eq_false_iff_not, HV.out]; rintro ⟨_, h⟩; exact c4 (h _ HMM.out))
            clear c4
            go_wp2_with (first | (go_at_call 69; refine HC.out.mono ?_; rintro e w4 ⟨rfl, hb4⟩; have HB4 := Lib.hid (HB2.out.trans (hb4.mono HB2.out.size)); clear hb4; rw [H1.out]))
            go_ret
            exact ⟨by rw [HD.out]; rfl, HW.out.trans (HB4.out.mono hz)⟩
        · obtain rfl : nF = k := by omega
          have HD : Hid (decide (valid (grs rs) bd) = true) := Lib.hid (by
            rw [decide_eq_true_eq, HV.out]
            refine ⟨HHA.out, ?_⟩
            have := HA.out
            rwa [List.take_of_length_le (by rw [HGL.out]; omega)] at this)
          go_wp2
          go_ret
          exact ⟨by rw [HD.out]; rfl, HW.out⟩
theorem check_any (B : Nat) (fo : Option Addr) (nF cF : Nat) (rs : List RG) (bd : Bool) (w : World) (h : RdP w B fo nF rs) (hB : B ≤ w.heap.size) :
    Calls Tryd.prog 38 #[.agg #[.slice fo nF cF], .bool bd] w fun e w' => e = .returned (.int .i64 (if valid (grs rs) bd then 0 else 70)) ∧ Below w.heap.size w w' := by
  have HBL : Hid (Below w.heap.size w (w.alloc (.cells #[.slice fo nF cF] 24))) := (Below.refl _ _).alloc (Nat.le_refl _) _
  have HV := Lib.hid (isValid_any B fo nF cF rs bd (w.alloc (.cells #[.slice fo nF cF] 24)) (h.below (HBL.out.mono hB)) (by simp; omega))
  clear h
  by_cases hv : valid (grs rs) bd
  · have H1 : Hid (decide (valid (grs rs) bd) = true) := Lib.hid (decide_eq_true hv)
    rw [if_pos hv]
    clear hv
    go_enter Tryd.func38, Tryd.ntmps38
    go_wp2_with (first | (go_at_call 56; refine HV.out.mono ?_; rintro e w2 ⟨rfl, hb2⟩; have HB2 := Lib.hid hb2; clear hb2; rw [H1.out]))
    go_ret
    exact ⟨rfl, HBL.out.trans (HB2.out.mono (by simp))⟩
  · have H1 : Hid (decide (valid (grs rs) bd) = false) := Lib.hid (decide_eq_false hv)
    rw [if_neg hv]
    clear hv
    go_enter Tryd.func38, Tryd.ntmps38
    go_wp2_with (first | (go_at_call 56; refine HV.out.mono ?_; rintro e w2 ⟨rfl, hb2⟩; have HB2 := Lib.hid hb2; clear hb2; rw [H1.out]))
    go_ret
    exact ⟨rfl, HBL.out.trans (HB2.out.mono (by simp))⟩
end Go.Proofs.YtmfdaeicbaibeaaDoor
