/-
  Programs of graphs compared: slices.EqualFunc, package ir's Same.
-/
import Derived.Test.YtihfihockobpjaaSg
namespace Go.Proofs.Ytihfihockobpjaa
set_option linter.unusedVariables false
set_option linter.unusedSimpArgs false
open Go.ChangeShapes Go.WideShapes Go.ChangeAt Go.RowKit

set_option maxRecDepth 100000 in
set_option maxHeartbeats 6400000 in
theorem eqg_any (B : Nat) (ao bo : Option Addr) (n m c d : Nat) (ra rb : List RG) (w : World) (ha : RdP w B ao n ra) (hb : RdP w B bo m rb) (hB : B ≤ w.heap.size) :
    Calls Try.prog 30 #[.slice ao n c, .slice bo m d, .func (.func 31) #[] #[]] w fun e w' => e = .returned (.bool (decide (grs ra = grs rb))) ∧ Below w.heap.size w w' := by
  have HA := Lib.hid ha
  have HB := Lib.hid hb
  have HN : Hid ((grs ra).length = n) := Lib.hid (by rw [length_grs, ha.len])
  have HM : Hid ((grs rb).length = m) := Lib.hid (by rw [length_grs, hb.len])
  have s1 := ha.sz
  have s2 := hb.sz
  clear ha hb
  by_cases hgt : n ≠ m
  · have hr : decide (grs ra = grs rb) = false := eq_len (by rw [HN.out, HM.out]; exact hgt)
    have HR := Lib.hid hr
    clear hr
    go_enter Try.func30, Try.ntmps30
    go_wp2
    go_ret
    exact ⟨by rw [HR.out]; rfl, Below.refl _ _⟩
  · obtain rfl : n = m := by omega
    clear hgt
    go_enter Try.func30, Try.ntmps30
    go_wp2
    go_loopw [17] (fun i wr => ∃ k : Nat, k ≤ n ∧ i = .int .i64 k ∧ Hid ((grs rb).take k = (grs ra).take k) ∧ Hid (Below w.heap.size w wr)) (fun i _ => n - (intOf i).toNat)
    case atStart => exact ⟨0, Nat.zero_le _, rfl, rfl, Below.refl _ _⟩
    case round =>
      obtain ⟨k, hk, rfl, HP, HW⟩ := hrel
      have hz := HW.out.size
      by_cases hlt : k < n
      · obtain ⟨b1, o1, r, rfl, hbk1, HX, HRF, HWF, x0, x1, x2, x3, x4, x5, x6, x7⟩ := (HA.out.below (HW.out.mono hB)).gr hlt
        obtain ⟨b2, o2, s, rfl, hbk2, HY, HRG, HWG, y0, y1, y2, y3, y4, y5, y6, y7⟩ := (HB.out.below (HW.out.mono hB)).gr hlt
        have hbr1 : b1 < wr.heap.size := by omega
        have hbr2 : b2 < wr.heap.size := by omega
        have HXK : Hid ((grs ra)[k]? = some r.gr) := Lib.hid (by unfold grs; rw [List.getElem?_map, HX.out]; rfl)
        have HYK : Hid ((grs rb)[k]? = some s.gr) := Lib.hid (by unfold grs; rw [List.getElem?_map, HY.out]; rfl)
        have HW2 := Lib.hid ((HW.out.alloc hz (.cells #[.slice r.po r.gr.params.length r.pc, .slice r.ko r.gr.kinds.length r.kc, .int .i64 r.gr.cells, .slice r.io r.gr.init.length r.ic, .bool r.gr.result, .int .i64 r.gr.keep, .slice r.no r.gr.nodes.length r.nc, .int .i64 r.gr.entry] 45)).alloc (by simp; omega) (.cells #[.slice s.po s.gr.params.length s.pc, .slice s.ko s.gr.kinds.length s.kc, .int .i64 s.gr.cells, .slice s.io s.gr.init.length s.ic, .bool s.gr.result, .int .i64 s.gr.keep, .slice s.no s.gr.nodes.length s.nc, .int .i64 s.gr.entry] 45))
        have hk2 : ∀ p : Addr, p.block < B → ((wr.alloc (.cells #[.slice r.po r.gr.params.length r.pc, .slice r.ko r.gr.kinds.length r.kc, .int .i64 r.gr.cells, .slice r.io r.gr.init.length r.ic, .bool r.gr.result, .int .i64 r.gr.keep, .slice r.no r.gr.nodes.length r.nc, .int .i64 r.gr.entry] 45)).alloc (.cells #[.slice s.po s.gr.params.length s.pc, .slice s.ko s.gr.kinds.length s.kc, .int .i64 s.gr.cells, .slice s.io s.gr.init.length s.ic, .bool s.gr.result, .int .i64 s.gr.keep, .slice s.no s.gr.nodes.length s.nc, .int .i64 s.gr.entry] 45)).cell? p = wr.cell? p := fun p hp => (World.cell?_alloc_lt _ _ p (by simp; omega)).trans (World.cell?_alloc_lt _ _ p (by omega))
        have HF2 := Lib.hid (HRF.out.keep hk2)
        have HG2 := Lib.hid (HRG.out.keep hk2)
        clear hk2
        by_cases hxy : r.gr = s.gr
        · have HD : Hid (decide (r.gr = s.gr) = true) := Lib.hid (by simpa using hxy)
          have HT1 : Hid ((grs rb).take (k + 1) = (grs ra).take (k + 1)) := Lib.hid (by rw [take_one HXK.out, take_one HYK.out, HP.out, hxy])
          clear hxy
          go_wp2_with (go_at_call 31; refine (csg_any B r s _ HF2.out HG2.out HWF.out HWG.out (by simp; omega)).mono ?_; rintro e w2 ⟨rfl, hb2⟩; rw [HD.out]; refine Hid.out ?_)
          have HB3 := Lib.hid (HW2.out.trans (hb2.mono (by simp; omega)))
          clear hb2
          refine Lib.hid ?_
          go_wp2
          go_roundw
          case rel => exact ⟨k + 1, by omega, by go_num, HT1, HB3⟩
          case measure => simp [intOf]; omega
        · have HD : Hid (decide (r.gr = s.gr) = false) := Lib.hid (by simpa using hxy)
          have HR : Hid (decide (grs ra = grs rb) = false) := Lib.hid (eq_at HXK.out HYK.out hxy)
          clear hxy
          go_wp2_with (go_at_call 31; refine (csg_any B r s _ HF2.out HG2.out HWF.out HWG.out (by simp; omega)).mono ?_; rintro e w2 ⟨rfl, hb2⟩; rw [HD.out]; refine Hid.out ?_)
          have HB3 := Lib.hid (HW2.out.trans (hb2.mono (by simp; omega)))
          clear hb2
          refine Lib.hid ?_
          go_wp2
          go_ret
          exact ⟨by rw [HR.out]; rfl, HB3.out⟩
      · obtain rfl : n = k := by omega
        have hr : decide (grs ra = grs rb) = true := by
          have h := HP.out
          rw [List.take_of_length_le (by rw [HM.out]; omega), List.take_of_length_le (by rw [HN.out]; omega)] at h
          rw [h]; simp
        have HR := Lib.hid hr
        clear hr
        go_wp2
        go_ret
        exact ⟨by rw [HR.out]; rfl, HW.out⟩

set_option maxRecDepth 100000 in
set_option maxHeartbeats 1600000 in
theorem csame_any (B : Nat) (ao bo : Option Addr) (n m c d : Nat) (ra rb : List RG) (w : World) (ha : RdP w B ao n ra) (hb : RdP w B bo m rb) (hB : B ≤ w.heap.size) :
    Calls Try.prog 20 #[.agg #[.slice ao n c], .agg #[.slice bo m d]] w fun e w' => e = .returned (.bool (decide (grs ra = grs rb))) ∧ Below w.heap.size w w' := by
  have HW : Hid (Below w.heap.size w ((w.alloc (.cells #[.slice ao n c] 24)).alloc (.cells #[.slice bo m d] 24))) := ((Below.refl _ _).alloc (Nat.le_refl _) _).alloc (by simp) _
  have HA := Lib.hid (ha.below (HW.out.mono hB))
  have HB := Lib.hid (hb.below (HW.out.mono hB))
  clear ha hb
  go_enter Try.func20, Try.ntmps20
  go_wp2_with (go_at_call 30; refine (eqg_any B ao bo n m c d ra rb _ HA.out HB.out (by simp; omega)).mono ?_; rintro e w2 ⟨rfl, hb2⟩; refine Hid.out ?_)
  have HW2 := Lib.hid (HW.out.trans (hb2.mono (by simp; omega)))
  clear hb2
  refine Lib.hid ?_
  go_wp2
  go_ret
  exact ⟨rfl, HW2.out⟩
end Go.Proofs.Ytihfihockobpjaa
