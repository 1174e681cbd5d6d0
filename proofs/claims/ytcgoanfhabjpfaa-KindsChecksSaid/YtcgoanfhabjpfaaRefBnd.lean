/-
  The document's Bounded.
-/
import Derived.Test.YtcgoanfhabjpfaaApp
namespace Go.Proofs.Ytcgoanfhabjpfaa
set_option linter.unusedVariables false
open Go.ChangeShapes Go.WideShapes Go.ChangeAt Go.RowKit

set_option maxRecDepth 100000 in
set_option maxHeartbeats 6400000 in
theorem rbounded_any (B : Nat) (A : Option Addr) (n c : Nat) (rs : List Raw) (w : World) (h : RdP w B A n rs) (hB : B ≤ w.heap.size) :
    Calls Try.prog 20 #[.agg #[.slice A n c]] w fun e w' => e = .returned (.bool (bnd (fns rs))) ∧ Below w.heap.size w w' := by
  have hsz := h.sz
  have H := Lib.hid h
  have HN : Hid ((fns rs).length = n) := Lib.hid (by rw [length_fns, h.len])
  have HW0 : Hid (Below w.heap.size w (w.alloc (.cells #[.slice A n c] 24))) := (Below.refl _ _).alloc (Nat.le_refl _) _
  clear h
  obtain ⟨b0, HB0⟩ : ∃ b, Hid (b = decide (n ≤ 16)) := ⟨_, rfl⟩
  have hb0 : decide ((n : Int) ≤ 16) = b0 := by rw [HB0.out]; simp; omega
  go_enter Try.func20, Try.ntmps20
  go_wp2
  go_loopw [3, 13] (fun o i wr => ∃ (k : Nat) (b : Bool), k ≤ n ∧ i = .int .i64 k ∧ o = .bool b ∧ Hid (b = (b0 && ((fns rs).take k).all bndF)) ∧ Hid (Below w.heap.size w wr)) (fun _ i _ => n - (intOf i).toNat)
  case atStart => exact ⟨0, b0, Nat.zero_le _, rfl, rfl, (by show b0 = _; simp), HW0⟩
  case round =>
    clear hb0 HW0
    obtain ⟨k, b, hk, rfl, rfl, HBK, HW⟩ := hrel
    have hz := HW.out.size
    by_cases hlt : k < n
    · obtain ⟨b1, off, r, rfl, hbk, HX, HRF, HWF, x0, x1, x2, x3, x4⟩ := (H.out.below (HW.out.mono hB)).fn hlt
      have HXK : Hid ((fns rs)[k]? = some r.fn) := Lib.hid (by unfold fns; rw [List.getElem?_map, HX.out]; rfl)
      have HW2 := Lib.hid (HW.out.alloc hz (.cells #[.int .i64 r.fn.params, .slice r.lo r.fn.locals.length r.lc, .bool r.fn.result, .int .i64 r.fn.keep, .slice r.co r.fn.code.length r.cc] 47))
      have HN1 : Hid (∀ q : Bool, q = (b && bndF r.fn) → q = (b0 && ((fns rs).take (k + 1)).all bndF)) := fun q hq => by
        rw [hq, HBK.out, List.take_add_one, HXK.out, List.all_append]
        simp [Bool.and_assoc]
      have wl := HWF.out.ll
      have wc := HWF.out.cl
      obtain ⟨⟨p, ls, fl, kp, is⟩, lo, lc, co, cc⟩ := r
      simp only at x0 x1 x2 x3 x4 wl wc
      obtain ⟨nl, HNL⟩ : ∃ x, Hid (x = ls.length) := ⟨_, rfl⟩
      obtain ⟨nc, HNC⟩ : ∃ x, Hid (x = is.length) := ⟨_, rfl⟩
      simp only at HW2
      rw [← HNL.out] at x1 wl HW2
      rw [← HNC.out] at x4 wc HW2
      have HBF : Hid (bndF ⟨p, ls, fl, kp, is⟩ = (decide (p ≤ 4) && decide (nl ≤ 16) && decide (nc ≤ 256))) := Lib.hid (by unfold bndF; rw [HNL.out, HNC.out])
      cases b with
      | false =>
        have HQ := Lib.hid (HN1.out false (by simp))
        go_wp2
        go_roundw
        case rel => exact ⟨k + 1, false, by omega, by go_num, rfl, HQ, HW2⟩
        case measure => simp [intOf]; omega
      | true =>
        by_cases c1 : p ≤ 4
        · by_cases c2 : nl ≤ 16
          · by_cases c3 : nc ≤ 256
            · have HQ := Lib.hid (HN1.out true (by rw [HBF.out, decide_eq_true c1, decide_eq_true c2, decide_eq_true c3]; rfl))
              have g3 : decide ((nc : Int) ≤ 256) = true := by simp; omega
              go_wp2
              go_roundw
              case rel => exact ⟨k + 1, true, by omega, by go_num, rfl, HQ, HW2⟩
              case measure => simp [intOf]; omega
            · have HQ := Lib.hid (HN1.out false (by rw [HBF.out, decide_eq_true c1, decide_eq_true c2, decide_eq_false c3]; rfl))
              have g3 : decide ((nc : Int) ≤ 256) = false := by simp; omega
              go_wp2
              go_roundw
              case rel => exact ⟨k + 1, false, by omega, by go_num, rfl, HQ, HW2⟩
              case measure => simp [intOf]; omega
          · have HQ := Lib.hid (HN1.out false (by rw [HBF.out, decide_eq_true c1, decide_eq_false c2]; rfl))
            have g2 : decide ((nl : Int) ≤ 16) = false := by simp; omega
            go_wp2
            go_roundw
            case rel => exact ⟨k + 1, false, by omega, by go_num, rfl, HQ, HW2⟩
            case measure => simp [intOf]; omega
        · have HQ := Lib.hid (HN1.out false (by rw [HBF.out, decide_eq_false c1]; rfl))
          have g1 : decide (p ≤ 4) = false := by simpa using c1
          go_wp2
          go_roundw
          case rel => exact ⟨k + 1, false, by omega, by go_num, rfl, HQ, HW2⟩
          case measure => simp [intOf]; omega
    · obtain rfl : n = k := by omega
      clear hlt hk
      have HE : Hid (bnd (fns rs) = b) := Lib.hid (by
        have h := HBK.out
        rw [List.take_of_length_le (by rw [HN.out]; omega)] at h
        unfold bnd
        rw [HN.out, ← HB0.out, h])
      go_wp2
      go_ret
      exact ⟨by rw [HE.out]; rfl, HW.out⟩
end Go.Proofs.Ytcgoanfhabjpfaa
