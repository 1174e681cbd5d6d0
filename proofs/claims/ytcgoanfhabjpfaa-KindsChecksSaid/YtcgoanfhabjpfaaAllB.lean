/-
  Package code's Bounded.
-/
import Derived.Test.YtcgoanfhabjpfaaApp
namespace Go.Proofs.Ytcgoanfhabjpfaa
set_option linter.unusedVariables false
open Go.ChangeShapes Go.WideShapes Go.ChangeAt Go.RowKit

set_option maxRecDepth 100000 in
set_option maxHeartbeats 1600000 in
theorem bnd_any (B : Nat) (r : Raw) (w : World) (h : RdF w B r) (hw : WfF r.fn) (hB : B ≤ w.heap.size) :
    Calls Try.prog 28 #[.agg #[.int .i64 r.fn.params, .slice r.lo r.fn.locals.length r.lc, .bool r.fn.result, .int .i64 r.fn.keep, .slice r.co r.fn.code.length r.cc]] w fun e w' => e = .returned (.bool (bndF r.fn)) ∧ Below w.heap.size w w' := by
  obtain ⟨p, HP⟩ : ∃ p, Hid (p = r.fn.params) := ⟨_, rfl⟩
  obtain ⟨nl, HNL⟩ : ∃ p, Hid (p = r.fn.locals.length) := ⟨_, rfl⟩
  obtain ⟨nc, HNC⟩ : ∃ p, Hid (p = r.fn.code.length) := ⟨_, rfl⟩
  have hb : bndF r.fn = (decide (p ≤ 4) && decide (nl ≤ 16) && decide (nc ≤ 256)) := by unfold bndF; rw [HP.out, HNL.out, HNC.out]
  have h1 := hw.ll
  have h2 := hw.cl
  rw [← HNL.out] at h1
  rw [← HNC.out] at h2
  rw [hb, ← HP.out, ← HNL.out, ← HNC.out]
  clear hb h hw
  have HB : ∀ o : Obj, Hid (Below w.heap.size w (w.alloc o)) := fun o => (Below.refl _ _).alloc (Nat.le_refl _) o
  by_cases c1 : p ≤ 4
  · by_cases c2 : nl ≤ 16
    · by_cases c3 : nc ≤ 256
      · rw [decide_eq_true c1, decide_eq_true c2, decide_eq_true c3]
        have g3 : decide ((nc : Int) ≤ 256) = true := by simp; omega
        go_enter Try.func28, Try.ntmps28
        go_wp2
        go_ret
        exact ⟨rfl, (HB _).out⟩
      · rw [decide_eq_true c1, decide_eq_true c2, decide_eq_false c3]
        have g3 : decide ((nc : Int) ≤ 256) = false := by simp; omega
        go_enter Try.func28, Try.ntmps28
        go_wp2
        go_ret
        exact ⟨rfl, (HB _).out⟩
    · rw [decide_eq_true c1, decide_eq_false c2]
      have g2 : decide ((nl : Int) ≤ 16) = false := by simp; omega
      go_enter Try.func28, Try.ntmps28
      go_wp2
      go_ret
      exact ⟨rfl, (HB _).out⟩
  · rw [decide_eq_false c1]
    have g1 : decide (p ≤ 4) = false := by simpa using c1
    go_enter Try.func28, Try.ntmps28
    go_wp2
    go_ret
    exact ⟨rfl, (HB _).out⟩

set_option maxRecDepth 100000 in
set_option maxHeartbeats 1600000 in
theorem all_bnd (B : Nat) (A : Option Addr) (n c : Nat) (rs : List Raw) (w : World) (h : RdP w B A n rs) (hB : B ≤ w.heap.size) :
    Calls Try.prog 27 #[.slice A n c, .func (.func 28) #[] #[]] w fun e w' => e = .returned (.bool ((fns rs).all bndF)) ∧ Below w.heap.size w w' := by
  have H := Lib.hid h
  have hsz := h.sz
  clear h
  go_enter Try.func27, Try.ntmps27
  go_wp2
  go_loopw [9] (fun i wr => ∃ k : Nat, k ≤ n ∧ i = .int .i64 k ∧ Hid (((fns rs).take k).all bndF = true) ∧ Hid (Below w.heap.size w wr)) (fun i _ => n - (intOf i).toNat)
  case atStart => exact ⟨0, Nat.zero_le _, rfl, rfl, Below.refl _ _⟩
  case round =>
    obtain ⟨k, hk, rfl, HT, HB⟩ := hrel
    by_cases hlt : k < n
    · obtain ⟨b, off, r, rfl, hb, HX, HF, HW, x0, x1, x2, x3, x4⟩ := (H.out.below (HB.out.mono hB)).fn hlt
      have hz := HB.out.size
      have HFN : Hid ((fns rs)[k]? = some r.fn) := Lib.hid (by unfold fns; rw [List.getElem?_map, HX.out]; rfl)
      have HB2 : Hid (Below w.heap.size w (wr.alloc (.cells #[.int .i64 r.fn.params, .slice r.lo r.fn.locals.length r.lc, .bool r.fn.result, .int .i64 r.fn.keep, .slice r.co r.fn.code.length r.cc] 47))) := HB.out.alloc hz _
      have HF2 : Hid (RdF (wr.alloc (.cells #[.int .i64 r.fn.params, .slice r.lo r.fn.locals.length r.lc, .bool r.fn.result, .int .i64 r.fn.keep, .slice r.co r.fn.code.length r.cc] 47)) B r) := HF.out.keep fun p hp => World.cell?_alloc_lt wr _ p (by omega)
      cases hp : bndF r.fn with
      | true =>
        have HT1 : Hid (((fns rs).take (k + 1)).all bndF = true) := Lib.hid (by rw [List.take_add_one, HFN.out, List.all_append, HT.out]; simp [hp])
        have HP := Lib.hid hp
        clear hp
        go_wp2_with (go_at_call 28; refine (bnd_any B r _ HF2.out HW.out (by simp; omega)).mono ?_; rintro e w2 ⟨rfl, hb2⟩; rw [HP.out]; refine Hid.out ?_)
        have HB3 := Lib.hid (HB2.out.trans (hb2.mono (by simp; omega)))
        clear hb2
        refine Lib.hid ?_
        go_wp2
        go_roundw
        case rel => exact ⟨k + 1, by omega, by go_num, HT1, HB3⟩
        case measure => simp [intOf]; omega
      | false =>
        have HA : Hid ((fns rs).all bndF = false) := Lib.hid (by
          rw [List.all_eq_false]
          exact ⟨r.fn, List.mem_of_getElem? HFN.out, by simp [hp]⟩)
        have HP := Lib.hid hp
        clear hp
        go_wp2_with (go_at_call 28; refine (bnd_any B r _ HF2.out HW.out (by simp; omega)).mono ?_; rintro e w2 ⟨rfl, hb2⟩; rw [HP.out]; refine Hid.out ?_)
        have HB3 := Lib.hid (HB2.out.trans (hb2.mono (by simp; omega)))
        clear hb2
        refine Lib.hid ?_
        go_wp2
        go_ret
        exact ⟨by rw [HA.out]; rfl, HB3.out⟩
    · obtain rfl : n = k := by omega
      clear hlt hk
      have HA : Hid ((fns rs).all bndF = true) := Lib.hid (by
        have h := HT.out
        rw [List.take_of_length_le (by rw [length_fns, H.out.len]; omega)] at h
        exact h)
      go_wp2
      go_ret
      exact ⟨by rw [HA.out]; rfl, HB.out⟩

set_option maxRecDepth 100000 in
set_option maxHeartbeats 1600000 in
theorem bounded_any (B : Nat) (A : Option Addr) (n c : Nat) (rs : List Raw) (w : World) (h : RdP w B A n rs) (hB : B ≤ w.heap.size) :
    Calls Try.prog 15 #[.agg #[.slice A n c]] w fun e w' => e = .returned (.bool (bnd (fns rs))) ∧ Below w.heap.size w w' := by
  have hl := h.len
  have hsz := h.sz
  have hb : bnd (fns rs) = (decide (n ≤ 16) && (fns rs).all bndF) := by unfold bnd; rw [length_fns, hl]
  rw [hb]
  have H := Lib.hid (h.alloc hB (.cells #[.slice A n c] 24))
  have HB : ∀ o : Obj, Hid (Below w.heap.size w (w.alloc o)) := fun o => (Below.refl _ _).alloc (Nat.le_refl _) o
  clear hb h hl
  by_cases c1 : n ≤ 16
  · rw [decide_eq_true c1]
    go_enter Try.func15, Try.ntmps15
    go_wp2_with (go_at_call 27; refine (all_bnd B A n c rs _ H.out (by simp; omega)).mono ?_; rintro e w2 ⟨rfl, hb2⟩; refine Hid.out ?_)
    have HB2 := Lib.hid ((HB _).out.trans (hb2.mono (by simp)))
    clear hb2
    refine Lib.hid ?_
    go_wp2
    go_ret
    exact ⟨rfl, HB2.out⟩
  · rw [decide_eq_false c1]
    have g1 : decide ((n : Int) ≤ 16) = false := by simp; omega
    go_enter Try.func15, Try.ntmps15
    go_wp2
    go_ret
    exact ⟨rfl, (HB _).out⟩
end Go.Proofs.Ytcgoanfhabjpfaa
