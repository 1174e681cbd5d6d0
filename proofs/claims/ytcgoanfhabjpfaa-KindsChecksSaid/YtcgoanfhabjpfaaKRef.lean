/-
  Package kinds: the rules that ask nothing of a stack.
-/
import Derived.Test.YtcgoanfhabjpfaaKMem
import Derived.Test.YtcgoanfhabjpfaaKMath
namespace Go.Proofs.Ytcgoanfhabjpfaa
set_option linter.unusedVariables false
open Go.ChangeShapes Go.WideShapes Go.ChangeAt Go.RowKit

set_option maxRecDepth 100000 in
set_option maxHeartbeats 1600000 in
theorem isNumber_any (B : Nat) (r : Raw) (x : Int) (w : World) (h : RdF w B r) (hw : WfF r.fn) (hB : B ≤ w.heap.size) (h0 : 0 ≤ x) (h1 : x ≤ 9223372036854775807) :
    Calls Try.prog 44 #[.agg #[.int .i64 r.fn.params, .slice r.lo r.fn.locals.length r.lc, .bool r.fn.result, .int .i64 r.fn.keep, .slice r.co r.fn.code.length r.cc], .int .i64 x] w fun e w' => e = .returned (.bool (numL r.fn x)) ∧ Below w.heap.size w w' := by
  have HB : ∀ o : Obj, Hid (Below w.heap.size w (w.alloc o)) := fun o => (Below.refl _ _).alloc (Nat.le_refl _) o
  have wl := hw.ll
  have hL := h.locals
  obtain ⟨⟨p, ls, fl, kp, is⟩, lo, lc, co, cc⟩ := r
  simp only at wl hL ⊢
  unfold numL
  simp only
  clear h hw
  obtain ⟨k, rfl⟩ : ∃ k : Nat, x = (k : Int) := ⟨x.toNat, by omega⟩
  obtain ⟨nl, HNL⟩ : ∃ n, Hid (n = ls.length) := ⟨_, Lib.hid rfl⟩
  rw [← HNL.out] at wl hL ⊢
  by_cases c1 : k < nl
  · obtain ⟨b, off, y, rfl, hb, HX, x0⟩ := hL.byte c1
    have hbw : b < w.heap.size := by omega
    have g1 : decide (k < nl) = true := by simpa using c1
    have HR : Hid ((decide ((k : Int) < (nl : Int)) && decide (ls.getD (k : Int).toNat 0 = 0)) = decide (y = 0)) := Lib.hid (by
      rw [decide_eq_true (by omega : (k : Int) < (nl : Int)), Int.toNat_natCast, List.getD_eq_getElem?_getD, HX.out]; rfl)
    rw [HR.out]
    by_cases c2 : y = 0
    · have g2 : (y == 0) = true := by simpa using c2
      have HD : Hid (decide (y = 0) = true) := Lib.hid (by simpa using c2)
      rw [HD.out]
      clear c2
      go_enter Try.func44, Try.ntmps44
      go_wp2
      go_ret
      exact ⟨rfl, (HB _).out⟩
    · have g2 : (y == 0) = false := by simpa using c2
      have HD : Hid (decide (y = 0) = false) := Lib.hid (by simpa using c2)
      rw [HD.out]
      clear c2
      go_enter Try.func44, Try.ntmps44
      go_wp2
      go_ret
      exact ⟨rfl, (HB _).out⟩
  · have g1 : decide (k < nl) = false := by simpa using c1
    have HR : Hid ((decide ((k : Int) < (nl : Int)) && decide (ls.getD (k : Int).toNat 0 = 0)) = false) := Lib.hid (by
      rw [decide_eq_false (by omega : ¬ (k : Int) < (nl : Int))]; rfl)
    rw [HR.out]
    go_enter Try.func44, Try.ntmps44
    go_wp2
    go_ret
    exact ⟨rfl, (HB _).out⟩
theorem isDef1 (i : Ins) (b : Bool) (w : World) (hb : decide (i.op = 25) = b) : Calls Try.prog 53 #[.agg #[.int .u8 i.op, .int .i64 i.arg, .int .u64 i.imm]] w fun e w' => e = .returned (.bool b) ∧ Below w.heap.size w w' := by
  have HB : ∀ o : Obj, Hid (Below w.heap.size w (w.alloc o)) := fun o => (Below.refl _ _).alloc (Nat.le_refl _) o
  obtain ⟨op, arg, imm⟩ := i
  simp only at hb ⊢
  have g : (op == 25) = b := by rw [← hb]; rfl
  clear hb
  go_enter Try.func53, Try.ntmps53
  go_wp2
  go_ret
  exact ⟨rfl, (HB _).out⟩
def IdxPost (w : World) (yes : Bool) (e : Ending) (w' : World) : Prop := ∃ x : Int, e = .returned (.int .i64 x) ∧ decide (x ≥ 0) = yes ∧ Below w.heap.size w w'
set_option maxRecDepth 100000 in
set_option maxHeartbeats 1600000 in
theorem index_any (B : Nat) (A : Option Addr) (n c : Nat) (is : List Ins) (w : World) (h : Reads w B 3 A n (insc is)) (hB : B ≤ w.heap.size) (hl : is.length = n) (hn : n ≤ 140737488351232) :
    Calls Try.prog 59 #[.slice A n c, .func (.func 53) #[] #[]] w (IdxPost w (is.any fun i => decide (i.op = 25))) := by
  have H := Lib.hid h
  have HL := Lib.hid hl
  clear h hl
  go_enter Try.func59, Try.ntmps59
  go_wp2
  go_loopw [8] (fun i wr => ∃ k : Nat, k ≤ n ∧ i = .int .i64 k ∧ Hid (((is.take k).any fun i => decide (i.op = 25)) = false) ∧ Hid (Below w.heap.size w wr)) (fun i _ => n - (intOf i).toNat)
  case atStart => exact ⟨0, Nat.zero_le _, rfl, rfl, Below.refl _ _⟩
  case round =>
    obtain ⟨k, hk, rfl, HT, HB⟩ := hrel
    by_cases hlt : k < n
    · obtain ⟨b, off, i, rfl, hb, HX, x0, x1, x2⟩ := (H.out.below (HB.out.mono hB)).ins hlt
      have hz := HB.out.size
      cases hp : decide (i.op = 25) with
      | true =>
        have HA : Hid ((is.any fun i => decide (i.op = 25)) = true) := Lib.hid (List.any_eq_true.2 ⟨i, List.mem_of_getElem? HX.out, hp⟩)
        have HP := Lib.hid hp
        clear hp
        go_wp2_with (go_at_call 53; refine (isDef1 i true _ HP.out).mono ?_; rintro e w2 ⟨rfl, hb2⟩; refine Hid.out ?_)
        have HB3 := Lib.hid (HB.out.trans (hb2.mono hz))
        clear hb2
        refine Lib.hid ?_
        go_wp2
        go_ret
        exact ⟨_, rfl, by rw [HA.out]; simp, HB3.out⟩
      | false =>
        have HT1 : Hid (((is.take (k + 1)).any fun i => decide (i.op = 25)) = false) := Lib.hid (by rw [List.take_add_one, HX.out, List.any_append, HT.out]; simp [hp])
        have HP := Lib.hid hp
        clear hp
        go_wp2_with (go_at_call 53; refine (isDef1 i false _ HP.out).mono ?_; rintro e w2 ⟨rfl, hb2⟩; refine Hid.out ?_)
        have HB3 := Lib.hid (HB.out.trans (hb2.mono hz))
        clear hb2
        refine Lib.hid ?_
        go_wp2
        go_roundw
        case rel => exact ⟨k + 1, by omega, by go_num, HT1, HB3⟩
        case measure => simp [intOf]; omega
    · obtain rfl : n = k := by omega
      clear hlt hk
      have HA : Hid ((is.any fun i => decide (i.op = 25)) = false) := Lib.hid (by
        have h := HT.out
        rw [List.take_of_length_le (by rw [HL.out]; omega)] at h
        exact h)
      go_wp2
      go_ret
      exact ⟨_, rfl, by rw [HA.out]; rfl, HB.out⟩
set_option maxRecDepth 100000 in
set_option maxHeartbeats 1600000 in
theorem contains_any (B : Nat) (A : Option Addr) (n c : Nat) (is : List Ins) (w : World) (h : Reads w B 3 A n (insc is)) (hB : B ≤ w.heap.size) (hl : is.length = n) (hn : n ≤ 140737488351232) :
    Calls Try.prog 52 #[.slice A n c, .func (.func 53) #[] #[]] w fun e w' => e = .returned (.bool (is.any fun i => decide (i.op = 25))) ∧ Below w.heap.size w w' := by
  obtain ⟨b, HB⟩ : ∃ b, Hid (b = is.any fun i => decide (i.op = 25)) := ⟨_, Lib.hid rfl⟩
  have HI := Lib.hid (index_any B A n c is w h hB hl hn)
  rw [← HB.out] at HI ⊢
  clear h hl
  go_enter Try.func52, Try.ntmps52
  go_wp2_with (go_at_call 59; refine HI.out.mono ?_; rintro e w2 ⟨x, rfl, hx, hb2⟩; refine Hid.out ?_)
  have HX := Lib.hid hb2
  clear hb2
  have g : decide (0 ≤ x) = b := hx
  refine Lib.hid ?_
  go_wp2
  go_ret
  exact ⟨by first | rfl | rw [← hx], HX.out⟩
set_option maxRecDepth 100000 in
set_option maxHeartbeats 1600000 in
theorem hasDefer_any (B : Nat) (r : Raw) (w : World) (h : RdF w B r) (hw : WfF r.fn) (hB : B ≤ w.heap.size) :
    Calls Try.prog 43 #[.agg #[.int .i64 r.fn.params, .slice r.lo r.fn.locals.length r.lc, .bool r.fn.result, .int .i64 r.fn.keep, .slice r.co r.fn.code.length r.cc]] w fun e w' => e = .returned (.bool (hasDef r.fn)) ∧ Below w.heap.size w w' := by
  have HB : ∀ o : Obj, Hid (Below w.heap.size w (w.alloc o)) := fun o => (Below.refl _ _).alloc (Nat.le_refl _) o
  have H : Hid (∀ o : Obj, Reads (w.alloc o) B 3 r.co r.fn.code.length (insc r.fn.code)) := Lib.hid fun o => h.code.alloc hB o
  have wc : r.fn.code.length ≤ 140737488351232 := by have := hw.cl; omega
  unfold hasDef
  clear h hw
  obtain ⟨⟨p, ls, fl, kp, is⟩, lo, lc, co, cc⟩ := r
  simp only at wc H ⊢
  go_enter Try.func43, Try.ntmps43
  go_wp2_with (go_at_call 52; refine (contains_any B co is.length cc is _ (H.out _) (by simp; omega) rfl wc).mono ?_; rintro e w2 ⟨rfl, hb2⟩; refine Hid.out ?_)
  have HX := Lib.hid ((HB (.cells #[.int .i64 p, .slice lo ls.length lc, .bool fl, .int .i64 kp, .slice co is.length cc] 47)).out.trans (hb2.mono (by simp)))
  clear hb2
  refine Lib.hid ?_
  go_wp2
  go_ret
  exact ⟨rfl, HX.out⟩
end Go.Proofs.Ytcgoanfhabjpfaa
