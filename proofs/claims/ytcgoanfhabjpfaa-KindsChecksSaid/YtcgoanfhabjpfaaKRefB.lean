/-
  Package kinds: refersWell.
-/
import Derived.Test.YtcgoanfhabjpfaaKRef
namespace Go.Proofs.Ytcgoanfhabjpfaa
set_option linter.unusedVariables false
open Go.ChangeShapes Go.WideShapes Go.ChangeAt Go.RowKit

theorem isNumber_is (B : Nat) (r : Raw) (x : Int) (b : Bool) (w : World) (h : RdF w B r) (hw : WfF r.fn) (hB : B ≤ w.heap.size) (h0 : 0 ≤ x) (h1 : x ≤ 9223372036854775807) (hb : numL r.fn x = b) :
    Calls Try.prog 44 #[.agg #[.int .i64 r.fn.params, .slice r.lo r.fn.locals.length r.lc, .bool r.fn.result, .int .i64 r.fn.keep, .slice r.co r.fn.code.length r.cc], .int .i64 x] w fun e w' => e = .returned (.bool b) ∧ Below w.heap.size w w' := by
  rw [← hb]; exact isNumber_any B r x w h hw hB h0 h1
theorem hasDefer_is (B : Nat) (r : Raw) (b : Bool) (w : World) (h : RdF w B r) (hw : WfF r.fn) (hB : B ≤ w.heap.size) (hb : hasDef r.fn = b) :
    Calls Try.prog 43 #[.agg #[.int .i64 r.fn.params, .slice r.lo r.fn.locals.length r.lc, .bool r.fn.result, .int .i64 r.fn.keep, .slice r.co r.fn.code.length r.cc]] w fun e w' => e = .returned (.bool b) ∧ Below w.heap.size w w' := by
  rw [← hb]; exact hasDefer_any B r w h hw hB
set_option maxRecDepth 100000 in
set_option maxHeartbeats 1600000 in
theorem keepsWell_any (B : Nat) (r : Raw) (w : World) (h : RdF w B r) (hw : WfF r.fn) (hB : B ≤ w.heap.size) (hk : -1 ≤ r.fn.keep) :
    Calls Try.prog 29 #[.agg #[.int .i64 r.fn.params, .slice r.lo r.fn.locals.length r.lc, .bool r.fn.result, .int .i64 r.fn.keep, .slice r.co r.fn.code.length r.cc]] w fun e w' => e = .returned (.bool (keepsB r.fn)) ∧ Below w.heap.size w w' := by
  have HB : ∀ o : Obj, Hid (Below w.heap.size w (w.alloc o)) := fun o => (Below.refl _ _).alloc (Nat.le_refl _) o
  have H : Hid (∀ o : Obj, RdF (w.alloc o) B r) := Lib.hid fun o => h.keep fun p hp => World.cell?_alloc_lt w o p (by omega)
  have HW := Lib.hid hw
  have hk1 := hw.k1
  clear h hw
  unfold keepsB
  by_cases c1 : r.fn.keep = -1
  · rw [if_pos c1]
    cases hr : r.fn.result with
    | false =>
      obtain ⟨⟨p, ls, fl, kp, is⟩, lo, lc, co, cc⟩ := r
      simp only at c1 hr H HW hk1 ⊢
      subst c1 hr
      go_enter Try.func29, Try.ntmps29
      go_wp2
      go_ret
      exact ⟨rfl, (HB _).out⟩
    | true =>
      obtain ⟨d, HD⟩ : ∃ d, Hid (hasDef r.fn = d) := ⟨_, Lib.hid rfl⟩
      rw [HD.out]
      obtain ⟨⟨p, ls, fl, kp, is⟩, lo, lc, co, cc⟩ := r
      simp only at c1 hr H HW HD hk1 ⊢
      subst c1 hr
      have HC := fun o => Lib.hid (hasDefer_is B ⟨⟨p, ls, true, -1, is⟩, lo, lc, co, cc⟩ d (w.alloc o) (H.out o) HW.out (by simp; omega) HD.out)
      go_enter Try.func29, Try.ntmps29
      go_wp2_with (go_at_call 43; refine (HC _).out.mono ?_; rintro e w2 ⟨rfl, hb2⟩; refine Hid.out ?_)
      have HX := Lib.hid ((HB (.cells #[.int .i64 p, .slice lo ls.length lc, .bool true, .int .i64 (-1), .slice co is.length cc] 47)).out.trans (hb2.mono (by simp)))
      clear hb2
      refine Lib.hid ?_
      go_wp2
      go_ret
      exact ⟨rfl, HX.out⟩
  · rw [if_neg c1]
    have h0 : 0 ≤ r.fn.keep := by omega
    obtain ⟨d, HD⟩ : ∃ d, Hid (numL r.fn r.fn.keep = d) := ⟨_, Lib.hid rfl⟩
    rw [HD.out]
    have g1 : (r.fn.keep == -1) = false := by simpa using c1
    obtain ⟨⟨p, ls, fl, kp, is⟩, lo, lc, co, cc⟩ := r
    simp only at g1 h0 H HW HD hk1 ⊢
    clear c1 hk
    have HC := fun o => Lib.hid (isNumber_is B ⟨⟨p, ls, fl, kp, is⟩, lo, lc, co, cc⟩ kp d (w.alloc o) (H.out o) HW.out (by simp; omega) h0 hk1 HD.out)
    go_enter Try.func29, Try.ntmps29
    go_wp2_with (go_at_call 44; refine (HC _).out.mono ?_; rintro e w2 ⟨rfl, hb2⟩; refine Hid.out ?_)
    have HX := Lib.hid ((HB (.cells #[.int .i64 p, .slice lo ls.length lc, .bool fl, .int .i64 kp, .slice co is.length cc] 47)).out.trans (hb2.mono (by simp)))
    clear hb2
    refine Lib.hid ?_
    go_wp2
    go_ret
    exact ⟨rfl, HX.out⟩

theorem below_2 (w : World) (t u : TypeId) (cs ds : Array Value) : Below w.heap.size w ((w.alloc (.cells cs t)).alloc (.cells ds u)) := ((Below.refl _ _).alloc (Nat.le_refl _) _).alloc (by simp) _
set_option maxRecDepth 100000 in
set_option maxHeartbeats 3200000 in
theorem instrRef_any (B : Nat) (r : Raw) (i : Ins) (fs : List Fn) (m : Nat) (w : World) (h : RdF w B r) (hw : WfF r.fn) (hB : B ≤ w.heap.size) (hm : fs.length = m) (hm1 : m ≤ 255) (h0 : 0 ≤ i.arg) (h1 : i.arg ≤ 9223372036854775807) :
    Calls Try.prog 45 #[.agg #[.int .u8 i.op, .int .i64 i.arg, .int .u64 i.imm], .agg #[.int .i64 r.fn.params, .slice r.lo r.fn.locals.length r.lc, .bool r.fn.result, .int .i64 r.fn.keep, .slice r.co r.fn.code.length r.cc], .int .i64 m] w fun e w' => e = .returned (.bool (insRef fs r.fn i)) ∧ Below w.heap.size w w' := by
  have wl := hw.ll
  have wc : r.fn.code.length ≤ 140737488351232 := by have := hw.cl; omega
  have H : Hid (∀ o o' : Obj, RdF ((w.alloc o).alloc o') B r) := Lib.hid fun o o' => (h.keep fun p hp => World.cell?_alloc_lt w o p (by omega)).keep fun p hp => World.cell?_alloc_lt _ o' p (by simp; omega)
  have HW := Lib.hid hw
  clear h hw
  obtain ⟨op, arg, imm⟩ := i
  simp only at h0 h1 ⊢
  obtain ⟨a, rfl⟩ : ∃ a : Nat, arg = (a : Int) := ⟨arg.toNat, by omega⟩
  unfold insRef
  simp only
  by_cases c1 : op = 2 ∨ op = 3
  · rw [if_pos c1]
    obtain ⟨⟨p, ls, fl, kp, is⟩, lo, lc, co, cc⟩ := r
    simp only at wl wc H HW ⊢
    obtain ⟨nl, HNL⟩ : ∃ n, Hid (n = ls.length) := ⟨_, Lib.hid rfl⟩
    rw [← HNL.out] at wl ⊢
    obtain ⟨d, hd⟩ : ∃ d, decide ((a : Int) < (nl : Int)) = d := ⟨_, rfl⟩
    have hd2 : decide (a < nl) = d := by rw [← hd]; simp
    rw [hd]
    clear hd
    rcases c1 with rfl | rfl
    all_goals
      go_enter Try.func45, Try.ntmps45
      go_wp2
      go_ret
      exact ⟨rfl, below_2 _ _ _ _ _⟩
  rw [if_neg c1]
  by_cases c2 : op = 4
  · rw [if_pos c2]
    subst c2
    obtain ⟨d, HD⟩ : ∃ d, Hid (numL r.fn (a : Int) = d) := ⟨_, Lib.hid rfl⟩
    rw [HD.out]
    have HC := fun o o' => Lib.hid (isNumber_is B r (a : Int) d ((w.alloc o).alloc o') (H.out o o') HW.out (by simp; omega) h0 h1 HD.out)
    obtain ⟨⟨p, ls, fl, kp, is⟩, lo, lc, co, cc⟩ := r
    simp only at HC ⊢
    go_enter Try.func45, Try.ntmps45
    go_wp2_with (go_at_call 44; refine (HC _ _).out.mono ?_; rintro e w2 ⟨rfl, hb2⟩; refine Hid.out ?_)
    have HX := Lib.hid ((below_2 w _ _ _ _).trans (hb2.mono (by simp; omega)))
    clear hb2
    refine Lib.hid ?_
    go_wp2
    go_ret
    exact ⟨rfl, HX.out⟩
  rw [if_neg c2]
  by_cases c3 : op = 21 ∨ op = 22
  · rw [if_pos c3]
    obtain ⟨⟨p, ls, fl, kp, is⟩, lo, lc, co, cc⟩ := r
    simp only at wl wc H HW ⊢
    obtain ⟨nl, HNL⟩ : ∃ n, Hid (n = is.length) := ⟨_, Lib.hid rfl⟩
    rw [← HNL.out] at wc ⊢
    obtain ⟨d, hd⟩ : ∃ d, decide ((a : Int) < (nl : Int)) = d := ⟨_, rfl⟩
    have hd2 : decide (a < nl) = d := by rw [← hd]; simp
    rw [hd]
    clear hd c1 c2
    rcases c3 with rfl | rfl
    all_goals
      go_enter Try.func45, Try.ntmps45
      go_wp2
      go_ret
      exact ⟨rfl, below_2 _ _ _ _ _⟩
  rw [if_neg c3]
  by_cases c4 : op = 23 ∨ op = 25
  · rw [if_pos c4, hm]
    obtain ⟨⟨p, ls, fl, kp, is⟩, lo, lc, co, cc⟩ := r
    simp only at wl wc H HW ⊢
    obtain ⟨d, hd⟩ : ∃ d, decide ((a : Int) < (m : Int)) = d := ⟨_, rfl⟩
    have hd2 : decide (a < m) = d := by rw [← hd]; simp
    rw [hd]
    clear hd c1 c2 c3 hm
    rcases c4 with rfl | rfl
    all_goals
      go_enter Try.func45, Try.ntmps45
      go_wp2
      go_ret
      exact ⟨rfl, below_2 _ _ _ _ _⟩
  rw [if_neg c4]
  obtain ⟨⟨p, ls, fl, kp, is⟩, lo, lc, co, cc⟩ := r
  simp only at wl wc H HW ⊢
  have g1 : (op == 2) = false := by simp; omega
  have g2 : (op == 3) = false := by simp; omega
  have g3 : (op == 4) = false := by simp; omega
  have g4 : (op == 21) = false := by simp; omega
  have g5 : (op == 22) = false := by simp; omega
  have g6 : (op == 23) = false := by simp; omega
  have g7 : (op == 25) = false := by simp; omega
  clear c1 c2 c3 c4 hm
  go_enter Try.func45, Try.ntmps45
  go_wp2
  go_ret
  exact ⟨rfl, below_2 _ _ _ _ _⟩
theorem instrRef_is (B : Nat) (r : Raw) (i : Ins) (b : Bool) (fs : List Fn) (m : Nat) (w : World) (h : RdF w B r) (hw : WfF r.fn) (hB : B ≤ w.heap.size) (hm : fs.length = m) (hm1 : m ≤ 255) (h0 : 0 ≤ i.arg) (h1 : i.arg ≤ 9223372036854775807) (hb : insRef fs r.fn i = b) :
    Calls Try.prog 45 #[.agg #[.int .u8 i.op, .int .i64 i.arg, .int .u64 i.imm], .agg #[.int .i64 r.fn.params, .slice r.lo r.fn.locals.length r.lc, .bool r.fn.result, .int .i64 r.fn.keep, .slice r.co r.fn.code.length r.cc], .int .i64 m] w fun e w' => e = .returned (.bool b) ∧ Below w.heap.size w w' := by
  rw [← hb]; exact instrRef_any B r i fs m w h hw hB hm hm1 h0 h1
end Go.Proofs.Ytcgoanfhabjpfaa
