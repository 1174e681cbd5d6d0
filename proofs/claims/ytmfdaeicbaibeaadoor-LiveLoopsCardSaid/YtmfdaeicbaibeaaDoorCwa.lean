/-
  Package ir: what a node uses.
-/
import Derived.Test.YtmfdaeicbaibeaaDoorCh
namespace Go.Proofs.YtmfdaeicbaibeaaDoor
set_option linter.unusedVariables false
set_option linter.unusedSimpArgs false
open Go.ChangeShapes Go.WideShapes Go.ChangeAt Go.RowKit

set_option maxRecDepth 100000 in
set_option maxHeartbeats 12800000 in
theorem uses_a (B : Nat) (rs : List RG) (ps ks is : List Int) (nodes : List Nd) (fo : Option Addr) (nF cF : Nat) (po ko io no : Option Addr) (nP pc nK kc nI ic nN nc : Nat) (cells keep entry : Int) (res bd : Bool) (op bop d e a b f cell imm : Int) (args : List Int) (nx el : Int) (ao : Option Addr) (nA ac : Nat) (w : World) (HF0 : RdP w B fo nF rs) (hk : Reads w B 1 ko nK (u8c ks)) (hkl : ks.length = nK) (ha : Reads w B 1 ao nA (i64c args)) (hal : args.length = nA) (hnA : nA * 8 ≤ 140737488351232) (hB : B ≤ w.heap.size)
    (hh : bd = false → ∀ g ∈ grs rs, headHolds g false) (hop : op = 1 ∨ op = 16 ∨ op = 9 ∨ op = 14 ∨ op = 17 ∨ op = 18 ∨ op = 10) :
    Calls Tryd.prog 82 #[.agg #[.slice fo nF cF, .slice po nP pc, .slice ko nK kc, .int .i64 cells, .slice io nI ic, .bool res, .int .i64 keep, .slice no nN nc, .int .i64 entry, .bool bd], .agg #[.int .u8 op, .int .u8 bop, .int .i64 d, .int .i64 e, .int .i64 a, .int .i64 b, .int .i64 f, .int .i64 cell, .int .u64 imm, .slice ao nA ac, .int .i64 nx, .int .i64 el]] w fun ee w' => ee = .returned (.bool (decide (uses (grs rs) ⟨ps, ks, cells, is, res, keep, nodes, entry⟩ bd ⟨op, bop, d, e, a, b, f, cell, imm, args, nx, el⟩))) ∧ Below w.heap.size w w' := by
  have HB2 : Hid (Below w.heap.size w ((w.alloc (.cells #[.slice fo nF cF, .slice po nP pc, .slice ko nK kc, .int .i64 cells, .slice io nI ic, .bool res, .int .i64 keep, .slice no nN nc, .int .i64 entry, .bool bd] 120)).alloc (.cells #[.int .u8 op, .int .u8 bop, .int .i64 d, .int .i64 e, .int .i64 a, .int .i64 b, .int .i64 f, .int .i64 cell, .int .u64 imm, .slice ao nA ac, .int .i64 nx, .int .i64 el] 64))) := ((Below.refl _ _).alloc (Nat.le_refl _) _).alloc (by simp) _
  have HCB : Hid (Blk ((w.alloc (.cells #[.slice fo nF cF, .slice po nP pc, .slice ko nK kc, .int .i64 cells, .slice io nI ic, .bool res, .int .i64 keep, .slice no nN nc, .int .i64 entry, .bool bd] 120)).alloc (.cells #[.int .u8 op, .int .u8 bop, .int .i64 d, .int .i64 e, .int .i64 a, .int .i64 b, .int .i64 f, .int .i64 cell, .int .u64 imm, .slice ao nA ac, .int .i64 nx, .int .i64 el] 64)) w.heap.size 120 #[.slice fo nF cF, .slice po nP pc, .slice ko nK kc, .int .i64 cells, .slice io nI ic, .bool res, .int .i64 keep, .slice no nN nc, .int .i64 entry, .bool bd]) := Lib.hid ((Blk.new w 120 #[.slice fo nF cF, .slice po nP pc, .slice ko nK kc, .int .i64 cells, .slice io nI ic, .bool res, .int .i64 keep, .slice no nN nc, .int .i64 entry, .bool bd]).alloc _)
  have HNB : Hid (Blk ((w.alloc (.cells #[.slice fo nF cF, .slice po nP pc, .slice ko nK kc, .int .i64 cells, .slice io nI ic, .bool res, .int .i64 keep, .slice no nN nc, .int .i64 entry, .bool bd] 120)).alloc (.cells #[.int .u8 op, .int .u8 bop, .int .i64 d, .int .i64 e, .int .i64 a, .int .i64 b, .int .i64 f, .int .i64 cell, .int .u64 imm, .slice ao nA ac, .int .i64 nx, .int .i64 el] 64)) (w.heap.size + 1) 64 #[.int .u8 op, .int .u8 bop, .int .i64 d, .int .i64 e, .int .i64 a, .int .i64 b, .int .i64 f, .int .i64 cell, .int .u64 imm, .slice ao nA ac, .int .i64 nx, .int .i64 el]) := Lib.hid (by
    have := Blk.new (w.alloc (.cells #[.slice fo nF cF, .slice po nP pc, .slice ko nK kc, .int .i64 cells, .slice io nI ic, .bool res, .int .i64 keep, .slice no nN nc, .int .i64 entry, .bool bd] 120)) 64 #[.int .u8 op, .int .u8 bop, .int .i64 d, .int .i64 e, .int .i64 a, .int .i64 b, .int .i64 f, .int .i64 cell, .int .u64 imm, .slice ao nA ac, .int .i64 nx, .int .i64 el]
    rwa [show (w.alloc (.cells #[.slice fo nF cF, .slice po nP pc, .slice ko nK kc, .int .i64 cells, .slice io nI ic, .bool res, .int .i64 keep, .slice no nN nc, .int .i64 entry, .bool bd] 120)).heap.size = w.heap.size + 1 by simp] at this)
  have HF := Lib.hid (HF0.below (HB2.out.mono hB))
  have HK := Lib.hid (hk.below (HB2.out.mono hB))
  have HKL := Lib.hid hkl
  have HA := Lib.hid (ha.below (HB2.out.mono hB))
  have HAL := Lib.hid hal
  have HH := Lib.hid hh
  have HGL : Hid ((grs rs).length = nF) := Lib.hid (by rw [length_grs, HF0.len])
  have hB2 : B ≤ ((w.alloc (.cells #[.slice fo nF cF, .slice po nP pc, .slice ko nK kc, .int .i64 cells, .slice io nI ic, .bool res, .int .i64 keep, .slice no nN nc, .int .i64 entry, .bool bd] 120)).alloc (.cells #[.int .u8 op, .int .u8 bop, .int .i64 d, .int .i64 e, .int .i64 a, .int .i64 b, .int .i64 f, .int .i64 cell, .int .u64 imm, .slice ao nA ac, .int .i64 nx, .int .i64 el] 64)).heap.size := by simp; omega
  have HZ2 : Hid (w.heap.size + 1 + 1 = ((w.alloc (.cells #[.slice fo nF cF, .slice po nP pc, .slice ko nK kc, .int .i64 cells, .slice io nI ic, .bool res, .int .i64 keep, .slice no nN nc, .int .i64 entry, .bool bd] 120)).alloc (.cells #[.int .u8 op, .int .u8 bop, .int .i64 d, .int .i64 e, .int .i64 a, .int .i64 b, .int .i64 f, .int .i64 cell, .int .u64 imm, .slice ao nA ac, .int .i64 nx, .int .i64 el] 64)).heap.size) := Lib.hid (by simp)
  clear hk hkl HF0 ha hal hh
  rcases hop with rfl | rfl | rfl | rfl | rfl | rfl | rfl
  · -- 1
    have HU : Hid (uses (grs rs) ⟨ps, ks, cells, is, res, keep, nodes, entry⟩ bd ⟨1, bop, d, e, a, b, f, cell, imm, args, nx, el⟩ ↔ fits ks bd d 0) := Lib.hid (by unfold uses; rw [if_pos (by simp)]; all_goals exact Iff.rfl)
    have HD : Hid (decide (∀ p ∈ [d], fits ks bd p 0) = decide (uses (grs rs) ⟨ps, ks, cells, is, res, keep, nodes, entry⟩ bd ⟨1, bop, d, e, a, b, f, cell, imm, args, nx, el⟩)) := Lib.hid (by rw [decide_eq_decide, HU.out]; simp)
    go_enter Tryd.func82, Tryd.ntmps82
    go_wp2_with (first | (go_at_call 87; refine (are_lit B _ [d] 1 ks 0 _ _ _ _ _ _ _ _ _ _ _ _ _ _ _ _ _ _ _ _ _ _ rfl (by omega) HK.out HKL.out hB2 HZ2.out (by first | exact .inl rfl | exact .inr rfl)).mono ?_; rintro ee w3 ⟨rfl, hb3⟩; have HB3 := Lib.hid hb3; clear hb3; rw [HD.out]))
    go_ret
    exact ⟨rfl, HB2.out.trans (HB3.out.mono (by simp; omega))⟩
  · -- 16
    have HU : Hid (uses (grs rs) ⟨ps, ks, cells, is, res, keep, nodes, entry⟩ bd ⟨16, bop, d, e, a, b, f, cell, imm, args, nx, el⟩ ↔ fits ks bd d 0) := Lib.hid (by unfold uses; rw [if_pos (by simp)]; all_goals exact Iff.rfl)
    have HD : Hid (decide (∀ p ∈ [d], fits ks bd p 0) = decide (uses (grs rs) ⟨ps, ks, cells, is, res, keep, nodes, entry⟩ bd ⟨16, bop, d, e, a, b, f, cell, imm, args, nx, el⟩)) := Lib.hid (by rw [decide_eq_decide, HU.out]; simp)
    go_enter Tryd.func82, Tryd.ntmps82
    go_wp2_with (first | (go_at_call 87; refine (are_lit B _ [d] 1 ks 0 _ _ _ _ _ _ _ _ _ _ _ _ _ _ _ _ _ _ _ _ _ _ rfl (by omega) HK.out HKL.out hB2 HZ2.out (by first | exact .inl rfl | exact .inr rfl)).mono ?_; rintro ee w3 ⟨rfl, hb3⟩; have HB3 := Lib.hid hb3; clear hb3; rw [HD.out]))
    go_ret
    exact ⟨rfl, HB2.out.trans (HB3.out.mono (by simp; omega))⟩
  · -- 9
    have HU : Hid (uses (grs rs) ⟨ps, ks, cells, is, res, keep, nodes, entry⟩ bd ⟨9, bop, d, e, a, b, f, cell, imm, args, nx, el⟩ ↔ fits ks bd a 0) := Lib.hid (by unfold uses; rw [if_neg (by simp)]; rw [if_neg (by simp)]; rw [if_neg (by simp)]; rw [if_neg (by simp)]; rw [if_neg (by simp)]; rw [if_neg (by simp)]; rw [if_neg (by simp)]; rw [if_neg (by simp)]; rw [if_pos (by simp)]; all_goals exact Iff.rfl)
    have HD : Hid (decide (∀ p ∈ [a], fits ks bd p 0) = decide (uses (grs rs) ⟨ps, ks, cells, is, res, keep, nodes, entry⟩ bd ⟨9, bop, d, e, a, b, f, cell, imm, args, nx, el⟩)) := Lib.hid (by rw [decide_eq_decide, HU.out]; simp)
    go_enter Tryd.func82, Tryd.ntmps82
    go_wp2_with (first | (go_at_call 87; refine (are_lit B _ [a] 1 ks 0 _ _ _ _ _ _ _ _ _ _ _ _ _ _ _ _ _ _ _ _ _ _ rfl (by omega) HK.out HKL.out hB2 HZ2.out (by first | exact .inl rfl | exact .inr rfl)).mono ?_; rintro ee w3 ⟨rfl, hb3⟩; have HB3 := Lib.hid hb3; clear hb3; rw [HD.out]))
    go_ret
    exact ⟨rfl, HB2.out.trans (HB3.out.mono (by simp; omega))⟩
  · -- 14
    have HU : Hid (uses (grs rs) ⟨ps, ks, cells, is, res, keep, nodes, entry⟩ bd ⟨14, bop, d, e, a, b, f, cell, imm, args, nx, el⟩ ↔ fits ks bd a 0) := Lib.hid (by unfold uses; rw [if_neg (by simp)]; rw [if_neg (by simp)]; rw [if_neg (by simp)]; rw [if_neg (by simp)]; rw [if_neg (by simp)]; rw [if_neg (by simp)]; rw [if_neg (by simp)]; rw [if_neg (by simp)]; rw [if_pos (by simp)]; all_goals exact Iff.rfl)
    have HD : Hid (decide (∀ p ∈ [a], fits ks bd p 0) = decide (uses (grs rs) ⟨ps, ks, cells, is, res, keep, nodes, entry⟩ bd ⟨14, bop, d, e, a, b, f, cell, imm, args, nx, el⟩)) := Lib.hid (by rw [decide_eq_decide, HU.out]; simp)
    go_enter Tryd.func82, Tryd.ntmps82
    go_wp2_with (first | (go_at_call 87; refine (are_lit B _ [a] 1 ks 0 _ _ _ _ _ _ _ _ _ _ _ _ _ _ _ _ _ _ _ _ _ _ rfl (by omega) HK.out HKL.out hB2 HZ2.out (by first | exact .inl rfl | exact .inr rfl)).mono ?_; rintro ee w3 ⟨rfl, hb3⟩; have HB3 := Lib.hid hb3; clear hb3; rw [HD.out]))
    go_ret
    exact ⟨rfl, HB2.out.trans (HB3.out.mono (by simp; omega))⟩
  · -- 17
    have HU : Hid (uses (grs rs) ⟨ps, ks, cells, is, res, keep, nodes, entry⟩ bd ⟨17, bop, d, e, a, b, f, cell, imm, args, nx, el⟩ ↔ fits ks bd a 0) := Lib.hid (by unfold uses; rw [if_neg (by simp)]; rw [if_neg (by simp)]; rw [if_neg (by simp)]; rw [if_neg (by simp)]; rw [if_neg (by simp)]; rw [if_neg (by simp)]; rw [if_neg (by simp)]; rw [if_neg (by simp)]; rw [if_pos (by simp)]; all_goals exact Iff.rfl)
    have HD : Hid (decide (∀ p ∈ [a], fits ks bd p 0) = decide (uses (grs rs) ⟨ps, ks, cells, is, res, keep, nodes, entry⟩ bd ⟨17, bop, d, e, a, b, f, cell, imm, args, nx, el⟩)) := Lib.hid (by rw [decide_eq_decide, HU.out]; simp)
    go_enter Tryd.func82, Tryd.ntmps82
    go_wp2_with (first | (go_at_call 87; refine (are_lit B _ [a] 1 ks 0 _ _ _ _ _ _ _ _ _ _ _ _ _ _ _ _ _ _ _ _ _ _ rfl (by omega) HK.out HKL.out hB2 HZ2.out (by first | exact .inl rfl | exact .inr rfl)).mono ?_; rintro ee w3 ⟨rfl, hb3⟩; have HB3 := Lib.hid hb3; clear hb3; rw [HD.out]))
    go_ret
    exact ⟨rfl, HB2.out.trans (HB3.out.mono (by simp; omega))⟩
  · -- 18
    have HU : Hid (uses (grs rs) ⟨ps, ks, cells, is, res, keep, nodes, entry⟩ bd ⟨18, bop, d, e, a, b, f, cell, imm, args, nx, el⟩ ↔ fits ks bd a 0) := Lib.hid (by unfold uses; rw [if_neg (by simp)]; rw [if_neg (by simp)]; rw [if_neg (by simp)]; rw [if_neg (by simp)]; rw [if_neg (by simp)]; rw [if_neg (by simp)]; rw [if_neg (by simp)]; rw [if_neg (by simp)]; rw [if_pos (by simp)]; all_goals exact Iff.rfl)
    have HD : Hid (decide (∀ p ∈ [a], fits ks bd p 0) = decide (uses (grs rs) ⟨ps, ks, cells, is, res, keep, nodes, entry⟩ bd ⟨18, bop, d, e, a, b, f, cell, imm, args, nx, el⟩)) := Lib.hid (by rw [decide_eq_decide, HU.out]; simp)
    go_enter Tryd.func82, Tryd.ntmps82
    go_wp2_with (first | (go_at_call 87; refine (are_lit B _ [a] 1 ks 0 _ _ _ _ _ _ _ _ _ _ _ _ _ _ _ _ _ _ _ _ _ _ rfl (by omega) HK.out HKL.out hB2 HZ2.out (by first | exact .inl rfl | exact .inr rfl)).mono ?_; rintro ee w3 ⟨rfl, hb3⟩; have HB3 := Lib.hid hb3; clear hb3; rw [HD.out]))
    go_ret
    exact ⟨rfl, HB2.out.trans (HB3.out.mono (by simp; omega))⟩
  · -- 10
    have HD : Hid (decide (uses (grs rs) ⟨ps, ks, cells, is, res, keep, nodes, entry⟩ bd ⟨10, bop, d, e, a, b, f, cell, imm, args, nx, el⟩) = true) := Lib.hid (by rw [decide_eq_true_eq]; unfold uses; rw [if_neg (by simp)]; rw [if_neg (by simp)]; rw [if_neg (by simp)]; rw [if_neg (by simp)]; rw [if_neg (by simp)]; rw [if_neg (by simp)]; rw [if_neg (by simp)]; rw [if_neg (by simp)]; rw [if_neg (by simp)]; rw [if_pos (by simp)]; all_goals exact trivial)
    go_enter Tryd.func82, Tryd.ntmps82
    go_wp2
    go_ret
    exact ⟨by rw [HD.out]; rfl, HB2.out⟩
end Go.Proofs.YtmfdaeicbaibeaaDoor
