/-
  Package ir: what a node uses.
-/
import Derived.Test.YtmfdaeicbaibeaaDoorCwa
import Derived.Test.YtmfdaeicbaibeaaDoorCwb
import Derived.Test.YtmfdaeicbaibeaaDoorCwc
import Derived.Test.YtmfdaeicbaibeaaDoorCwe
import Derived.Test.YtmfdaeicbaibeaaDoorCwf
namespace Go.Proofs.YtmfdaeicbaibeaaDoor
set_option linter.unusedVariables false
set_option linter.unusedSimpArgs false
open Go.ChangeShapes Go.WideShapes Go.ChangeAt Go.RowKit

set_option maxRecDepth 100000 in
set_option maxHeartbeats 12800000 in
theorem uses_z (B : Nat) (rs : List RG) (ps ks is : List Int) (nodes : List Nd) (fo : Option Addr) (nF cF : Nat) (po ko io no : Option Addr) (nP pc nK kc nI ic nN nc : Nat) (cells keep entry : Int) (res bd : Bool) (op bop d e a b f cell imm : Int) (args : List Int) (nx el : Int) (ao : Option Addr) (nA ac : Nat) (w : World) (HF0 : RdP w B fo nF rs) (hk : Reads w B 1 ko nK (u8c ks)) (hkl : ks.length = nK) (ha : Reads w B 1 ao nA (i64c args)) (hal : args.length = nA) (hnA : nA * 8 ≤ 140737488351232) (hB : B ≤ w.heap.size)
    (hh : bd = false → ∀ g ∈ grs rs, headHolds g false) (ho0 : 0 ≤ op) (ho1 : op ≤ 255) (hop : op < 1 ∨ 18 < op) :
    Calls Tryd.prog 82 #[.agg #[.slice fo nF cF, .slice po nP pc, .slice ko nK kc, .int .i64 cells, .slice io nI ic, .bool res, .int .i64 keep, .slice no nN nc, .int .i64 entry, .bool bd], .agg #[.int .u8 op, .int .u8 bop, .int .i64 d, .int .i64 e, .int .i64 a, .int .i64 b, .int .i64 f, .int .i64 cell, .int .u64 imm, .slice ao nA ac, .int .i64 nx, .int .i64 el]] w fun ee w' => ee = .returned (.bool (decide (uses (grs rs) ⟨ps, ks, cells, is, res, keep, nodes, entry⟩ bd ⟨op, bop, d, e, a, b, f, cell, imm, args, nx, el⟩))) ∧ Below w.heap.size w w' := by
  have HB2 : Hid (Below w.heap.size w ((w.alloc (.cells #[.slice fo nF cF, .slice po nP pc, .slice ko nK kc, .int .i64 cells, .slice io nI ic, .bool res, .int .i64 keep, .slice no nN nc, .int .i64 entry, .bool bd] 120)).alloc (.cells #[.int .u8 op, .int .u8 bop, .int .i64 d, .int .i64 e, .int .i64 a, .int .i64 b, .int .i64 f, .int .i64 cell, .int .u64 imm, .slice ao nA ac, .int .i64 nx, .int .i64 el] 64))) := ((Below.refl _ _).alloc (Nat.le_refl _) _).alloc (by simp) _
  have HCB : Hid (Blk ((w.alloc (.cells #[.slice fo nF cF, .slice po nP pc, .slice ko nK kc, .int .i64 cells, .slice io nI ic, .bool res, .int .i64 keep, .slice no nN nc, .int .i64 entry, .bool bd] 120)).alloc (.cells #[.int .u8 op, .int .u8 bop, .int .i64 d, .int .i64 e, .int .i64 a, .int .i64 b, .int .i64 f, .int .i64 cell, .int .u64 imm, .slice ao nA ac, .int .i64 nx, .int .i64 el] 64)) w.heap.size 120 #[.slice fo nF cF, .slice po nP pc, .slice ko nK kc, .int .i64 cells, .slice io nI ic, .bool res, .int .i64 keep, .slice no nN nc, .int .i64 entry, .bool bd]) := Lib.hid ((Blk.new w 120 #[.slice fo nF cF, .slice po nP pc, .slice ko nK kc, .int .i64 cells, .slice io nI ic, .bool res, .int .i64 keep, .slice no nN nc, .int .i64 entry, .bool bd]).alloc _)
  have HNB : Hid (Blk ((w.alloc (.cells #[.slice fo nF cF, .slice po nP pc, .slice ko nK kc, .int .i64 cells, .slice io nI ic, .bool res, .int .i64 keep, .slice no nN nc, .int .i64 entry, .bool bd] 120)).alloc (.cells #[.int .u8 op, .int .u8 bop, .int .i64 d, .int .i64 e, .int .i64 a, .int .i64 b, .int .i64 f, .int .i64 cell, .int .u64 imm, .slice ao nA ac, .int .i64 nx, .int .i64 el] 64)) (w.heap.size + 1) 64 #[.int .u8 op, .int .u8 bop, .int .i64 d, .int .i64 e, .int .i64 a, .int .i64 b, .int .i64 f, .int .i64 cell, .int .u64 imm, .slice ao nA ac, .int .i64 nx, .int .i64 el]) := Lib.hid (by
    have := Blk.new (w.alloc (.cells #[.slice fo nF cF, .slice po nP pc, .slice ko nK kc, .int .i64 cells, .slice io nI ic, .bool res, .int .i64 keep, .slice no nN nc, .int .i64 entry, .bool bd] 120)) 64 #[.int .u8 op, .int .u8 bop, .int .i64 d, .int .i64 e, .int .i64 a, .int .i64 b, .int .i64 f, .int .i64 cell, .int .u64 imm, .slice ao nA ac, .int .i64 nx, .int .i64 el]
    rwa [show (w.alloc (.cells #[.slice fo nF cF, .slice po nP pc, .slice ko nK kc, .int .i64 cells, .slice io nI ic, .bool res, .int .i64 keep, .slice no nN nc, .int .i64 entry, .bool bd] 120)).heap.size = w.heap.size + 1 by simp] at this)
  have HF := Lib.hid (HF0.below (HB2.out.mono hB))
  have HK := Lib.hid (hk.below (HB2.out.mono hB))
  have HKL := Lib.hid hkl
  have HA := Lib.hid (ha.below (HB2.out.mono hB))
  have HAL := Lib.hid hal
  have HH := Lib.hid hh
  have HGL : Hid ((grs rs).length = nF) := Lib.hid (by rw [length_grs, HF0.len])
  have hB2 : B ≤ ((w.alloc (.cells #[.slice fo nF cF, .slice po nP pc, .slice ko nK kc, .int .i64 cells, .slice io nI ic, .bool res, .int .i64 keep, .slice no nN nc, .int .i64 entry, .bool bd] 120)).alloc (.cells #[.int .u8 op, .int .u8 bop, .int .i64 d, .int .i64 e, .int .i64 a, .int .i64 b, .int .i64 f, .int .i64 cell, .int .u64 imm, .slice ao nA ac, .int .i64 nx, .int .i64 el] 64)).heap.size := by simp; omega
  have HZ2 : Hid (w.heap.size + 1 + 1 = ((w.alloc (.cells #[.slice fo nF cF, .slice po nP pc, .slice ko nK kc, .int .i64 cells, .slice io nI ic, .bool res, .int .i64 keep, .slice no nN nc, .int .i64 entry, .bool bd] 120)).alloc (.cells #[.int .u8 op, .int .u8 bop, .int .i64 d, .int .i64 e, .int .i64 a, .int .i64 b, .int .i64 f, .int .i64 cell, .int .u64 imm, .slice ao nA ac, .int .i64 nx, .int .i64 el] 64)).heap.size) := Lib.hid (by simp)
  clear hk hkl HF0 ha hal hh
  have HD : Hid (decide (uses (grs rs) ⟨ps, ks, cells, is, res, keep, nodes, entry⟩ bd ⟨op, bop, d, e, a, b, f, cell, imm, args, nx, el⟩) = false) := Lib.hid (by
    rw [decide_eq_false_iff_not]
    unfold uses
    simp only []
    repeat rw [if_neg (by omega)]
    exact id)
  have g1 : (op == 1) = false := by simp; omega
  have g2 : (op == 2) = false := by simp; omega
  have g3 : (op == 3) = false := by simp; omega
  have g4 : (op == 4) = false := by simp; omega
  have g5 : (op == 5) = false := by simp; omega
  have g6 : (op == 6) = false := by simp; omega
  have g7 : (op == 7) = false := by simp; omega
  have g8 : (op == 8) = false := by simp; omega
  have g9 : (op == 9) = false := by simp; omega
  have g10 : (op == 10) = false := by simp; omega
  have g11 : (op == 11) = false := by simp; omega
  have g12 : (op == 12) = false := by simp; omega
  have g13 : (op == 13) = false := by simp; omega
  have g14 : (op == 14) = false := by simp; omega
  have g15 : (op == 15) = false := by simp; omega
  have g16 : (op == 16) = false := by simp; omega
  have g17 : (op == 17) = false := by simp; omega
  have g18 : (op == 18) = false := by simp; omega
  go_enter Tryd.func82, Tryd.ntmps82
  go_wp2
  go_ret
  exact ⟨by rw [HD.out]; rfl, HB2.out⟩
end Go.Proofs.YtmfdaeicbaibeaaDoor
