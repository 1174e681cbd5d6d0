/-
  The document's SameNode.
-/
import Derived.Test.YtihfihockobpjaaSi
import Derived.Test.YtihfihockobpjaaSk
namespace Go.Proofs.Ytihfihockobpjaa
set_option linter.unusedVariables false
set_option linter.unusedSimpArgs false
open Go.ChangeShapes Go.WideShapes Go.ChangeAt Go.RowKit

set_option maxRecDepth 100000 in
set_option maxHeartbeats 12800000 in
theorem rsn_any (B : Nat) (op bop d e a b f cell imm : Int) (args : List Int) (nx el : Int) (ao : Option Addr) (nA ac : Nat) (op' bop' d' e' a' b' f' cell' imm' : Int) (args' : List Int) (nx' el' : Int) (ao' : Option Addr) (nA' ac' : Nat) (w : World)
    (hr : Reads w B 1 ao nA (i64c args)) (hl : args.length = nA) (hb : nA ≤ 140737488351232) (hr' : Reads w B 1 ao' nA' (i64c args')) (hl' : args'.length = nA') (hb' : nA' ≤ 140737488351232) (hB : B ≤ w.heap.size) :
    Calls Try.prog 25 #[.agg #[.int .u8 op, .int .u8 bop, .int .i64 d, .int .i64 e, .int .i64 a, .int .i64 b, .int .i64 f, .int .i64 cell, .int .u64 imm, .slice ao nA ac, .int .i64 nx, .int .i64 el], .agg #[.int .u8 op', .int .u8 bop', .int .i64 d', .int .i64 e', .int .i64 a', .int .i64 b', .int .i64 f', .int .i64 cell', .int .u64 imm', .slice ao' nA' ac', .int .i64 nx', .int .i64 el']] w fun ee w' => ee = .returned (.bool (decide ((⟨op, bop, d, e, a, b, f, cell, imm, args, nx, el⟩ : Nd) = (⟨op', bop', d', e', a', b', f', cell', imm', args', nx', el'⟩ : Nd)))) ∧ Below w.heap.size w w' := by
  have HB2 : Hid (Below w.heap.size w ((w.alloc (.cells #[.int .u8 op, .int .u8 bop, .int .i64 d, .int .i64 e, .int .i64 a, .int .i64 b, .int .i64 f, .int .i64 cell, .int .u64 imm, .slice ao nA ac, .int .i64 nx, .int .i64 el] 38)).alloc (.cells #[.int .u8 op', .int .u8 bop', .int .i64 d', .int .i64 e', .int .i64 a', .int .i64 b', .int .i64 f', .int .i64 cell', .int .u64 imm', .slice ao' nA' ac', .int .i64 nx', .int .i64 el'] 38))) := ((Below.refl _ _).alloc (Nat.le_refl _) _).alloc (by simp) _
  have HR := Lib.hid (hr.below (HB2.out.mono hB))
  have HR' := Lib.hid (hr'.below (HB2.out.mono hB))
  have HL := Lib.hid hl
  have HL' := Lib.hid hl'
  clear hr hr' hl hl'
  by_cases c0 : op = op'
  rotate_left
  · have HD : Hid (decide ((⟨op, bop, d, e, a, b, f, cell, imm, args, nx, el⟩ : Nd) = (⟨op', bop', d', e', a', b', f', cell', imm', args', nx', el'⟩ : Nd)) = false) := Lib.hid (decide_eq_false fun h => c0 (congrArg Nd.op h))
    have g0 : (op == op') = false := by simpa using c0
    clear c0 
    go_enter Try.func25, Try.ntmps25
    go_wp2
    go_ret
    exact ⟨by rw [HD.out]; rfl, HB2.out⟩
  have g0 : (op == op') = true := by simpa using c0
  by_cases c1 : bop = bop'
  rotate_left
  · have HD : Hid (decide ((⟨op, bop, d, e, a, b, f, cell, imm, args, nx, el⟩ : Nd) = (⟨op', bop', d', e', a', b', f', cell', imm', args', nx', el'⟩ : Nd)) = false) := Lib.hid (decide_eq_false fun h => c1 (congrArg Nd.bop h))
    have g1 : (bop == bop') = false := by simpa using c1
    clear c1 c0
    go_enter Try.func25, Try.ntmps25
    go_wp2
    go_ret
    exact ⟨by rw [HD.out]; rfl, HB2.out⟩
  have g1 : (bop == bop') = true := by simpa using c1
  by_cases c2 : d = d'
  rotate_left
  · have HD : Hid (decide ((⟨op, bop, d, e, a, b, f, cell, imm, args, nx, el⟩ : Nd) = (⟨op', bop', d', e', a', b', f', cell', imm', args', nx', el'⟩ : Nd)) = false) := Lib.hid (decide_eq_false fun h => c2 (congrArg Nd.d h))
    have g2 : (d == d') = false := by simpa using c2
    clear c2 c0 c1
    go_enter Try.func25, Try.ntmps25
    go_wp2
    go_ret
    exact ⟨by rw [HD.out]; rfl, HB2.out⟩
  have g2 : (d == d') = true := by simpa using c2
  by_cases c3 : e = e'
  rotate_left
  · have HD : Hid (decide ((⟨op, bop, d, e, a, b, f, cell, imm, args, nx, el⟩ : Nd) = (⟨op', bop', d', e', a', b', f', cell', imm', args', nx', el'⟩ : Nd)) = false) := Lib.hid (decide_eq_false fun h => c3 (congrArg Nd.e h))
    have g3 : (e == e') = false := by simpa using c3
    clear c3 c0 c1 c2
    go_enter Try.func25, Try.ntmps25
    go_wp2
    go_ret
    exact ⟨by rw [HD.out]; rfl, HB2.out⟩
  have g3 : (e == e') = true := by simpa using c3
  by_cases c4 : a = a'
  rotate_left
  · have HD : Hid (decide ((⟨op, bop, d, e, a, b, f, cell, imm, args, nx, el⟩ : Nd) = (⟨op', bop', d', e', a', b', f', cell', imm', args', nx', el'⟩ : Nd)) = false) := Lib.hid (decide_eq_false fun h => c4 (congrArg Nd.a h))
    have g4 : (a == a') = false := by simpa using c4
    clear c4 c0 c1 c2 c3
    go_enter Try.func25, Try.ntmps25
    go_wp2
    go_ret
    exact ⟨by rw [HD.out]; rfl, HB2.out⟩
  have g4 : (a == a') = true := by simpa using c4
  by_cases c5 : b = b'
  rotate_left
  · have HD : Hid (decide ((⟨op, bop, d, e, a, b, f, cell, imm, args, nx, el⟩ : Nd) = (⟨op', bop', d', e', a', b', f', cell', imm', args', nx', el'⟩ : Nd)) = false) := Lib.hid (decide_eq_false fun h => c5 (congrArg Nd.b h))
    have g5 : (b == b') = false := by simpa using c5
    clear c5 c0 c1 c2 c3 c4
    go_enter Try.func25, Try.ntmps25
    go_wp2
    go_ret
    exact ⟨by rw [HD.out]; rfl, HB2.out⟩
  have g5 : (b == b') = true := by simpa using c5
  by_cases c6 : f = f'
  rotate_left
  · have HD : Hid (decide ((⟨op, bop, d, e, a, b, f, cell, imm, args, nx, el⟩ : Nd) = (⟨op', bop', d', e', a', b', f', cell', imm', args', nx', el'⟩ : Nd)) = false) := Lib.hid (decide_eq_false fun h => c6 (congrArg Nd.f h))
    have g6 : (f == f') = false := by simpa using c6
    clear c6 c0 c1 c2 c3 c4 c5
    go_enter Try.func25, Try.ntmps25
    go_wp2
    go_ret
    exact ⟨by rw [HD.out]; rfl, HB2.out⟩
  have g6 : (f == f') = true := by simpa using c6
  by_cases c7 : cell = cell'
  rotate_left
  · have HD : Hid (decide ((⟨op, bop, d, e, a, b, f, cell, imm, args, nx, el⟩ : Nd) = (⟨op', bop', d', e', a', b', f', cell', imm', args', nx', el'⟩ : Nd)) = false) := Lib.hid (decide_eq_false fun h => c7 (congrArg Nd.cell h))
    have g7 : (cell == cell') = false := by simpa using c7
    clear c7 c0 c1 c2 c3 c4 c5 c6
    go_enter Try.func25, Try.ntmps25
    go_wp2
    go_ret
    exact ⟨by rw [HD.out]; rfl, HB2.out⟩
  have g7 : (cell == cell') = true := by simpa using c7
  by_cases c8 : imm = imm'
  rotate_left
  · have HD : Hid (decide ((⟨op, bop, d, e, a, b, f, cell, imm, args, nx, el⟩ : Nd) = (⟨op', bop', d', e', a', b', f', cell', imm', args', nx', el'⟩ : Nd)) = false) := Lib.hid (decide_eq_false fun h => c8 (congrArg Nd.imm h))
    have g8 : (imm == imm') = false := by simpa using c8
    clear c8 c0 c1 c2 c3 c4 c5 c6 c7
    go_enter Try.func25, Try.ntmps25
    go_wp2
    go_ret
    exact ⟨by rw [HD.out]; rfl, HB2.out⟩
  have g8 : (imm == imm') = true := by simpa using c8
  by_cases c10 : nx = nx'
  rotate_left
  · have HD : Hid (decide ((⟨op, bop, d, e, a, b, f, cell, imm, args, nx, el⟩ : Nd) = (⟨op', bop', d', e', a', b', f', cell', imm', args', nx', el'⟩ : Nd)) = false) := Lib.hid (decide_eq_false fun h => c10 (congrArg Nd.next h))
    have g10 : (nx == nx') = false := by simpa using c10
    clear c10 c0 c1 c2 c3 c4 c5 c6 c7 c8
    go_enter Try.func25, Try.ntmps25
    go_wp2
    go_ret
    exact ⟨by rw [HD.out]; rfl, HB2.out⟩
  have g10 : (nx == nx') = true := by simpa using c10
  by_cases c11 : el = el'
  rotate_left
  · have HD : Hid (decide ((⟨op, bop, d, e, a, b, f, cell, imm, args, nx, el⟩ : Nd) = (⟨op', bop', d', e', a', b', f', cell', imm', args', nx', el'⟩ : Nd)) = false) := Lib.hid (decide_eq_false fun h => c11 (congrArg Nd.els h))
    have g11 : (el == el') = false := by simpa using c11
    clear c11 c0 c1 c2 c3 c4 c5 c6 c7 c8 c10
    go_enter Try.func25, Try.ntmps25
    go_wp2
    go_ret
    exact ⟨by rw [HD.out]; rfl, HB2.out⟩
  have g11 : (el == el') = true := by simpa using c11
  by_cases c9 : args = args'
  rotate_left
  · have HD : Hid (decide ((⟨op, bop, d, e, a, b, f, cell, imm, args, nx, el⟩ : Nd) = (⟨op', bop', d', e', a', b', f', cell', imm', args', nx', el'⟩ : Nd)) = false) := Lib.hid (decide_eq_false fun h => c9 (congrArg Nd.args h))
    have HQ : Hid (decide (args = args') = false) := Lib.hid (decide_eq_false c9)
    clear c9 c0 c1 c2 c3 c4 c5 c6 c7 c8 c10 c11
    go_enter Try.func25, Try.ntmps25
    go_wp2_with (first | (go_at_call 12; refine (rsi_any B ao ao' nA nA' ac ac' args args' _ HR.out HR'.out HL.out HL'.out hb hb').mono ?_; rintro ee w2 ⟨rfl, q, rfl⟩; rw [HQ.out]))
    go_ret
    exact ⟨by rw [HD.out]; rfl, below_drewN HB2.out q⟩
  have HQ : Hid (decide (args = args') = true) := Lib.hid (decide_eq_true c9)
  have HD : Hid (decide ((⟨op, bop, d, e, a, b, f, cell, imm, args, nx, el⟩ : Nd) = (⟨op', bop', d', e', a', b', f', cell', imm', args', nx', el'⟩ : Nd)) = true) := Lib.hid (decide_eq_true (by rw [c0, c1, c2, c3, c4, c5, c6, c7, c8, c9, c10, c11]))
  clear c0 c1 c2 c3 c4 c5 c6 c7 c8 c9 c10 c11
  go_enter Try.func25, Try.ntmps25
  go_wp2_with (first | (go_at_call 12; refine (rsi_any B ao ao' nA nA' ac ac' args args' _ HR.out HR'.out HL.out HL'.out hb hb').mono ?_; rintro ee w2 ⟨rfl, q, rfl⟩; rw [HQ.out]))
  go_ret
  exact ⟨by rw [HD.out]; rfl, below_drewN HB2.out q⟩
end Go.Proofs.Ytihfihockobpjaa
