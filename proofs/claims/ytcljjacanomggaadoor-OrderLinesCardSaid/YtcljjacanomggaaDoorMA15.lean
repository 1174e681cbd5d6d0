/-
  Texts of one seat, one behind the other: ONx, Open, LVars.
-/
import Derived.Deep.Slices
import Derived.Deep.Fields
import Derived.ChangeSame
import Derived.Lib.SmallJoins
import Derived.OpenShut
import Derived.ShutString
import Derived.SizedLaws
import Derived.Lib.LaidTab
import Derived.Test.YtcljjacanomggaaDoorMA5
import Derived.Test.YtcljjacanomggaaDoorMA11
import Derived.Test.YtcljjacanomggaaDoorMA2
import Derived.Test.YtcljjacanomggaaDoorMA4

/-
  The document's Next: the answer is a row of the call's own.
-/
namespace Go.Proofs.YtcljjacanomggaaDoor
set_option linter.unusedVariables false
set_option linter.unusedSimpArgs false
open Go.ChangeShapes Go.WideShapes Go.ChangeAt Go.RowKit

set_option maxRecDepth 100000 in
set_option maxHeartbeats 6400000 in
theorem rnext_own (op bop d e a b f cell imm : Int) (args : List Int) (nx el : Int) (ao : Option Addr) (nA ac : Nat) (w : World) (ho0 : 0 ≤ op) (ho1 : op ≤ 255) :
    Calls Tryd.prog 14 #[.agg #[.int .u8 op, .int .u8 bop, .int .i64 d, .int .i64 e, .int .i64 a, .int .i64 b, .int .i64 f, .int .i64 cell, .int .u64 imm, .slice ao nA ac, .int .i64 nx, .int .i64 el]] w (NewO w (nextsOf ⟨op, bop, d, e, a, b, f, cell, imm, args, nx, el⟩)) := by
  have HW1 : Hid (Below w.heap.size w (w.alloc (.cells #[.int .u8 op, .int .u8 bop, .int .i64 d, .int .i64 e, .int .i64 a, .int .i64 b, .int .i64 f, .int .i64 cell, .int .u64 imm, .slice ao nA ac, .int .i64 nx, .int .i64 el] 50))) := (Below.refl _ _).alloc (Nat.le_refl _) _
  have hz1 : (w.alloc (.cells #[.int .u8 op, .int .u8 bop, .int .i64 d, .int .i64 e, .int .i64 a, .int .i64 b, .int .i64 f, .int .i64 cell, .int .u64 imm, .slice ao nA ac, .int .i64 nx, .int .i64 el] 50)).heap.size = w.heap.size + 1 := by simp
  rcases op_cases ho0 ho1 with rfl | rfl | rfl | rfl | rfl | rfl | rfl | rfl | rfl | rfl | rfl | rfl | rfl | rfl | rfl | rfl | rfl | rfl | hop
  · have HLR := Lib.hid (lit_own (w.alloc (.cells #[.int .u8 1, .int .u8 bop, .int .i64 d, .int .i64 e, .int .i64 a, .int .i64 b, .int .i64 f, .int .i64 cell, .int .u64 imm, .slice ao nA ac, .int .i64 nx, .int .i64 el] 50)) 3 (i64c [nx]) 1 rfl)
    have HW2 : Hid (Below w.heap.size w ((w.alloc (.cells #[.int .u8 1, .int .u8 bop, .int .i64 d, .int .i64 e, .int .i64 a, .int .i64 b, .int .i64 f, .int .i64 cell, .int .u64 imm, .slice ao nA ac, .int .i64 nx, .int .i64 el] 50)).alloc (.cells #[.int .i64 nx] 3))) := HW1.out.alloc (by simp) _
    rw [hz1] at HLR
    go_enter Tryd.func14, Tryd.ntmps14
    go_wp2
    go_ret
    exact NewO.mk2 (l := [nx]) rfl rfl HLR.out (by omega) (Nat.le_refl _) HW2.out
  · have HLR := Lib.hid (lit_own (w.alloc (.cells #[.int .u8 2, .int .u8 bop, .int .i64 d, .int .i64 e, .int .i64 a, .int .i64 b, .int .i64 f, .int .i64 cell, .int .u64 imm, .slice ao nA ac, .int .i64 nx, .int .i64 el] 50)) 3 (i64c [nx]) 1 rfl)
    have HW2 : Hid (Below w.heap.size w ((w.alloc (.cells #[.int .u8 2, .int .u8 bop, .int .i64 d, .int .i64 e, .int .i64 a, .int .i64 b, .int .i64 f, .int .i64 cell, .int .u64 imm, .slice ao nA ac, .int .i64 nx, .int .i64 el] 50)).alloc (.cells #[.int .i64 nx] 3))) := HW1.out.alloc (by simp) _
    rw [hz1] at HLR
    go_enter Tryd.func14, Tryd.ntmps14
    go_wp2
    go_ret
    exact NewO.mk2 (l := [nx]) rfl rfl HLR.out (by omega) (Nat.le_refl _) HW2.out
  · have HLR := Lib.hid (lit_own (w.alloc (.cells #[.int .u8 3, .int .u8 bop, .int .i64 d, .int .i64 e, .int .i64 a, .int .i64 b, .int .i64 f, .int .i64 cell, .int .u64 imm, .slice ao nA ac, .int .i64 nx, .int .i64 el] 50)) 3 (i64c [nx]) 1 rfl)
    have HW2 : Hid (Below w.heap.size w ((w.alloc (.cells #[.int .u8 3, .int .u8 bop, .int .i64 d, .int .i64 e, .int .i64 a, .int .i64 b, .int .i64 f, .int .i64 cell, .int .u64 imm, .slice ao nA ac, .int .i64 nx, .int .i64 el] 50)).alloc (.cells #[.int .i64 nx] 3))) := HW1.out.alloc (by simp) _
    rw [hz1] at HLR
    go_enter Tryd.func14, Tryd.ntmps14
    go_wp2
    go_ret
    exact NewO.mk2 (l := [nx]) rfl rfl HLR.out (by omega) (Nat.le_refl _) HW2.out
  · have HLR := Lib.hid (lit_own (w.alloc (.cells #[.int .u8 4, .int .u8 bop, .int .i64 d, .int .i64 e, .int .i64 a, .int .i64 b, .int .i64 f, .int .i64 cell, .int .u64 imm, .slice ao nA ac, .int .i64 nx, .int .i64 el] 50)) 3 (i64c [nx]) 1 rfl)
    have HW2 : Hid (Below w.heap.size w ((w.alloc (.cells #[.int .u8 4, .int .u8 bop, .int .i64 d, .int .i64 e, .int .i64 a, .int .i64 b, .int .i64 f, .int .i64 cell, .int .u64 imm, .slice ao nA ac, .int .i64 nx, .int .i64 el] 50)).alloc (.cells #[.int .i64 nx] 3))) := HW1.out.alloc (by simp) _
    rw [hz1] at HLR
    go_enter Tryd.func14, Tryd.ntmps14
    go_wp2
    go_ret
    exact NewO.mk2 (l := [nx]) rfl rfl HLR.out (by omega) (Nat.le_refl _) HW2.out
  · have HLR := Lib.hid (lit_own (w.alloc (.cells #[.int .u8 5, .int .u8 bop, .int .i64 d, .int .i64 e, .int .i64 a, .int .i64 b, .int .i64 f, .int .i64 cell, .int .u64 imm, .slice ao nA ac, .int .i64 nx, .int .i64 el] 50)) 3 (i64c [nx]) 1 rfl)
    have HW2 : Hid (Below w.heap.size w ((w.alloc (.cells #[.int .u8 5, .int .u8 bop, .int .i64 d, .int .i64 e, .int .i64 a, .int .i64 b, .int .i64 f, .int .i64 cell, .int .u64 imm, .slice ao nA ac, .int .i64 nx, .int .i64 el] 50)).alloc (.cells #[.int .i64 nx] 3))) := HW1.out.alloc (by simp) _
    rw [hz1] at HLR
    go_enter Tryd.func14, Tryd.ntmps14
    go_wp2
    go_ret
    exact NewO.mk2 (l := [nx]) rfl rfl HLR.out (by omega) (Nat.le_refl _) HW2.out
  · have HLR := Lib.hid (lit_own (w.alloc (.cells #[.int .u8 6, .int .u8 bop, .int .i64 d, .int .i64 e, .int .i64 a, .int .i64 b, .int .i64 f, .int .i64 cell, .int .u64 imm, .slice ao nA ac, .int .i64 nx, .int .i64 el] 50)) 3 (i64c [nx]) 1 rfl)
    have HW2 : Hid (Below w.heap.size w ((w.alloc (.cells #[.int .u8 6, .int .u8 bop, .int .i64 d, .int .i64 e, .int .i64 a, .int .i64 b, .int .i64 f, .int .i64 cell, .int .u64 imm, .slice ao nA ac, .int .i64 nx, .int .i64 el] 50)).alloc (.cells #[.int .i64 nx] 3))) := HW1.out.alloc (by simp) _
    rw [hz1] at HLR
    go_enter Tryd.func14, Tryd.ntmps14
    go_wp2
    go_ret
    exact NewO.mk2 (l := [nx]) rfl rfl HLR.out (by omega) (Nat.le_refl _) HW2.out
  · have HLR := Lib.hid (lit_own (w.alloc (.cells #[.int .u8 7, .int .u8 bop, .int .i64 d, .int .i64 e, .int .i64 a, .int .i64 b, .int .i64 f, .int .i64 cell, .int .u64 imm, .slice ao nA ac, .int .i64 nx, .int .i64 el] 50)) 3 (i64c [nx]) 1 rfl)
    have HW2 : Hid (Below w.heap.size w ((w.alloc (.cells #[.int .u8 7, .int .u8 bop, .int .i64 d, .int .i64 e, .int .i64 a, .int .i64 b, .int .i64 f, .int .i64 cell, .int .u64 imm, .slice ao nA ac, .int .i64 nx, .int .i64 el] 50)).alloc (.cells #[.int .i64 nx] 3))) := HW1.out.alloc (by simp) _
    rw [hz1] at HLR
    go_enter Tryd.func14, Tryd.ntmps14
    go_wp2
    go_ret
    exact NewO.mk2 (l := [nx]) rfl rfl HLR.out (by omega) (Nat.le_refl _) HW2.out
  · have HLR := Lib.hid (lit_own (w.alloc (.cells #[.int .u8 8, .int .u8 bop, .int .i64 d, .int .i64 e, .int .i64 a, .int .i64 b, .int .i64 f, .int .i64 cell, .int .u64 imm, .slice ao nA ac, .int .i64 nx, .int .i64 el] 50)) 3 (i64c [nx]) 1 rfl)
    have HW2 : Hid (Below w.heap.size w ((w.alloc (.cells #[.int .u8 8, .int .u8 bop, .int .i64 d, .int .i64 e, .int .i64 a, .int .i64 b, .int .i64 f, .int .i64 cell, .int .u64 imm, .slice ao nA ac, .int .i64 nx, .int .i64 el] 50)).alloc (.cells #[.int .i64 nx] 3))) := HW1.out.alloc (by simp) _
    rw [hz1] at HLR
    go_enter Tryd.func14, Tryd.ntmps14
    go_wp2
    go_ret
    exact NewO.mk2 (l := [nx]) rfl rfl HLR.out (by omega) (Nat.le_refl _) HW2.out
  · by_cases hne : el = nx
    · have hg : (el != nx) = false := by simpa using hne
      have HE := Lib.hid hne
      clear hne
      have HLR := Lib.hid (lit_own (w.alloc (.cells #[.int .u8 9, .int .u8 bop, .int .i64 d, .int .i64 e, .int .i64 a, .int .i64 b, .int .i64 f, .int .i64 cell, .int .u64 imm, .slice ao nA ac, .int .i64 nx, .int .i64 el] 50)) 3 (i64c [nx]) 1 rfl)
      have HW2 : Hid (Below w.heap.size w ((w.alloc (.cells #[.int .u8 9, .int .u8 bop, .int .i64 d, .int .i64 e, .int .i64 a, .int .i64 b, .int .i64 f, .int .i64 cell, .int .u64 imm, .slice ao nA ac, .int .i64 nx, .int .i64 el] 50)).alloc (.cells #[.int .i64 nx] 3))) := HW1.out.alloc (by simp) _
      rw [hz1] at HLR
      go_enter Tryd.func14, Tryd.ntmps14
      go_wp2
      go_ret
      exact NewO.mk2 (l := [nx]) (by unfold nextsOf; simp [HE.out]) rfl HLR.out (by omega) (Nat.le_refl _) HW2.out
    · have hg : (el != nx) = true := by simpa using hne
      have HE := Lib.hid hne
      clear hne
      have HLR := Lib.hid (lit_own (w.alloc (.cells #[.int .u8 9, .int .u8 bop, .int .i64 d, .int .i64 e, .int .i64 a, .int .i64 b, .int .i64 f, .int .i64 cell, .int .u64 imm, .slice ao nA ac, .int .i64 nx, .int .i64 el] 50)) 3 (i64c [nx, el]) 2 rfl)
      have HW2 : Hid (Below w.heap.size w ((w.alloc (.cells #[.int .u8 9, .int .u8 bop, .int .i64 d, .int .i64 e, .int .i64 a, .int .i64 b, .int .i64 f, .int .i64 cell, .int .u64 imm, .slice ao nA ac, .int .i64 nx, .int .i64 el] 50)).alloc (.cells #[.int .i64 nx, .int .i64 el] 3))) := HW1.out.alloc (by simp) _
      rw [hz1] at HLR
      go_enter Tryd.func14, Tryd.ntmps14
      go_wp2
      go_ret
      exact NewO.mk2 (l := [nx, el]) (by unfold nextsOf; simp [HE.out]) rfl HLR.out (by omega) (Nat.le_refl _) HW2.out
  · have HLR := Lib.hid (lit_own (w.alloc (.cells #[.int .u8 10, .int .u8 bop, .int .i64 d, .int .i64 e, .int .i64 a, .int .i64 b, .int .i64 f, .int .i64 cell, .int .u64 imm, .slice ao nA ac, .int .i64 nx, .int .i64 el] 50)) 3 (i64c [nx]) 1 rfl)
    have HW2 : Hid (Below w.heap.size w ((w.alloc (.cells #[.int .u8 10, .int .u8 bop, .int .i64 d, .int .i64 e, .int .i64 a, .int .i64 b, .int .i64 f, .int .i64 cell, .int .u64 imm, .slice ao nA ac, .int .i64 nx, .int .i64 el] 50)).alloc (.cells #[.int .i64 nx] 3))) := HW1.out.alloc (by simp) _
    rw [hz1] at HLR
    go_enter Tryd.func14, Tryd.ntmps14
    go_wp2
    go_ret
    exact NewO.mk2 (l := [nx]) rfl rfl HLR.out (by omega) (Nat.le_refl _) HW2.out
  · have HLR := Lib.hid (lit_own (w.alloc (.cells #[.int .u8 11, .int .u8 bop, .int .i64 d, .int .i64 e, .int .i64 a, .int .i64 b, .int .i64 f, .int .i64 cell, .int .u64 imm, .slice ao nA ac, .int .i64 nx, .int .i64 el] 50)) 3 (i64c [nx]) 1 rfl)
    have HW2 : Hid (Below w.heap.size w ((w.alloc (.cells #[.int .u8 11, .int .u8 bop, .int .i64 d, .int .i64 e, .int .i64 a, .int .i64 b, .int .i64 f, .int .i64 cell, .int .u64 imm, .slice ao nA ac, .int .i64 nx, .int .i64 el] 50)).alloc (.cells #[.int .i64 nx] 3))) := HW1.out.alloc (by simp) _
    rw [hz1] at HLR
    go_enter Tryd.func14, Tryd.ntmps14
    go_wp2
    go_ret
    exact NewO.mk2 (l := [nx]) rfl rfl HLR.out (by omega) (Nat.le_refl _) HW2.out
  · go_enter Tryd.func14, Tryd.ntmps14
    go_wp2
    go_ret
    exact NewO.mk2 (l := []) rfl rfl (own_none _ w.heap.size _ _) (Nat.le_refl _) (Nat.le_refl _) HW1.out
  · have HLR := Lib.hid (lit_own (w.alloc (.cells #[.int .u8 13, .int .u8 bop, .int .i64 d, .int .i64 e, .int .i64 a, .int .i64 b, .int .i64 f, .int .i64 cell, .int .u64 imm, .slice ao nA ac, .int .i64 nx, .int .i64 el] 50)) 3 (i64c [nx]) 1 rfl)
    have HW2 : Hid (Below w.heap.size w ((w.alloc (.cells #[.int .u8 13, .int .u8 bop, .int .i64 d, .int .i64 e, .int .i64 a, .int .i64 b, .int .i64 f, .int .i64 cell, .int .u64 imm, .slice ao nA ac, .int .i64 nx, .int .i64 el] 50)).alloc (.cells #[.int .i64 nx] 3))) := HW1.out.alloc (by simp) _
    rw [hz1] at HLR
    go_enter Tryd.func14, Tryd.ntmps14
    go_wp2
    go_ret
    exact NewO.mk2 (l := [nx]) rfl rfl HLR.out (by omega) (Nat.le_refl _) HW2.out
  · go_enter Tryd.func14, Tryd.ntmps14
    go_wp2
    go_ret
    exact NewO.mk2 (l := []) rfl rfl (own_none _ w.heap.size _ _) (Nat.le_refl _) (Nat.le_refl _) HW1.out
  · have HLR := Lib.hid (lit_own (w.alloc (.cells #[.int .u8 15, .int .u8 bop, .int .i64 d, .int .i64 e, .int .i64 a, .int .i64 b, .int .i64 f, .int .i64 cell, .int .u64 imm, .slice ao nA ac, .int .i64 nx, .int .i64 el] 50)) 3 (i64c [nx]) 1 rfl)
    have HW2 : Hid (Below w.heap.size w ((w.alloc (.cells #[.int .u8 15, .int .u8 bop, .int .i64 d, .int .i64 e, .int .i64 a, .int .i64 b, .int .i64 f, .int .i64 cell, .int .u64 imm, .slice ao nA ac, .int .i64 nx, .int .i64 el] 50)).alloc (.cells #[.int .i64 nx] 3))) := HW1.out.alloc (by simp) _
    rw [hz1] at HLR
    go_enter Tryd.func14, Tryd.ntmps14
    go_wp2
    go_ret
    exact NewO.mk2 (l := [nx]) rfl rfl HLR.out (by omega) (Nat.le_refl _) HW2.out
  · have HLR := Lib.hid (lit_own (w.alloc (.cells #[.int .u8 16, .int .u8 bop, .int .i64 d, .int .i64 e, .int .i64 a, .int .i64 b, .int .i64 f, .int .i64 cell, .int .u64 imm, .slice ao nA ac, .int .i64 nx, .int .i64 el] 50)) 3 (i64c [nx]) 1 rfl)
    have HW2 : Hid (Below w.heap.size w ((w.alloc (.cells #[.int .u8 16, .int .u8 bop, .int .i64 d, .int .i64 e, .int .i64 a, .int .i64 b, .int .i64 f, .int .i64 cell, .int .u64 imm, .slice ao nA ac, .int .i64 nx, .int .i64 el] 50)).alloc (.cells #[.int .i64 nx] 3))) := HW1.out.alloc (by simp) _
    rw [hz1] at HLR
    go_enter Tryd.func14, Tryd.ntmps14
    go_wp2
    go_ret
    exact NewO.mk2 (l := [nx]) rfl rfl HLR.out (by omega) (Nat.le_refl _) HW2.out
  · have HLR := Lib.hid (lit_own (w.alloc (.cells #[.int .u8 17, .int .u8 bop, .int .i64 d, .int .i64 e, .int .i64 a, .int .i64 b, .int .i64 f, .int .i64 cell, .int .u64 imm, .slice ao nA ac, .int .i64 nx, .int .i64 el] 50)) 3 (i64c [nx]) 1 rfl)
    have HW2 : Hid (Below w.heap.size w ((w.alloc (.cells #[.int .u8 17, .int .u8 bop, .int .i64 d, .int .i64 e, .int .i64 a, .int .i64 b, .int .i64 f, .int .i64 cell, .int .u64 imm, .slice ao nA ac, .int .i64 nx, .int .i64 el] 50)).alloc (.cells #[.int .i64 nx] 3))) := HW1.out.alloc (by simp) _
    rw [hz1] at HLR
    go_enter Tryd.func14, Tryd.ntmps14
    go_wp2
    go_ret
    exact NewO.mk2 (l := [nx]) rfl rfl HLR.out (by omega) (Nat.le_refl _) HW2.out
  · go_enter Tryd.func14, Tryd.ntmps14
    go_wp2
    go_ret
    exact NewO.mk2 (l := []) rfl rfl (own_none _ w.heap.size _ _) (Nat.le_refl _) (Nat.le_refl _) HW1.out
  · have HLL : Hid (nextsOf ⟨op, bop, d, e, a, b, f, cell, imm, args, nx, el⟩ = []) := Lib.hid (by unfold nextsOf; rw [if_pos]; show op < 1 ∨ 18 < op ∨ op = 12 ∨ op = 14 ∨ op = 18; omega)
    have g12 : (op == 12) = false := by simp; omega
    have g14 : (op == 14) = false := by simp; omega
    have g18 : (op == 18) = false := by simp; omega
    have g9 : (op == 9) = false := by simp; omega
    have q1 : decide (op ≥ 1) = true ∧ decide (op ≤ 18) = false ∨ decide (op ≥ 1) = false := by simp; omega
    have q2 : decide (op < 1) = true ∨ decide (op < 1) = false ∧ decide (op > 18) = true := by simp; omega
    rcases q1 with ⟨q1, q1'⟩ | q1 <;> rcases q2 with q2 | ⟨q2, q2'⟩
    all_goals
      go_enter Tryd.func14, Tryd.ntmps14
      go_wp2
      go_ret
      exact NewO.mk2 HLL.out.symm rfl (own_none _ w.heap.size _ _) (Nat.le_refl _) (Nat.le_refl _) HW1.out
end Go.Proofs.YtcljjacanomggaaDoor

/-
  The statements' arguments opened: graphs, nodes, numbers (the law on slices of structs is the guide's extra-structs, copied as its page says).
-/
namespace Go.Proofs.YtcljjacanomggaaDoor
set_option linter.unusedVariables false
open Go.ChangeShapes Go.WideShapes Go.ChangeAt Go.RowKit Go.Joins
open Go.Deep
section
variable {H : Type} {enc : TypeId × Value → H} {P : Program} {w : World} {base : Nat} {spare : Nat → Bool} {held : Bool}
theorem open_slice_fields {t e : TypeId} {fs : Array Field} {fuel : Nat} {cs : List Value} {x : DataW H × List MemPlace} (ht : P.underlying t = some (.slice e)) (he : P.underlying e = some (.struct fs))
    (hone : oneCellFields P fs = true) (hC : P.cellsOf e = fs.size) (h : DataW.trod enc P w base spare held fuel t cs = some x) :
    (cs = [.slice none 0 0] ∧ x = (.nil, [])) ∨
    ∃ (a : Addr) (len cap m : Nat) (D : Nat → DataW H) (Pl : Nat → List MemPlace), cs = [.slice (some a) len cap] ∧ base ≤ a.block ∧ len ≤ cap ∧ cap ≤ maxLen ∧ m = (if spare a.block then cap else len) ∧
      x = (.slice ((List.range len).map D) ((List.range (m - len)).map fun j => D (len + j)), MemPlace.row a (m * fs.size) ++ (List.range m).flatMap Pl) ∧
      ∀ i, i < m → ∃ (ys : List (DataW H × List MemPlace)) (n : Nat), D i = .agg (ys.map (·.1)) ∧ Pl i = ys.flatMap (·.2) ∧ ys.length = fs.size ∧
        ∀ (j : Nat) (f : Field), fs[j]? = some f → ∃ (v : Value) (y : DataW H × List MemPlace), w.cell? (a.add (i * fs.size + j)) = some v ∧ ys[j]? = some y ∧ DataW.trod enc P w base spare held n f.type [v] = some y := by
  rcases open_slice ht h with h0 | ⟨a, len, cap, m, n, D, Pl, hcs, hb, hl, hm, hmm, hx, hi⟩
  · exact .inl h0
  · refine .inr ⟨a, len, cap, m, D, Pl, hcs, hb, hl, hm, hmm, by rw [hC] at hx; exact hx, fun i him => ?_⟩
    obtain ⟨cs', hc, ht'⟩ := hi i him
    rw [hC] at hc
    obtain ⟨ys, n', hn', hy, hlen, hyl, hf⟩ := DataW.trod_struct he ht'
    obtain ⟨_, hcl, hat⟩ := World.cells?_some hc
    simp only [Prod.mk.injEq] at hy
    refine ⟨ys, n', hy.1, hy.2, hyl, fun j f hj => ?_⟩
    obtain ⟨ho, hk⟩ := hone_of hone j f hj
    have hjl : j < fs.size := (Array.getElem?_eq_some_iff.1 hj).1
    have hcell := hat j hjl
    have hv : cs'[j]? = some (cs'[j]'(by omega)) := List.getElem?_eq_getElem (by omega)
    have h1 := hf j f hj
    rw [ho, hk] at h1
    have hone' : (cs'.drop j).take 1 = [cs'[j]'(by omega)] := by
      rw [List.drop_eq_getElem_cons (by omega)]
      rfl
    rw [hone'] at h1
    have hys : ys[j]? = some (ys[j]'(by omega)) := List.getElem?_eq_getElem (by omega)
    refine ⟨_, _, ?_, hys, h1.trans hys⟩
    rw [← Go.Deep.add_add, hcell, hv]
end

theorem row_of {α : Type} {P : Nat → α → Prop} : ∀ (n : Nat), (∀ i, i < n → ∃ x, P i x) → ∃ l : List α, l.length = n ∧ ∀ (i : Nat) (x : α), l[i]? = some x → P i x
  | 0, _ => ⟨[], rfl, fun i x h => by simp at h⟩
  | n + 1, h => by
    obtain ⟨l, hl, hP⟩ := row_of n fun i hi => h i (by omega)
    obtain ⟨x, hx⟩ := h n (by omega)
    refine ⟨l ++ [x], by simp [hl], fun i y hy => ?_⟩
    rcases Nat.lt_trichotomy i n with h1 | h1 | h1
    · rw [List.getElem?_append_left (by omega)] at hy
      exact hP i y hy
    · subst h1
      rw [List.getElem?_append_right (by omega)] at hy
      simp [hl] at hy
      subst hy
      exact hx
    · rw [List.getElem?_eq_none (by simp; omega)] at hy
      cases hy

theorem wf_i64 {n : Int} (h : (Lit.int .i64 n).wf = true) : -9223372036854775808 ≤ n ∧ n ≤ 9223372036854775807 := by
  simp [Lit.wf, IntKind.min, IntKind.max, IntKind.signed, IntKind.bits] at h
  exact h
theorem wf_u64 {n : Int} (h : (Lit.int .u64 n).wf = true) : 0 ≤ n ∧ n < 18446744073709551616 := by
  simp [Lit.wf, IntKind.min, IntKind.max, IntKind.signed, IntKind.bits] at h
  omega

theorem wf_u8 {n : Int} (h : (Lit.int .u8 n).wf = true) : 0 ≤ n ∧ n ≤ 255 := by
  simp [Lit.wf, IntKind.min, IntKind.max, IntKind.signed, IntKind.bits] at h
  omega
theorem flat_inv {α : Type} (f : α → List Value) (m : Nat) (hm : 0 < m) (hf : ∀ x, (f x).length = m) (l : List α) (j : Nat) (u : Value) (h : (l.flatMap f)[j]? = some u) : ∃ i x k, l[i]? = some x ∧ k < m ∧ j = i * m + k ∧ (f x)[k]? = some u := by
  induction l generalizing j with
  | nil => simp at h
  | cons y l ih =>
    rw [List.flatMap_cons] at h
    by_cases hj : j < m
    · rw [List.getElem?_append_left (by rw [hf]; exact hj)] at h
      exact ⟨0, y, j, rfl, hj, by omega, h⟩
    · rw [List.getElem?_append_right (by rw [hf]; omega), hf] at h
      obtain ⟨i, x, k, hx, hk, hjk, hu⟩ := ih (j - m) h
      exact ⟨i + 1, x, k, by simpa using hx, hk, by rw [Nat.succ_mul]; omega, hu⟩

section
variable {H : Type} {enc : TypeId × Value → H} {W : World}
theorem block_of_cell {W : World} {a : Addr} {u : Value} (h : W.cell? (a.add 0) = some u) : a.block < W.heap.size := by
  rcases Nat.lt_or_ge a.block W.heap.size with hlt | hge
  · exact hlt
  · have : a.add 0 = a := by simp [Addr.add]
    rw [this] at h
    simp [World.cell?, Array.getElem?_eq_none hge] at h

theorem open_u8 {t e : TypeId} (ht : Tryd.prog.underlying t = some (.slice e)) (he : Tryd.prog.underlying e = some (.int .u8)) (hc1 : Tryd.prog.cellsOf e = 1) {fuel : Nat} {cs : List Value} {x : DataW H × List MemPlace}
    (h : DataW.trod enc Tryd.prog W 0 (fun _ => true) true fuel t cs = some x) :
    ∃ (ao : Option Addr) (c : Nat) (l : List Int), cs = [.slice ao l.length c] ∧ Reads W W.heap.size 1 ao l.length (u8c l) ∧ Byt l ∧ l.length ≤ c ∧ c ≤ maxLen ∧ (ao = none → c = 0) ∧
      ((x.1 = .nil ∧ c = 0) ∨ ∃ elems spare, x.1 = .slice elems spare ∧ elems.length + spare.length = c) := by
  rcases open_ints ht he hc1 h with ⟨hcs, hx⟩ | ⟨a, len, cap, zs, hcs, _, hl, hm, hz, hx, hcell, hwz⟩
  · exact ⟨none, 0, [], hcs, Reads.none_, Byt.nil, Nat.le_refl _, Nat.zero_le _, fun _ => rfl, .inl ⟨by rw [hx], rfl⟩⟩
  · simp only [if_true] at hz
    have hlen : (zs.take len).length = len := by simp; omega
    refine ⟨some a, cap, zs.take len, by rw [hlen]; exact hcs, ?_, fun y hy => wf_u8 (hwz y (List.mem_of_mem_take hy)), by rw [hlen]; exact hl, hm, (fun h => by cases h), .inr ⟨_, _, by rw [hx], by simp [lits]; omega⟩⟩
    rw [hlen]
    refine ⟨by rw [length_u8c, hlen]; simp, fun hn => ⟨a, rfl, block_of_cell (hcell 0 (by omega)), fun j u hu => ?_⟩⟩
    unfold u8c at hu
    rw [List.getElem?_map] at hu
    have hjl : j < (zs.take len).length := by
      rcases Nat.lt_or_ge j (zs.take len).length with h1 | h1
      · exact h1
      · rw [List.getElem?_eq_none h1] at hu; cases hu
    have hjz : j < zs.length := by simp at hjl; omega
    have hjn : j < len := by simp at hjl; omega
    rw [hcell j hjz, ← hu, List.getElem?_take, if_pos hjn, List.getElem?_eq_getElem hjz]
    simp [List.getD, hjz]

theorem open_i64 {t e : TypeId} (ht : Tryd.prog.underlying t = some (.slice e)) (he : Tryd.prog.underlying e = some (.int .i64)) (hc1 : Tryd.prog.cellsOf e = 1) {fuel : Nat} {cs : List Value} {x : DataW H × List MemPlace}
    (h : DataW.trod enc Tryd.prog W 0 (fun _ => true) true fuel t cs = some x) :
    ∃ (ao : Option Addr) (c : Nat) (l : List Int), cs = [.slice ao l.length c] ∧ Reads W W.heap.size 1 ao l.length (i64c l) ∧ (∀ y ∈ l, I64 y) ∧ l.length ≤ c ∧ c ≤ maxLen ∧ (ao = none → c = 0) ∧
      ((x.1 = .nil ∧ c = 0) ∨ ∃ elems spare, x.1 = .slice elems spare ∧ elems.length + spare.length = c) := by
  rcases open_ints ht he hc1 h with ⟨hcs, hx⟩ | ⟨a, len, cap, zs, hcs, _, hl, hm, hz, hx, hcell, hwz⟩
  · exact ⟨none, 0, [], hcs, Reads.none_, (fun _ h => by cases h), Nat.le_refl _, Nat.zero_le _, fun _ => rfl, .inl ⟨by rw [hx], rfl⟩⟩
  · simp only [if_true] at hz
    have hlen : (zs.take len).length = len := by simp; omega
    refine ⟨some a, cap, zs.take len, by rw [hlen]; exact hcs, ?_, fun y hy => wf_i64 (hwz y (List.mem_of_mem_take hy)), by rw [hlen]; exact hl, hm, (fun h => by cases h), .inr ⟨_, _, by rw [hx], by simp [lits]; omega⟩⟩
    rw [hlen]
    refine ⟨by rw [length_i64c, hlen]; simp, fun hn => ⟨a, rfl, block_of_cell (hcell 0 (by omega)), fun j u hu => ?_⟩⟩
    unfold i64c at hu
    rw [List.getElem?_map] at hu
    have hjl : j < (zs.take len).length := by
      rcases Nat.lt_or_ge j (zs.take len).length with h1 | h1
      · exact h1
      · rw [List.getElem?_eq_none h1] at hu; cases hu
    have hjz : j < zs.length := by simp at hjl; omega
    have hjn : j < len := by simp at hjl; omega
    rw [hcell j hjz, ← hu, List.getElem?_take, if_pos hjn, List.getElem?_eq_getElem hjz]
    simp [List.getD, hjz]

def Small (t : TypeId) (d : DataW H) : Prop := ∀ x ∈ d.weights Tryd.prog t, x ≤ reachBytes
theorem small_slice {t e : TypeId} {elems spare : List (DataW H)} {b : Nat} (h : Small t (DataW.slice elems spare)) (ht : Tryd.prog.underlying t = some (.slice e)) (hb : Tryd.prog.bytesOf e = b) : (elems.length + spare.length) * b ≤ 140737488351232 := by
  have := h ((elems.length + spare.length) * Tryd.prog.bytesOf e) (by simp [DataW.weights, ht])
  rw [hb] at this
  simpa [reachBytes] using this
theorem mem_weightsAll {P : Program} {e : TypeId} {d : DataW H} {l : List (DataW H)} (hd : d ∈ l) {x : Nat} (hx : x ∈ d.weights P e) : x ∈ DataW.weightsAll P e l := by
  induction l with
  | nil => cases hd
  | cons y l ih =>
    rw [DataW.weightsAll, List.mem_append]
    rcases List.mem_cons.1 hd with rfl | hd
    · exact .inl hx
    · exact .inr (ih hd)
theorem small_elem {t e : TypeId} {elems spare : List (DataW H)} (h : Small t (DataW.slice elems spare)) (ht : Tryd.prog.underlying t = some (.slice e)) {d : DataW H} (hd : d ∈ elems) : Small e d := by
  intro x hx
  refine h x ?_
  simp only [DataW.weights, ht, List.mem_cons, List.mem_append]
  exact .inr (.inl (mem_weightsAll hd hx))
theorem small_field {t : TypeId} {fs : Array Field} {parts : List (DataW H)} (h : Small t (DataW.agg parts)) (ht : Tryd.prog.underlying t = some (.struct fs)) {j : Nat} {f : Field} {d : DataW H} (hf : (fs.toList.map (·.type))[j]? = some f.type) (hd : parts[j]? = some d) : Small f.type d := by
  intro x hx
  refine h x ?_
  simp only [DataW.weights, ht]
  exact DataW.weights_mem_each hf hd x hx

set_option maxRecDepth 100000 in
theorem open_nodes {fuel : Nat} {cs : List Value} {x : DataW H × List MemPlace} (h : DataW.trod enc Tryd.prog W 0 (fun _ => true) true fuel 36 cs = some x) (hs : Small 36 x.1) :
    ∃ (ao : Option Addr) (n c : Nat) (ns : List RN), cs = [.slice ao n c] ∧ RdNs W W.heap.size ao n ns ∧ n * 104 ≤ 140737488351232 := by
  rcases open_slice_fields Tryd.underlying36 Tryd.underlying50 (by kernel_rfl) (by kernel_rfl) h with ⟨hcs, hx⟩ | ⟨a, len, cap, m, D, Pl, hcs, _, hl, hm, hmm, hx, hi⟩
  · exact ⟨none, 0, 0, [], hcs, ⟨Reads.none_, rfl, (fun r hr => by cases hr), (fun r hr => by cases hr)⟩, by omega⟩
  · simp only [if_true] at hmm
    subst hmm
    rw [hx] at hs
    have hsz := small_slice hs Tryd.underlying36 (show Tryd.prog.bytesOf 50 = 104 by kernel_rfl)
    obtain ⟨l, hll, hlp⟩ := row_of (P := fun i (x : RN) => RdN W W.heap.size x ∧ WfN x.nd ∧ W.cell? (a.add (i * 12)) = some (.int .u8 x.nd.op) ∧ W.cell? (a.add (i * 12 + 1)) = some (.int .u8 x.nd.bop) ∧ W.cell? (a.add (i * 12 + 2)) = some (.int .i64 x.nd.d) ∧ W.cell? (a.add (i * 12 + 3)) = some (.int .i64 x.nd.e) ∧ W.cell? (a.add (i * 12 + 4)) = some (.int .i64 x.nd.a) ∧ W.cell? (a.add (i * 12 + 5)) = some (.int .i64 x.nd.b) ∧ W.cell? (a.add (i * 12 + 6)) = some (.int .i64 x.nd.f) ∧ W.cell? (a.add (i * 12 + 7)) = some (.int .i64 x.nd.cell) ∧ W.cell? (a.add (i * 12 + 8)) = some (.int .u64 x.nd.imm) ∧ W.cell? (a.add (i * 12 + 9)) = some (.slice x.ao x.nd.args.length x.ac) ∧ W.cell? (a.add (i * 12 + 10)) = some (.int .i64 x.nd.next) ∧ W.cell? (a.add (i * 12 + 11)) = some (.int .i64 x.nd.els)) len (fun i hin => by
      obtain ⟨ys, k, hD, _, hyl, hj⟩ := hi i (by omega)
      have hsi : Small 50 (D i) := small_elem hs Tryd.underlying36 (List.mem_map.2 ⟨i, List.mem_range.2 hin, rfl⟩)
      rw [hD] at hsi
      obtain ⟨v0, y0, hc0, hy0, ht0⟩ := hj 0 _ rfl
      obtain ⟨v1, y1, hc1, hy1, ht1⟩ := hj 1 _ rfl
      obtain ⟨v2, y2, hc2, hy2, ht2⟩ := hj 2 _ rfl
      obtain ⟨v3, y3, hc3, hy3, ht3⟩ := hj 3 _ rfl
      obtain ⟨v4, y4, hc4, hy4, ht4⟩ := hj 4 _ rfl
      obtain ⟨v5, y5, hc5, hy5, ht5⟩ := hj 5 _ rfl
      obtain ⟨v6, y6, hc6, hy6, ht6⟩ := hj 6 _ rfl
      obtain ⟨v7, y7, hc7, hy7, ht7⟩ := hj 7 _ rfl
      obtain ⟨v8, y8, hc8, hy8, ht8⟩ := hj 8 _ rfl
      obtain ⟨v9, y9, hc9, hy9, ht9⟩ := hj 9 _ rfl
      obtain ⟨v10, y10, hc10, hy10, ht10⟩ := hj 10 _ rfl
      obtain ⟨v11, y11, hc11, hy11, ht11⟩ := hj 11 _ rfl
      obtain ⟨n0, e0, _, w0⟩ := DataW.trod_int Tryd.underlying46 ht0
      obtain ⟨n1, e1, _, w1⟩ := DataW.trod_int Tryd.underlying47 ht1
      obtain ⟨n2, e2, _, w2⟩ := DataW.trod_int Tryd.underlying3 ht2
      obtain ⟨n3, e3, _, w3⟩ := DataW.trod_int Tryd.underlying3 ht3
      obtain ⟨n4, e4, _, w4⟩ := DataW.trod_int Tryd.underlying3 ht4
      obtain ⟨n5, e5, _, w5⟩ := DataW.trod_int Tryd.underlying3 ht5
      obtain ⟨n6, e6, _, w6⟩ := DataW.trod_int Tryd.underlying3 ht6
      obtain ⟨n7, e7, _, w7⟩ := DataW.trod_int Tryd.underlying3 ht7
      obtain ⟨n8, e8, _, w8⟩ := DataW.trod_int Tryd.underlying48 ht8
      obtain ⟨ao, ac, xs9, e9, hr9, hw9, hac, _, _, hd9⟩ := open_i64 Tryd.underlying26 Tryd.underlying3 (by kernel_rfl) ht9
      obtain ⟨n10, e10, _, w10⟩ := DataW.trod_int Tryd.underlying3 ht10
      obtain ⟨n11, e11, _, w11⟩ := DataW.trod_int Tryd.underlying3 ht11
      have s9 : Small 26 y9.1 := small_field hsi Tryd.underlying50 (j := 9) rfl (by rw [List.getElem?_map, hy9]; rfl)
      have b9 : xs9.length * 8 ≤ 140737488351232 := by
        rcases hd9 with ⟨_, h0⟩ | ⟨elems, spare, he, hc⟩
        · omega
        · rw [he] at s9
          have := small_slice s9 Tryd.underlying26 (show Tryd.prog.bytesOf 3 = 8 by kernel_rfl)
          omega
      have h0 := wf_u8 w0
      have h1 := wf_u8 w1
      have h2 := wf_i64 w2
      have h3 := wf_i64 w3
      have h4 := wf_i64 w4
      have h5 := wf_i64 w5
      have h6 := wf_i64 w6
      have h7 := wf_i64 w7
      have h8 := wf_u64 w8
      have h10 := wf_i64 w10
      have h11 := wf_i64 w11
      simp only [List.cons.injEq, and_true] at e0 e1 e2 e3 e4 e5 e6 e7 e8 e9 e10 e11
      subst e0 e1 e2 e3 e4 e5 e6 e7 e8 e9 e10 e11
      exact ⟨⟨⟨n0, n1, n2, n3, n4, n5, n6, n7, n8, xs9, n10, n11⟩, ao, ac⟩, ⟨hr9, hac⟩, ⟨h0.1, h0.2, h1.1, h1.2, h2, h3, h4, h5, h6, h7, h8.1, by show n8 ≤ _; omega, hw9, h10, h11, b9⟩, hc0, hc1, hc2, hc3, hc4, hc5, hc6, hc7, hc8, hc9, hc10, hc11⟩)
    refine ⟨some a, len, m, l, hcs, ⟨⟨by rw [length_rnc, hll], fun hn => ⟨a, rfl, ?_, fun j u hu => ?_⟩⟩, hll, fun r hr => ?_, fun r hr => ?_⟩, ?_⟩
    · obtain ⟨x, hx0⟩ : ∃ x, l[0]? = some x := ⟨_, List.getElem?_eq_getElem (by omega)⟩
      exact block_of_cell (hlp 0 x hx0).2.2.1
    · obtain ⟨i, x, k, hxi, hk, rfl, hv⟩ := flat_inv rnOne 12 (by omega) (fun _ => rfl) l j u hu
      have hp := hlp i x hxi
      obtain rfl | rfl | rfl | rfl | rfl | rfl | rfl | rfl | rfl | rfl | rfl | rfl : k = 0 ∨ k = 1 ∨ k = 2 ∨ k = 3 ∨ k = 4 ∨ k = 5 ∨ k = 6 ∨ k = 7 ∨ k = 8 ∨ k = 9 ∨ k = 10 ∨ k = 11 := by omega
      · rw [← hv]; exact hp.2.2.1
      · rw [← hv]; exact hp.2.2.2.1
      · rw [← hv]; exact hp.2.2.2.2.1
      · rw [← hv]; exact hp.2.2.2.2.2.1
      · rw [← hv]; exact hp.2.2.2.2.2.2.1
      · rw [← hv]; exact hp.2.2.2.2.2.2.2.1
      · rw [← hv]; exact hp.2.2.2.2.2.2.2.2.1
      · rw [← hv]; exact hp.2.2.2.2.2.2.2.2.2.1
      · rw [← hv]; exact hp.2.2.2.2.2.2.2.2.2.2.1
      · rw [← hv]; exact hp.2.2.2.2.2.2.2.2.2.2.2.1
      · rw [← hv]; exact hp.2.2.2.2.2.2.2.2.2.2.2.2.1
      · rw [← hv]; exact hp.2.2.2.2.2.2.2.2.2.2.2.2.2
    · obtain ⟨i, hil, rfl⟩ := List.getElem_of_mem hr
      exact (hlp i _ (List.getElem?_eq_getElem hil)).1
    · obtain ⟨i, hil, rfl⟩ := List.getElem_of_mem hr
      exact (hlp i _ (List.getElem?_eq_getElem hil)).2.1
    · simp at hsz
      have := Nat.mul_le_mul_right 104 hl
      omega

set_option maxRecDepth 100000 in
set_option maxHeartbeats 800000 in
theorem open_graphs {fuel : Nat} {cs : List Value} {x : DataW H × List MemPlace} (h : DataW.trod enc Tryd.prog W 0 (fun _ => true) true fuel 22 cs = some x) (hs : Small 22 x.1) :
    ∃ (ao : Option Addr) (n c : Nat) (rs : List RG), cs = [.slice ao n c] ∧ RdP W W.heap.size ao n rs := by
  rcases open_slice_fields Tryd.underlying22 Tryd.underlying38 (by kernel_rfl) (by kernel_rfl) h with ⟨hcs, hx⟩ | ⟨a, len, cap, m, D, Pl, hcs, _, hl, hm, hmm, hx, hi⟩
  · exact ⟨none, 0, 0, [], hcs, ⟨Reads.none_, rfl, (fun r hr => by cases hr), (fun r hr => by cases hr), by omega⟩⟩
  · simp only [if_true] at hmm
    subst hmm
    rw [hx] at hs
    have hsz := small_slice hs Tryd.underlying22 (show Tryd.prog.bytesOf 38 = 128 by kernel_rfl)
    obtain ⟨l, hll, hlp⟩ := row_of (P := fun i (r : RG) => RdG W W.heap.size r ∧ WfG r.gr ∧ W.cell? (a.add (i * 8)) = some (.slice r.po r.gr.params.length r.pc) ∧ W.cell? (a.add (i * 8 + 1)) = some (.slice r.ko r.gr.kinds.length r.kc) ∧ W.cell? (a.add (i * 8 + 2)) = some (.int .i64 r.gr.cells) ∧ W.cell? (a.add (i * 8 + 3)) = some (.slice r.io r.gr.init.length r.ic) ∧ W.cell? (a.add (i * 8 + 4)) = some (.bool r.gr.result) ∧ W.cell? (a.add (i * 8 + 5)) = some (.int .i64 r.gr.keep) ∧ W.cell? (a.add (i * 8 + 6)) = some (.slice r.no r.gr.nodes.length r.nc) ∧ W.cell? (a.add (i * 8 + 7)) = some (.int .i64 r.gr.entry)) len (fun i hin => by
      obtain ⟨ys, k, hD, _, hyl, hj⟩ := hi i (by omega)
      have hsi : Small 38 (D i) := small_elem hs Tryd.underlying22 (List.mem_map.2 ⟨i, List.mem_range.2 hin, rfl⟩)
      rw [hD] at hsi
      obtain ⟨v0, y0, hc0, hy0, ht0⟩ := hj 0 _ rfl
      obtain ⟨v1, y1, hc1, hy1, ht1⟩ := hj 1 _ rfl
      obtain ⟨v2, y2, hc2, hy2, ht2⟩ := hj 2 _ rfl
      obtain ⟨v3, y3, hc3, hy3, ht3⟩ := hj 3 _ rfl
      obtain ⟨v4, y4, hc4, hy4, ht4⟩ := hj 4 _ rfl
      obtain ⟨v5, y5, hc5, hy5, ht5⟩ := hj 5 _ rfl
      obtain ⟨v6, y6, hc6, hy6, ht6⟩ := hj 6 _ rfl
      obtain ⟨v7, y7, hc7, hy7, ht7⟩ := hj 7 _ rfl
      have s0 : Small 26 y0.1 := small_field hsi Tryd.underlying38 (j := 0) rfl (by rw [List.getElem?_map, hy0]; rfl)
      obtain ⟨o0, c0, l0, e0, r0, w0, cap0, _, _, d0⟩ := open_i64 Tryd.underlying26 Tryd.underlying3 (by kernel_rfl) ht0
      have s1 : Small 35 y1.1 := small_field hsi Tryd.underlying38 (j := 1) rfl (by rw [List.getElem?_map, hy1]; rfl)
      obtain ⟨o1, c1, l1, e1, r1, w1, cap1, _, _, d1⟩ := open_u8 Tryd.underlying35 Tryd.underlying53 (by kernel_rfl) ht1
      obtain ⟨n2, e2, _, w2⟩ := DataW.trod_int Tryd.underlying3 ht2
      have s3 : Small 26 y3.1 := small_field hsi Tryd.underlying38 (j := 3) rfl (by rw [List.getElem?_map, hy3]; rfl)
      obtain ⟨o3, c3, l3, e3, r3, w3, cap3, _, _, d3⟩ := open_i64 Tryd.underlying26 Tryd.underlying3 (by kernel_rfl) ht3
      obtain ⟨n4, e4, _⟩ := DataW.trod_bool Tryd.underlying4 ht4
      obtain ⟨n5, e5, _, w5⟩ := DataW.trod_int Tryd.underlying3 ht5
      have s6 : Small 36 y6.1 := small_field hsi Tryd.underlying38 (j := 6) rfl (by rw [List.getElem?_map, hy6]; rfl)
      obtain ⟨o6, n6, c6, ns, e6, r6, b6⟩ := open_nodes ht6 s6
      obtain ⟨n7, e7, _, w7⟩ := DataW.trod_int Tryd.underlying3 ht7
      have b0 : l0.length * 8 ≤ 140737488351232 := by
        rcases d0 with ⟨_, h0⟩ | ⟨elems, spare, he, hc⟩
        · omega
        · rw [he] at s0
          have := small_slice s0 Tryd.underlying26 (show Tryd.prog.bytesOf 3 = 8 by kernel_rfl)
          omega
      have b1 : l1.length * 1 ≤ 140737488351232 := by
        rcases d1 with ⟨_, h0⟩ | ⟨elems, spare, he, hc⟩
        · omega
        · rw [he] at s1
          have := small_slice s1 Tryd.underlying35 (show Tryd.prog.bytesOf 53 = 1 by kernel_rfl)
          omega
      have b3 : l3.length * 8 ≤ 140737488351232 := by
        rcases d3 with ⟨_, h0⟩ | ⟨elems, spare, he, hc⟩
        · omega
        · rw [he] at s3
          have := small_slice s3 Tryd.underlying26 (show Tryd.prog.bytesOf 3 = 8 by kernel_rfl)
          omega
      have h2 := wf_i64 w2
      have h5 := wf_i64 w5
      have h7 := wf_i64 w7
      have hnl : (nds ns).length = n6 := by rw [length_nds, r6.len]
      have hwn : ∀ i ∈ nds ns, WfN i := fun i hi => by
        obtain ⟨z, hz, rfl⟩ := List.mem_map.1 hi
        exact r6.wf z hz
      simp only [List.cons.injEq, and_true] at e0 e1 e2 e3 e4 e5 e6 e7
      subst e0 e1 e2 e3 e4 e5 e6 e7
      subst hnl
      exact ⟨⟨⟨l0, l1, n2, l3, n4, n5, nds ns, n7⟩, o0, c0, o1, c1, o3, c3, o6, c6, ns⟩, ⟨r0, r1, r3, r6, rfl, cap0⟩, ⟨w0, w1, h2, w3, h5, hwn, h7, b0, by simpa using b1, b3, b6⟩, hc0, hc1, hc2, hc3, hc4, hc5, hc6, hc7⟩)
    refine ⟨some a, len, m, l, hcs, ⟨⟨by rw [length_rgc, hll], fun hn => ⟨a, rfl, ?_, fun j u hu => ?_⟩⟩, hll, fun r hr => ?_, fun r hr => ?_, ?_⟩⟩
    · obtain ⟨x, hx0⟩ : ∃ x, l[0]? = some x := ⟨_, List.getElem?_eq_getElem (by omega)⟩
      exact block_of_cell (hlp 0 x hx0).2.2.1
    · obtain ⟨i, x, k, hxi, hk, rfl, hv⟩ := flat_inv rgOne 8 (by omega) (fun _ => rfl) l j u hu
      have hp := hlp i x hxi
      obtain rfl | rfl | rfl | rfl | rfl | rfl | rfl | rfl : k = 0 ∨ k = 1 ∨ k = 2 ∨ k = 3 ∨ k = 4 ∨ k = 5 ∨ k = 6 ∨ k = 7 := by omega
      · rw [← hv]; exact hp.2.2.1
      · rw [← hv]; exact hp.2.2.2.1
      · rw [← hv]; exact hp.2.2.2.2.1
      · rw [← hv]; exact hp.2.2.2.2.2.1
      · rw [← hv]; exact hp.2.2.2.2.2.2.1
      · rw [← hv]; exact hp.2.2.2.2.2.2.2.1
      · rw [← hv]; exact hp.2.2.2.2.2.2.2.2.1
      · rw [← hv]; exact hp.2.2.2.2.2.2.2.2.2
    · obtain ⟨i, hil, rfl⟩ := List.getElem_of_mem hr
      exact (hlp i _ (List.getElem?_eq_getElem hil)).1
    · obtain ⟨i, hil, rfl⟩ := List.getElem_of_mem hr
      exact (hlp i _ (List.getElem?_eq_getElem hil)).2.1
    · simp at hsz
      have := Nat.mul_le_mul_right 128 hl
      omega

set_option maxRecDepth 100000 in
theorem open_prog {base : Nat} {v : Value} {d : DataW H} {p : List MemPlace} (hv : Value.okWide Tryd.prog W .any base 24 v) (h : DataW.Trod enc Tryd.prog W 0 (fun _ => true) true 24 v d p) (hs : Small 24 d) :
    ∃ (ao : Option Addr) (n c : Nat) (rs : List RG), v = .agg #[.slice ao n c] ∧ RdP W W.heap.size ao n rs := by
  obtain ⟨cs, rfl, hsz⟩ := okWide_struct Tryd.underlying24 hv
  obtain ⟨l⟩ := cs
  match l, hsz.trans (show Tryd.prog.cellsOf 24 = 1 by kernel_rfl) with
  | [c0], _ =>
    obtain ⟨fuel, hf⟩ := h
    obtain ⟨xs, n, _, hx, _, hlen, hg⟩ := DataW.trod_struct Tryd.underlying24 hf
    match xs, hlen with
    | [y0], _ =>
      simp only [Prod.mk.injEq] at hx
      have h0 : DataW.trod enc Tryd.prog W 0 (fun _ => true) true n 22 [c0] = some y0 := by
        have := hg 0 _ rfl
        simpa [Value.cells, show Tryd.prog.cellsOf 22 = 1 by kernel_rfl] using this
      rw [hx.1] at hs
      have s0 : Small 22 y0.1 := small_field hs Tryd.underlying24 (j := 0) rfl rfl
      obtain ⟨ao, m, c, rs, e, hr⟩ := open_graphs h0 s0
      simp only [List.cons.injEq, and_true] at e
      subst e
      exact ⟨ao, m, c, rs, rfl, hr⟩
set_option maxRecDepth 100000 in
set_option maxHeartbeats 800000 in
theorem open_node {base : Nat} {v : Value} {d : DataW H} {p : List MemPlace} (hv : Value.okWide Tryd.prog W .any base 50 v) (h : DataW.Trod enc Tryd.prog W 0 (fun _ => true) true 50 v d p) (hs : Small 50 d) :
    ∃ x : RN, v = .agg (rnOne x).toArray ∧ RdN W W.heap.size x ∧ WfN x.nd := by
  obtain ⟨cs, rfl, hsz⟩ := okWide_struct Tryd.underlying50 hv
  obtain ⟨l⟩ := cs
  match l, hsz.trans (show Tryd.prog.cellsOf 50 = 12 by kernel_rfl) with
  | [u0, u1, u2, u3, u4, u5, u6, u7, u8, u9, u10, u11], _ =>
    obtain ⟨fuel, hf⟩ := h
    obtain ⟨ys, n, _, hx, _, hlen, hg⟩ := DataW.trod_struct Tryd.underlying50 hf
    match ys, hlen with
    | [y0, y1, y2, y3, y4, y5, y6, y7, y8, y9, y10, y11], _ =>
      simp only [Prod.mk.injEq] at hx
      rw [hx.1] at hs
      have ht0 : DataW.trod enc Tryd.prog W 0 (fun _ => true) true n 46 [u0] = some y0 := by
        have := hg 0 _ rfl
        simpa [Value.cells, show Tryd.prog.cellsOf 46 = 1 by kernel_rfl] using this
      have ht1 : DataW.trod enc Tryd.prog W 0 (fun _ => true) true n 47 [u1] = some y1 := by
        have := hg 1 _ rfl
        simpa [Value.cells, show Tryd.prog.cellsOf 47 = 1 by kernel_rfl] using this
      have ht2 : DataW.trod enc Tryd.prog W 0 (fun _ => true) true n 3 [u2] = some y2 := by
        have := hg 2 _ rfl
        simpa [Value.cells, show Tryd.prog.cellsOf 3 = 1 by kernel_rfl] using this
      have ht3 : DataW.trod enc Tryd.prog W 0 (fun _ => true) true n 3 [u3] = some y3 := by
        have := hg 3 _ rfl
        simpa [Value.cells, show Tryd.prog.cellsOf 3 = 1 by kernel_rfl] using this
      have ht4 : DataW.trod enc Tryd.prog W 0 (fun _ => true) true n 3 [u4] = some y4 := by
        have := hg 4 _ rfl
        simpa [Value.cells, show Tryd.prog.cellsOf 3 = 1 by kernel_rfl] using this
      have ht5 : DataW.trod enc Tryd.prog W 0 (fun _ => true) true n 3 [u5] = some y5 := by
        have := hg 5 _ rfl
        simpa [Value.cells, show Tryd.prog.cellsOf 3 = 1 by kernel_rfl] using this
      have ht6 : DataW.trod enc Tryd.prog W 0 (fun _ => true) true n 3 [u6] = some y6 := by
        have := hg 6 _ rfl
        simpa [Value.cells, show Tryd.prog.cellsOf 3 = 1 by kernel_rfl] using this
      have ht7 : DataW.trod enc Tryd.prog W 0 (fun _ => true) true n 3 [u7] = some y7 := by
        have := hg 7 _ rfl
        simpa [Value.cells, show Tryd.prog.cellsOf 3 = 1 by kernel_rfl] using this
      have ht8 : DataW.trod enc Tryd.prog W 0 (fun _ => true) true n 48 [u8] = some y8 := by
        have := hg 8 _ rfl
        simpa [Value.cells, show Tryd.prog.cellsOf 48 = 1 by kernel_rfl] using this
      have ht9 : DataW.trod enc Tryd.prog W 0 (fun _ => true) true n 26 [u9] = some y9 := by
        have := hg 9 _ rfl
        simpa [Value.cells, show Tryd.prog.cellsOf 26 = 1 by kernel_rfl] using this
      have ht10 : DataW.trod enc Tryd.prog W 0 (fun _ => true) true n 3 [u10] = some y10 := by
        have := hg 10 _ rfl
        simpa [Value.cells, show Tryd.prog.cellsOf 3 = 1 by kernel_rfl] using this
      have ht11 : DataW.trod enc Tryd.prog W 0 (fun _ => true) true n 3 [u11] = some y11 := by
        have := hg 11 _ rfl
        simpa [Value.cells, show Tryd.prog.cellsOf 3 = 1 by kernel_rfl] using this
      obtain ⟨n0, e0, _, w0⟩ := DataW.trod_int Tryd.underlying46 ht0
      obtain ⟨n1, e1, _, w1⟩ := DataW.trod_int Tryd.underlying47 ht1
      obtain ⟨n2, e2, _, w2⟩ := DataW.trod_int Tryd.underlying3 ht2
      obtain ⟨n3, e3, _, w3⟩ := DataW.trod_int Tryd.underlying3 ht3
      obtain ⟨n4, e4, _, w4⟩ := DataW.trod_int Tryd.underlying3 ht4
      obtain ⟨n5, e5, _, w5⟩ := DataW.trod_int Tryd.underlying3 ht5
      obtain ⟨n6, e6, _, w6⟩ := DataW.trod_int Tryd.underlying3 ht6
      obtain ⟨n7, e7, _, w7⟩ := DataW.trod_int Tryd.underlying3 ht7
      obtain ⟨n8, e8, _, w8⟩ := DataW.trod_int Tryd.underlying48 ht8
      obtain ⟨ao, ac, xs9, e9, hr9, hw9, hac, _, _, hd9⟩ := open_i64 Tryd.underlying26 Tryd.underlying3 (by kernel_rfl) ht9
      obtain ⟨n10, e10, _, w10⟩ := DataW.trod_int Tryd.underlying3 ht10
      obtain ⟨n11, e11, _, w11⟩ := DataW.trod_int Tryd.underlying3 ht11
      have s9 : Small 26 y9.1 := small_field hs Tryd.underlying50 (j := 9) rfl rfl
      have b9 : xs9.length * 8 ≤ 140737488351232 := by
        rcases hd9 with ⟨_, h0⟩ | ⟨elems, spare, he, hc⟩
        · omega
        · rw [he] at s9
          have := small_slice s9 Tryd.underlying26 (show Tryd.prog.bytesOf 3 = 8 by kernel_rfl)
          omega
      have h0 := wf_u8 w0
      have h1 := wf_u8 w1
      have h2 := wf_i64 w2
      have h3 := wf_i64 w3
      have h4 := wf_i64 w4
      have h5 := wf_i64 w5
      have h6 := wf_i64 w6
      have h7 := wf_i64 w7
      have h8 := wf_u64 w8
      have h10 := wf_i64 w10
      have h11 := wf_i64 w11
      simp only [List.cons.injEq, and_true] at e0 e1 e2 e3 e4 e5 e6 e7 e8 e9 e10 e11
      subst e0 e1 e2 e3 e4 e5 e6 e7 e8 e9 e10 e11
      exact ⟨⟨⟨n0, n1, n2, n3, n4, n5, n6, n7, n8, xs9, n10, n11⟩, ao, ac⟩, rfl, ⟨hr9, hac⟩, ⟨h0.1, h0.2, h1.1, h1.2, h2, h3, h4, h5, h6, h7, h8.1, by show n8 ≤ _; omega, hw9, h10, h11, b9⟩⟩
end
end Go.Proofs.YtcljjacanomggaaDoor

/-
  What the row's list gives: the library's table, whatever is done behind.
-/
namespace Go.Proofs.YtcljjacanomggaaDoor
set_option linter.unusedVariables false
open Go.ChangeShapes Go.WideShapes Go.ChangeAt Go.RowKit

theorem gTz : Tryd.prog.globalNamed "math/bits.deBruijn64tab" = some 0 := by kernel_rfl
theorem gTzType : (Tryd.prog.globals[0]?).map (·.type) = some 124 := by kernel_rfl
theorem tz_data : (Rows.laid_math_bits_deBruijn64tab : DataW Unit) = Lib.tabData .u8 (Lib.deBruijn64tab.map fun x : Nat => (x : Int)) := by kernel_rfl
theorem tz_tab {W : World} (h : laidMet Tryd.prog [("math/bits.deBruijn64tab", Rows.laid_math_bits_deBruijn64tab)] W) : TzTab W := by
  rw [tz_data] at h
  have ht := Lib.tabIs_of_head gTz gTzType Tryd.underlying124 Tryd.underlying5 (by kernel_rfl) (by kernel_rfl) h
  intro j hj
  have hl : Lib.deBruijn64tab.length = 64 := by decide
  have h1 := ht.cell gTz j (by rw [List.length_map, hl]; exact hj)
  rw [h1]
  rw [List.getD_eq_getElem?_getD, List.getElem?_map, List.getD_eq_getElem?_getD, List.getElem?_eq_getElem (by rw [hl]; exact hj)]
  rfl
end Go.Proofs.YtcljjacanomggaaDoor
