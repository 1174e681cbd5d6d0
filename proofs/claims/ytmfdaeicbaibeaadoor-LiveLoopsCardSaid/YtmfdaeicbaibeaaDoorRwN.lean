/-
  Package ir: the nodes behind a node; the document's as well.
-/
import Derived.Test.YtmfdaeicbaibeaaDoorRw
namespace Go.Proofs.YtmfdaeicbaibeaaDoor
set_option linter.unusedVariables false
set_option linter.unusedSimpArgs false
open Go.ChangeShapes Go.WideShapes Go.ChangeAt Go.RowKit

set_option maxRecDepth 100000 in
set_option maxHeartbeats 6400000 in
theorem gnext_any (op bop d e a b f cell imm : Int) (args : List Int) (nx el : Int) (ao : Option Addr) (nA ac : Nat) (w : World) (ho0 : 0 ≤ op) (ho1 : op ≤ 255) :
    Calls Tryd.prog 44 #[.agg #[.int .u8 op, .int .u8 bop, .int .i64 d, .int .i64 e, .int .i64 a, .int .i64 b, .int .i64 f, .int .i64 cell, .int .u64 imm, .slice ao nA ac, .int .i64 nx, .int .i64 el]] w (NewI w (nextsOf ⟨op, bop, d, e, a, b, f, cell, imm, args, nx, el⟩)) := by
  have HW1 : Hid (Below w.heap.size w (w.alloc (.cells #[.int .u8 op, .int .u8 bop, .int .i64 d, .int .i64 e, .int .i64 a, .int .i64 b, .int .i64 f, .int .i64 cell, .int .u64 imm, .slice ao nA ac, .int .i64 nx, .int .i64 el] 64))) := (Below.refl _ _).alloc (Nat.le_refl _) _
  have hz1 : (w.alloc (.cells #[.int .u8 op, .int .u8 bop, .int .i64 d, .int .i64 e, .int .i64 a, .int .i64 b, .int .i64 f, .int .i64 cell, .int .u64 imm, .slice ao nA ac, .int .i64 nx, .int .i64 el] 64)).heap.size = w.heap.size + 1 := by simp
  rcases op_cases ho0 ho1 with rfl | rfl | rfl | rfl | rfl | rfl | rfl | rfl | rfl | rfl | rfl | rfl | rfl | rfl | rfl | rfl | rfl | rfl | hop
  · have HLR := Lib.hid (lit_reads (w.alloc (.cells #[.int .u8 1, .int .u8 bop, .int .i64 d, .int .i64 e, .int .i64 a, .int .i64 b, .int .i64 f, .int .i64 cell, .int .u64 imm, .slice ao nA ac, .int .i64 nx, .int .i64 el] 64)) 3 (i64c [nx]) 1 rfl)
    have HW2 : Hid (Below w.heap.size w ((w.alloc (.cells #[.int .u8 1, .int .u8 bop, .int .i64 d, .int .i64 e, .int .i64 a, .int .i64 b, .int .i64 f, .int .i64 cell, .int .u64 imm, .slice ao nA ac, .int .i64 nx, .int .i64 el] 64)).alloc (.cells #[.int .i64 nx] 3))) := HW1.out.alloc (by simp) _
    rw [hz1] at HLR
    go_enter Tryd.func44, Tryd.ntmps44
    go_wp2
    go_ret
    exact NewI.mk' (l := [nx]) rfl rfl (HLR.out.more (by simp)) (Nat.le_refl _) (Below.refl _ _) HW2.out
  · have HLR := Lib.hid (lit_reads (w.alloc (.cells #[.int .u8 2, .int .u8 bop, .int .i64 d, .int .i64 e, .int .i64 a, .int .i64 b, .int .i64 f, .int .i64 cell, .int .u64 imm, .slice ao nA ac, .int .i64 nx, .int .i64 el] 64)) 3 (i64c [nx]) 1 rfl)
    have HW2 : Hid (Below w.heap.size w ((w.alloc (.cells #[.int .u8 2, .int .u8 bop, .int .i64 d, .int .i64 e, .int .i64 a, .int .i64 b, .int .i64 f, .int .i64 cell, .int .u64 imm, .slice ao nA ac, .int .i64 nx, .int .i64 el] 64)).alloc (.cells #[.int .i64 nx] 3))) := HW1.out.alloc (by simp) _
    rw [hz1] at HLR
    go_enter Tryd.func44, Tryd.ntmps44
    go_wp2
    go_ret
    exact NewI.mk' (l := [nx]) rfl rfl (HLR.out.more (by simp)) (Nat.le_refl _) (Below.refl _ _) HW2.out
  · have HLR := Lib.hid (lit_reads (w.alloc (.cells #[.int .u8 3, .int .u8 bop, .int .i64 d, .int .i64 e, .int .i64 a, .int .i64 b, .int .i64 f, .int .i64 cell, .int .u64 imm, .slice ao nA ac, .int .i64 nx, .int .i64 el] 64)) 3 (i64c [nx]) 1 rfl)
    have HW2 : Hid (Below w.heap.size w ((w.alloc (.cells #[.int .u8 3, .int .u8 bop, .int .i64 d, .int .i64 e, .int .i64 a, .int .i64 b, .int .i64 f, .int .i64 cell, .int .u64 imm, .slice ao nA ac, .int .i64 nx, .int .i64 el] 64)).alloc (.cells #[.int .i64 nx] 3))) := HW1.out.alloc (by simp) _
    rw [hz1] at HLR
    go_enter Tryd.func44, Tryd.ntmps44
    go_wp2
    go_ret
    exact NewI.mk' (l := [nx]) rfl rfl (HLR.out.more (by simp)) (Nat.le_refl _) (Below.refl _ _) HW2.out
  · have HLR := Lib.hid (lit_reads (w.alloc (.cells #[.int .u8 4, .int .u8 bop, .int .i64 d, .int .i64 e, .int .i64 a, .int .i64 b, .int .i64 f, .int .i64 cell, .int .u64 imm, .slice ao nA ac, .int .i64 nx, .int .i64 el] 64)) 3 (i64c [nx]) 1 rfl)
    have HW2 : Hid (Below w.heap.size w ((w.alloc (.cells #[.int .u8 4, .int .u8 bop, .int .i64 d, .int .i64 e, .int .i64 a, .int .i64 b, .int .i64 f, .int .i64 cell, .int .u64 imm, .slice ao nA ac, .int .i64 nx, .int .i64 el] 64)).alloc (.cells #[.int .i64 nx] 3))) := HW1.out.alloc (by simp) _
    rw [hz1] at HLR
    go_enter Tryd.func44, Tryd.ntmps44
    go_wp2
    go_ret
    exact NewI.mk' (l := [nx]) rfl rfl (HLR.out.more (by simp)) (Nat.le_refl _) (Below.refl _ _) HW2.out
  · have HLR := Lib.hid (lit_reads (w.alloc (.cells #[.int .u8 5, .int .u8 bop, .int .i64 d, .int .i64 e, .int .i64 a, .int .i64 b, .int .i64 f, .int .i64 cell, .int .u64 imm, .slice ao nA ac, .int .i64 nx, .int .i64 el] 64)) 3 (i64c [nx]) 1 rfl)
    have HW2 : Hid (Below w.heap.size w ((w.alloc (.cells #[.int .u8 5, .int .u8 bop, .int .i64 d, .int .i64 e, .int .i64 a, .int .i64 b, .int .i64 f, .int .i64 cell, .int .u64 imm, .slice ao nA ac, .int .i64 nx, .int .i64 el] 64)).alloc (.cells #[.int .i64 nx] 3))) := HW1.out.alloc (by simp) _
    rw [hz1] at HLR
    go_enter Tryd.func44, Tryd.ntmps44
    go_wp2
    go_ret
    exact NewI.mk' (l := [nx]) rfl rfl (HLR.out.more (by simp)) (Nat.le_refl _) (Below.refl _ _) HW2.out
  · have HLR := Lib.hid (lit_reads (w.alloc (.cells #[.int .u8 6, .int .u8 bop, .int .i64 d, .int .i64 e, .int .i64 a, .int .i64 b, .int .i64 f, .int .i64 cell, .int .u64 imm, .slice ao nA ac, .int .i64 nx, .int .i64 el] 64)) 3 (i64c [nx]) 1 rfl)
    have HW2 : Hid (Below w.heap.size w ((w.alloc (.cells #[.int .u8 6, .int .u8 bop, .int .i64 d, .int .i64 e, .int .i64 a, .int .i64 b, .int .i64 f, .int .i64 cell, .int .u64 imm, .slice ao nA ac, .int .i64 nx, .int .i64 el] 64)).alloc (.cells #[.int .i64 nx] 3))) := HW1.out.alloc (by simp) _
    rw [hz1] at HLR
    go_enter Tryd.func44, Tryd.ntmps44
    go_wp2
    go_ret
    exact NewI.mk' (l := [nx]) rfl rfl (HLR.out.more (by simp)) (Nat.le_refl _) (Below.refl _ _) HW2.out
  · have HLR := Lib.hid (lit_reads (w.alloc (.cells #[.int .u8 7, .int .u8 bop, .int .i64 d, .int .i64 e, .int .i64 a, .int .i64 b, .int .i64 f, .int .i64 cell, .int .u64 imm, .slice ao nA ac, .int .i64 nx, .int .i64 el] 64)) 3 (i64c [nx]) 1 rfl)
    have HW2 : Hid (Below w.heap.size w ((w.alloc (.cells #[.int .u8 7, .int .u8 bop, .int .i64 d, .int .i64 e, .int .i64 a, .int .i64 b, .int .i64 f, .int .i64 cell, .int .u64 imm, .slice ao nA ac, .int .i64 nx, .int .i64 el] 64)).alloc (.cells #[.int .i64 nx] 3))) := HW1.out.alloc (by simp) _
    rw [hz1] at HLR
    go_enter Tryd.func44, Tryd.ntmps44
    go_wp2
    go_ret
    exact NewI.mk' (l := [nx]) rfl rfl (HLR.out.more (by simp)) (Nat.le_refl _) (Below.refl _ _) HW2.out
  · have HLR := Lib.hid (lit_reads (w.alloc (.cells #[.int .u8 8, .int .u8 bop, .int .i64 d, .int .i64 e, .int .i64 a, .int .i64 b, .int .i64 f, .int .i64 cell, .int .u64 imm, .slice ao nA ac, .int .i64 nx, .int .i64 el] 64)) 3 (i64c [nx]) 1 rfl)
    have HW2 : Hid (Below w.heap.size w ((w.alloc (.cells #[.int .u8 8, .int .u8 bop, .int .i64 d, .int .i64 e, .int .i64 a, .int .i64 b, .int .i64 f, .int .i64 cell, .int .u64 imm, .slice ao nA ac, .int .i64 nx, .int .i64 el] 64)).alloc (.cells #[.int .i64 nx] 3))) := HW1.out.alloc (by simp) _
    rw [hz1] at HLR
    go_enter Tryd.func44, Tryd.ntmps44
    go_wp2
    go_ret
    exact NewI.mk' (l := [nx]) rfl rfl (HLR.out.more (by simp)) (Nat.le_refl _) (Below.refl _ _) HW2.out
  · by_cases hne : el = nx
    · have hg : (el != nx) = false := by simpa using hne
      have HE := Lib.hid hne
      clear hne
      have HLR := Lib.hid (lit_reads (w.alloc (.cells #[.int .u8 9, .int .u8 bop, .int .i64 d, .int .i64 e, .int .i64 a, .int .i64 b, .int .i64 f, .int .i64 cell, .int .u64 imm, .slice ao nA ac, .int .i64 nx, .int .i64 el] 64)) 3 (i64c [nx]) 1 rfl)
      have HW2 : Hid (Below w.heap.size w ((w.alloc (.cells #[.int .u8 9, .int .u8 bop, .int .i64 d, .int .i64 e, .int .i64 a, .int .i64 b, .int .i64 f, .int .i64 cell, .int .u64 imm, .slice ao nA ac, .int .i64 nx, .int .i64 el] 64)).alloc (.cells #[.int .i64 nx] 3))) := HW1.out.alloc (by simp) _
      rw [hz1] at HLR
      go_enter Tryd.func44, Tryd.ntmps44
      go_wp2
      go_ret
      exact NewI.mk' (l := [nx]) (by unfold nextsOf; simp [HE.out]) rfl (HLR.out.more (by simp)) (Nat.le_refl _) (Below.refl _ _) HW2.out
    · have hg : (el != nx) = true := by simpa using hne
      have HE := Lib.hid hne
      clear hne
      have HLR := Lib.hid (lit_reads (w.alloc (.cells #[.int .u8 9, .int .u8 bop, .int .i64 d, .int .i64 e, .int .i64 a, .int .i64 b, .int .i64 f, .int .i64 cell, .int .u64 imm, .slice ao nA ac, .int .i64 nx, .int .i64 el] 64)) 3 (i64c [nx, el]) 2 rfl)
      have HW2 : Hid (Below w.heap.size w ((w.alloc (.cells #[.int .u8 9, .int .u8 bop, .int .i64 d, .int .i64 e, .int .i64 a, .int .i64 b, .int .i64 f, .int .i64 cell, .int .u64 imm, .slice ao nA ac, .int .i64 nx, .int .i64 el] 64)).alloc (.cells #[.int .i64 nx, .int .i64 el] 3))) := HW1.out.alloc (by simp) _
      rw [hz1] at HLR
      go_enter Tryd.func44, Tryd.ntmps44
      go_wp2
      go_ret
      exact NewI.mk' (l := [nx, el]) (by unfold nextsOf; simp [HE.out]) rfl (HLR.out.more (by simp)) (Nat.le_refl _) (Below.refl _ _) HW2.out
  · have HLR := Lib.hid (lit_reads (w.alloc (.cells #[.int .u8 10, .int .u8 bop, .int .i64 d, .int .i64 e, .int .i64 a, .int .i64 b, .int .i64 f, .int .i64 cell, .int .u64 imm, .slice ao nA ac, .int .i64 nx, .int .i64 el] 64)) 3 (i64c [nx]) 1 rfl)
    have HW2 : Hid (Below w.heap.size w ((w.alloc (.cells #[.int .u8 10, .int .u8 bop, .int .i64 d, .int .i64 e, .int .i64 a, .int .i64 b, .int .i64 f, .int .i64 cell, .int .u64 imm, .slice ao nA ac, .int .i64 nx, .int .i64 el] 64)).alloc (.cells #[.int .i64 nx] 3))) := HW1.out.alloc (by simp) _
    rw [hz1] at HLR
    go_enter Tryd.func44, Tryd.ntmps44
    go_wp2
    go_ret
    exact NewI.mk' (l := [nx]) rfl rfl (HLR.out.more (by simp)) (Nat.le_refl _) (Below.refl _ _) HW2.out
  · have HLR := Lib.hid (lit_reads (w.alloc (.cells #[.int .u8 11, .int .u8 bop, .int .i64 d, .int .i64 e, .int .i64 a, .int .i64 b, .int .i64 f, .int .i64 cell, .int .u64 imm, .slice ao nA ac, .int .i64 nx, .int .i64 el] 64)) 3 (i64c [nx]) 1 rfl)
    have HW2 : Hid (Below w.heap.size w ((w.alloc (.cells #[.int .u8 11, .int .u8 bop, .int .i64 d, .int .i64 e, .int .i64 a, .int .i64 b, .int .i64 f, .int .i64 cell, .int .u64 imm, .slice ao nA ac, .int .i64 nx, .int .i64 el] 64)).alloc (.cells #[.int .i64 nx] 3))) := HW1.out.alloc (by simp) _
    rw [hz1] at HLR
    go_enter Tryd.func44, Tryd.ntmps44
    go_wp2
    go_ret
    exact NewI.mk' (l := [nx]) rfl rfl (HLR.out.more (by simp)) (Nat.le_refl _) (Below.refl _ _) HW2.out
  · go_enter Tryd.func44, Tryd.ntmps44
    go_wp2
    go_ret
    exact NewI.mk' (l := []) rfl rfl Reads.none_ (Nat.le_refl _) (Below.refl _ _) HW1.out
  · have HLR := Lib.hid (lit_reads (w.alloc (.cells #[.int .u8 13, .int .u8 bop, .int .i64 d, .int .i64 e, .int .i64 a, .int .i64 b, .int .i64 f, .int .i64 cell, .int .u64 imm, .slice ao nA ac, .int .i64 nx, .int .i64 el] 64)) 3 (i64c [nx]) 1 rfl)
    have HW2 : Hid (Below w.heap.size w ((w.alloc (.cells #[.int .u8 13, .int .u8 bop, .int .i64 d, .int .i64 e, .int .i64 a, .int .i64 b, .int .i64 f, .int .i64 cell, .int .u64 imm, .slice ao nA ac, .int .i64 nx, .int .i64 el] 64)).alloc (.cells #[.int .i64 nx] 3))) := HW1.out.alloc (by simp) _
    rw [hz1] at HLR
    go_enter Tryd.func44, Tryd.ntmps44
    go_wp2
    go_ret
    exact NewI.mk' (l := [nx]) rfl rfl (HLR.out.more (by simp)) (Nat.le_refl _) (Below.refl _ _) HW2.out
  · go_enter Tryd.func44, Tryd.ntmps44
    go_wp2
    go_ret
    exact NewI.mk' (l := []) rfl rfl Reads.none_ (Nat.le_refl _) (Below.refl _ _) HW1.out
  · have HLR := Lib.hid (lit_reads (w.alloc (.cells #[.int .u8 15, .int .u8 bop, .int .i64 d, .int .i64 e, .int .i64 a, .int .i64 b, .int .i64 f, .int .i64 cell, .int .u64 imm, .slice ao nA ac, .int .i64 nx, .int .i64 el] 64)) 3 (i64c [nx]) 1 rfl)
    have HW2 : Hid (Below w.heap.size w ((w.alloc (.cells #[.int .u8 15, .int .u8 bop, .int .i64 d, .int .i64 e, .int .i64 a, .int .i64 b, .int .i64 f, .int .i64 cell, .int .u64 imm, .slice ao nA ac, .int .i64 nx, .int .i64 el] 64)).alloc (.cells #[.int .i64 nx] 3))) := HW1.out.alloc (by simp) _
    rw [hz1] at HLR
    go_enter Tryd.func44, Tryd.ntmps44
    go_wp2
    go_ret
    exact NewI.mk' (l := [nx]) rfl rfl (HLR.out.more (by simp)) (Nat.le_refl _) (Below.refl _ _) HW2.out
  · have HLR := Lib.hid (lit_reads (w.alloc (.cells #[.int .u8 16, .int .u8 bop, .int .i64 d, .int .i64 e, .int .i64 a, .int .i64 b, .int .i64 f, .int .i64 cell, .int .u64 imm, .slice ao nA ac, .int .i64 nx, .int .i64 el] 64)) 3 (i64c [nx]) 1 rfl)
    have HW2 : Hid (Below w.heap.size w ((w.alloc (.cells #[.int .u8 16, .int .u8 bop, .int .i64 d, .int .i64 e, .int .i64 a, .int .i64 b, .int .i64 f, .int .i64 cell, .int .u64 imm, .slice ao nA ac, .int .i64 nx, .int .i64 el] 64)).alloc (.cells #[.int .i64 nx] 3))) := HW1.out.alloc (by simp) _
    rw [hz1] at HLR
    go_enter Tryd.func44, Tryd.ntmps44
    go_wp2
    go_ret
    exact NewI.mk' (l := [nx]) rfl rfl (HLR.out.more (by simp)) (Nat.le_refl _) (Below.refl _ _) HW2.out
  · have HLR := Lib.hid (lit_reads (w.alloc (.cells #[.int .u8 17, .int .u8 bop, .int .i64 d, .int .i64 e, .int .i64 a, .int .i64 b, .int .i64 f, .int .i64 cell, .int .u64 imm, .slice ao nA ac, .int .i64 nx, .int .i64 el] 64)) 3 (i64c [nx]) 1 rfl)
    have HW2 : Hid (Below w.heap.size w ((w.alloc (.cells #[.int .u8 17, .int .u8 bop, .int .i64 d, .int .i64 e, .int .i64 a, .int .i64 b, .int .i64 f, .int .i64 cell, .int .u64 imm, .slice ao nA ac, .int .i64 nx, .int .i64 el] 64)).alloc (.cells #[.int .i64 nx] 3))) := HW1.out.alloc (by simp) _
    rw [hz1] at HLR
    go_enter Tryd.func44, Tryd.ntmps44
    go_wp2
    go_ret
    exact NewI.mk' (l := [nx]) rfl rfl (HLR.out.more (by simp)) (Nat.le_refl _) (Below.refl _ _) HW2.out
  · go_enter Tryd.func44, Tryd.ntmps44
    go_wp2
    go_ret
    exact NewI.mk' (l := []) rfl rfl Reads.none_ (Nat.le_refl _) (Below.refl _ _) HW1.out
  · have HLL : Hid (nextsOf ⟨op, bop, d, e, a, b, f, cell, imm, args, nx, el⟩ = []) := Lib.hid (by unfold nextsOf; rw [if_pos]; show op < 1 ∨ 18 < op ∨ op = 12 ∨ op = 14 ∨ op = 18; omega)
    have g12 : (op == 12) = false := by simp; omega
    have g14 : (op == 14) = false := by simp; omega
    have g18 : (op == 18) = false := by simp; omega
    have g9 : (op == 9) = false := by simp; omega
    have q1 : decide (op ≥ 1) = true ∧ decide (op ≤ 18) = false ∨ decide (op ≥ 1) = false := by simp; omega
    have q2 : decide (op < 1) = true ∨ decide (op < 1) = false ∧ decide (op > 18) = true := by simp; omega
    rcases q1 with ⟨q1, q1'⟩ | q1 <;> rcases q2 with q2 | ⟨q2, q2'⟩
    all_goals
      go_enter Tryd.func44, Tryd.ntmps44
      go_wp2
      go_ret
      exact NewI.mk' HLL.out.symm rfl Reads.none_ (Nat.le_refl _) (Below.refl _ _) HW1.out

set_option maxRecDepth 100000 in
set_option maxHeartbeats 6400000 in
theorem rnext_any (op bop d e a b f cell imm : Int) (args : List Int) (nx el : Int) (ao : Option Addr) (nA ac : Nat) (w : World) (ho0 : 0 ≤ op) (ho1 : op ≤ 255) :
    Calls Tryd.prog 27 #[.agg #[.int .u8 op, .int .u8 bop, .int .i64 d, .int .i64 e, .int .i64 a, .int .i64 b, .int .i64 f, .int .i64 cell, .int .u64 imm, .slice ao nA ac, .int .i64 nx, .int .i64 el]] w (NewI w (nextsOf ⟨op, bop, d, e, a, b, f, cell, imm, args, nx, el⟩)) := by
  have HW1 : Hid (Below w.heap.size w (w.alloc (.cells #[.int .u8 op, .int .u8 bop, .int .i64 d, .int .i64 e, .int .i64 a, .int .i64 b, .int .i64 f, .int .i64 cell, .int .u64 imm, .slice ao nA ac, .int .i64 nx, .int .i64 el] 64))) := (Below.refl _ _).alloc (Nat.le_refl _) _
  have hz1 : (w.alloc (.cells #[.int .u8 op, .int .u8 bop, .int .i64 d, .int .i64 e, .int .i64 a, .int .i64 b, .int .i64 f, .int .i64 cell, .int .u64 imm, .slice ao nA ac, .int .i64 nx, .int .i64 el] 64)).heap.size = w.heap.size + 1 := by simp
  rcases op_cases ho0 ho1 with rfl | rfl | rfl | rfl | rfl | rfl | rfl | rfl | rfl | rfl | rfl | rfl | rfl | rfl | rfl | rfl | rfl | rfl | hop
  · have HLR := Lib.hid (lit_reads (w.alloc (.cells #[.int .u8 1, .int .u8 bop, .int .i64 d, .int .i64 e, .int .i64 a, .int .i64 b, .int .i64 f, .int .i64 cell, .int .u64 imm, .slice ao nA ac, .int .i64 nx, .int .i64 el] 64)) 3 (i64c [nx]) 1 rfl)
    have HW2 : Hid (Below w.heap.size w ((w.alloc (.cells #[.int .u8 1, .int .u8 bop, .int .i64 d, .int .i64 e, .int .i64 a, .int .i64 b, .int .i64 f, .int .i64 cell, .int .u64 imm, .slice ao nA ac, .int .i64 nx, .int .i64 el] 64)).alloc (.cells #[.int .i64 nx] 3))) := HW1.out.alloc (by simp) _
    rw [hz1] at HLR
    go_enter Tryd.func27, Tryd.ntmps27
    go_wp2
    go_ret
    exact NewI.mk' (l := [nx]) rfl rfl (HLR.out.more (by simp)) (Nat.le_refl _) (Below.refl _ _) HW2.out
  · have HLR := Lib.hid (lit_reads (w.alloc (.cells #[.int .u8 2, .int .u8 bop, .int .i64 d, .int .i64 e, .int .i64 a, .int .i64 b, .int .i64 f, .int .i64 cell, .int .u64 imm, .slice ao nA ac, .int .i64 nx, .int .i64 el] 64)) 3 (i64c [nx]) 1 rfl)
    have HW2 : Hid (Below w.heap.size w ((w.alloc (.cells #[.int .u8 2, .int .u8 bop, .int .i64 d, .int .i64 e, .int .i64 a, .int .i64 b, .int .i64 f, .int .i64 cell, .int .u64 imm, .slice ao nA ac, .int .i64 nx, .int .i64 el] 64)).alloc (.cells #[.int .i64 nx] 3))) := HW1.out.alloc (by simp) _
    rw [hz1] at HLR
    go_enter Tryd.func27, Tryd.ntmps27
    go_wp2
    go_ret
    exact NewI.mk' (l := [nx]) rfl rfl (HLR.out.more (by simp)) (Nat.le_refl _) (Below.refl _ _) HW2.out
  · have HLR := Lib.hid (lit_reads (w.alloc (.cells #[.int .u8 3, .int .u8 bop, .int .i64 d, .int .i64 e, .int .i64 a, .int .i64 b, .int .i64 f, .int .i64 cell, .int .u64 imm, .slice ao nA ac, .int .i64 nx, .int .i64 el] 64)) 3 (i64c [nx]) 1 rfl)
    have HW2 : Hid (Below w.heap.size w ((w.alloc (.cells #[.int .u8 3, .int .u8 bop, .int .i64 d, .int .i64 e, .int .i64 a, .int .i64 b, .int .i64 f, .int .i64 cell, .int .u64 imm, .slice ao nA ac, .int .i64 nx, .int .i64 el] 64)).alloc (.cells #[.int .i64 nx] 3))) := HW1.out.alloc (by simp) _
    rw [hz1] at HLR
    go_enter Tryd.func27, Tryd.ntmps27
    go_wp2
    go_ret
    exact NewI.mk' (l := [nx]) rfl rfl (HLR.out.more (by simp)) (Nat.le_refl _) (Below.refl _ _) HW2.out
  · have HLR := Lib.hid (lit_reads (w.alloc (.cells #[.int .u8 4, .int .u8 bop, .int .i64 d, .int .i64 e, .int .i64 a, .int .i64 b, .int .i64 f, .int .i64 cell, .int .u64 imm, .slice ao nA ac, .int .i64 nx, .int .i64 el] 64)) 3 (i64c [nx]) 1 rfl)
    have HW2 : Hid (Below w.heap.size w ((w.alloc (.cells #[.int .u8 4, .int .u8 bop, .int .i64 d, .int .i64 e, .int .i64 a, .int .i64 b, .int .i64 f, .int .i64 cell, .int .u64 imm, .slice ao nA ac, .int .i64 nx, .int .i64 el] 64)).alloc (.cells #[.int .i64 nx] 3))) := HW1.out.alloc (by simp) _
    rw [hz1] at HLR
    go_enter Tryd.func27, Tryd.ntmps27
    go_wp2
    go_ret
    exact NewI.mk' (l := [nx]) rfl rfl (HLR.out.more (by simp)) (Nat.le_refl _) (Below.refl _ _) HW2.out
  · have HLR := Lib.hid (lit_reads (w.alloc (.cells #[.int .u8 5, .int .u8 bop, .int .i64 d, .int .i64 e, .int .i64 a, .int .i64 b, .int .i64 f, .int .i64 cell, .int .u64 imm, .slice ao nA ac, .int .i64 nx, .int .i64 el] 64)) 3 (i64c [nx]) 1 rfl)
    have HW2 : Hid (Below w.heap.size w ((w.alloc (.cells #[.int .u8 5, .int .u8 bop, .int .i64 d, .int .i64 e, .int .i64 a, .int .i64 b, .int .i64 f, .int .i64 cell, .int .u64 imm, .slice ao nA ac, .int .i64 nx, .int .i64 el] 64)).alloc (.cells #[.int .i64 nx] 3))) := HW1.out.alloc (by simp) _
    rw [hz1] at HLR
    go_enter Tryd.func27, Tryd.ntmps27
    go_wp2
    go_ret
    exact NewI.mk' (l := [nx]) rfl rfl (HLR.out.more (by simp)) (Nat.le_refl _) (Below.refl _ _) HW2.out
  · have HLR := Lib.hid (lit_reads (w.alloc (.cells #[.int .u8 6, .int .u8 bop, .int .i64 d, .int .i64 e, .int .i64 a, .int .i64 b, .int .i64 f, .int .i64 cell, .int .u64 imm, .slice ao nA ac, .int .i64 nx, .int .i64 el] 64)) 3 (i64c [nx]) 1 rfl)
    have HW2 : Hid (Below w.heap.size w ((w.alloc (.cells #[.int .u8 6, .int .u8 bop, .int .i64 d, .int .i64 e, .int .i64 a, .int .i64 b, .int .i64 f, .int .i64 cell, .int .u64 imm, .slice ao nA ac, .int .i64 nx, .int .i64 el] 64)).alloc (.cells #[.int .i64 nx] 3))) := HW1.out.alloc (by simp) _
    rw [hz1] at HLR
    go_enter Tryd.func27, Tryd.ntmps27
    go_wp2
    go_ret
    exact NewI.mk' (l := [nx]) rfl rfl (HLR.out.more (by simp)) (Nat.le_refl _) (Below.refl _ _) HW2.out
  · have HLR := Lib.hid (lit_reads (w.alloc (.cells #[.int .u8 7, .int .u8 bop, .int .i64 d, .int .i64 e, .int .i64 a, .int .i64 b, .int .i64 f, .int .i64 cell, .int .u64 imm, .slice ao nA ac, .int .i64 nx, .int .i64 el] 64)) 3 (i64c [nx]) 1 rfl)
    have HW2 : Hid (Below w.heap.size w ((w.alloc (.cells #[.int .u8 7, .int .u8 bop, .int .i64 d, .int .i64 e, .int .i64 a, .int .i64 b, .int .i64 f, .int .i64 cell, .int .u64 imm, .slice ao nA ac, .int .i64 nx, .int .i64 el] 64)).alloc (.cells #[.int .i64 nx] 3))) := HW1.out.alloc (by simp) _
    rw [hz1] at HLR
    go_enter Tryd.func27, Tryd.ntmps27
    go_wp2
    go_ret
    exact NewI.mk' (l := [nx]) rfl rfl (HLR.out.more (by simp)) (Nat.le_refl _) (Below.refl _ _) HW2.out
  · have HLR := Lib.hid (lit_reads (w.alloc (.cells #[.int .u8 8, .int .u8 bop, .int .i64 d, .int .i64 e, .int .i64 a, .int .i64 b, .int .i64 f, .int .i64 cell, .int .u64 imm, .slice ao nA ac, .int .i64 nx, .int .i64 el] 64)) 3 (i64c [nx]) 1 rfl)
    have HW2 : Hid (Below w.heap.size w ((w.alloc (.cells #[.int .u8 8, .int .u8 bop, .int .i64 d, .int .i64 e, .int .i64 a, .int .i64 b, .int .i64 f, .int .i64 cell, .int .u64 imm, .slice ao nA ac, .int .i64 nx, .int .i64 el] 64)).alloc (.cells #[.int .i64 nx] 3))) := HW1.out.alloc (by simp) _
    rw [hz1] at HLR
    go_enter Tryd.func27, Tryd.ntmps27
    go_wp2
    go_ret
    exact NewI.mk' (l := [nx]) rfl rfl (HLR.out.more (by simp)) (Nat.le_refl _) (Below.refl _ _) HW2.out
  · by_cases hne : el = nx
    · have hg : (el != nx) = false := by simpa using hne
      have HE := Lib.hid hne
      clear hne
      have HLR := Lib.hid (lit_reads (w.alloc (.cells #[.int .u8 9, .int .u8 bop, .int .i64 d, .int .i64 e, .int .i64 a, .int .i64 b, .int .i64 f, .int .i64 cell, .int .u64 imm, .slice ao nA ac, .int .i64 nx, .int .i64 el] 64)) 3 (i64c [nx]) 1 rfl)
      have HW2 : Hid (Below w.heap.size w ((w.alloc (.cells #[.int .u8 9, .int .u8 bop, .int .i64 d, .int .i64 e, .int .i64 a, .int .i64 b, .int .i64 f, .int .i64 cell, .int .u64 imm, .slice ao nA ac, .int .i64 nx, .int .i64 el] 64)).alloc (.cells #[.int .i64 nx] 3))) := HW1.out.alloc (by simp) _
      rw [hz1] at HLR
      go_enter Tryd.func27, Tryd.ntmps27
      go_wp2
      go_ret
      exact NewI.mk' (l := [nx]) (by unfold nextsOf; simp [HE.out]) rfl (HLR.out.more (by simp)) (Nat.le_refl _) (Below.refl _ _) HW2.out
    · have hg : (el != nx) = true := by simpa using hne
      have HE := Lib.hid hne
      clear hne
      have HLR := Lib.hid (lit_reads (w.alloc (.cells #[.int .u8 9, .int .u8 bop, .int .i64 d, .int .i64 e, .int .i64 a, .int .i64 b, .int .i64 f, .int .i64 cell, .int .u64 imm, .slice ao nA ac, .int .i64 nx, .int .i64 el] 64)) 3 (i64c [nx, el]) 2 rfl)
      have HW2 : Hid (Below w.heap.size w ((w.alloc (.cells #[.int .u8 9, .int .u8 bop, .int .i64 d, .int .i64 e, .int .i64 a, .int .i64 b, .int .i64 f, .int .i64 cell, .int .u64 imm, .slice ao nA ac, .int .i64 nx, .int .i64 el] 64)).alloc (.cells #[.int .i64 nx, .int .i64 el] 3))) := HW1.out.alloc (by simp) _
      rw [hz1] at HLR
      go_enter Tryd.func27, Tryd.ntmps27
      go_wp2
      go_ret
      exact NewI.mk' (l := [nx, el]) (by unfold nextsOf; simp [HE.out]) rfl (HLR.out.more (by simp)) (Nat.le_refl _) (Below.refl _ _) HW2.out
  · have HLR := Lib.hid (lit_reads (w.alloc (.cells #[.int .u8 10, .int .u8 bop, .int .i64 d, .int .i64 e, .int .i64 a, .int .i64 b, .int .i64 f, .int .i64 cell, .int .u64 imm, .slice ao nA ac, .int .i64 nx, .int .i64 el] 64)) 3 (i64c [nx]) 1 rfl)
    have HW2 : Hid (Below w.heap.size w ((w.alloc (.cells #[.int .u8 10, .int .u8 bop, .int .i64 d, .int .i64 e, .int .i64 a, .int .i64 b, .int .i64 f, .int .i64 cell, .int .u64 imm, .slice ao nA ac, .int .i64 nx, .int .i64 el] 64)).alloc (.cells #[.int .i64 nx] 3))) := HW1.out.alloc (by simp) _
    rw [hz1] at HLR
    go_enter Tryd.func27, Tryd.ntmps27
    go_wp2
    go_ret
    exact NewI.mk' (l := [nx]) rfl rfl (HLR.out.more (by simp)) (Nat.le_refl _) (Below.refl _ _) HW2.out
  · have HLR := Lib.hid (lit_reads (w.alloc (.cells #[.int .u8 11, .int .u8 bop, .int .i64 d, .int .i64 e, .int .i64 a, .int .i64 b, .int .i64 f, .int .i64 cell, .int .u64 imm, .slice ao nA ac, .int .i64 nx, .int .i64 el] 64)) 3 (i64c [nx]) 1 rfl)
    have HW2 : Hid (Below w.heap.size w ((w.alloc (.cells #[.int .u8 11, .int .u8 bop, .int .i64 d, .int .i64 e, .int .i64 a, .int .i64 b, .int .i64 f, .int .i64 cell, .int .u64 imm, .slice ao nA ac, .int .i64 nx, .int .i64 el] 64)).alloc (.cells #[.int .i64 nx] 3))) := HW1.out.alloc (by simp) _
    rw [hz1] at HLR
    go_enter Tryd.func27, Tryd.ntmps27
    go_wp2
    go_ret
    exact NewI.mk' (l := [nx]) rfl rfl (HLR.out.more (by simp)) (Nat.le_refl _) (Below.refl _ _) HW2.out
  · go_enter Tryd.func27, Tryd.ntmps27
    go_wp2
    go_ret
    exact NewI.mk' (l := []) rfl rfl Reads.none_ (Nat.le_refl _) (Below.refl _ _) HW1.out
  · have HLR := Lib.hid (lit_reads (w.alloc (.cells #[.int .u8 13, .int .u8 bop, .int .i64 d, .int .i64 e, .int .i64 a, .int .i64 b, .int .i64 f, .int .i64 cell, .int .u64 imm, .slice ao nA ac, .int .i64 nx, .int .i64 el] 64)) 3 (i64c [nx]) 1 rfl)
    have HW2 : Hid (Below w.heap.size w ((w.alloc (.cells #[.int .u8 13, .int .u8 bop, .int .i64 d, .int .i64 e, .int .i64 a, .int .i64 b, .int .i64 f, .int .i64 cell, .int .u64 imm, .slice ao nA ac, .int .i64 nx, .int .i64 el] 64)).alloc (.cells #[.int .i64 nx] 3))) := HW1.out.alloc (by simp) _
    rw [hz1] at HLR
    go_enter Tryd.func27, Tryd.ntmps27
    go_wp2
    go_ret
    exact NewI.mk' (l := [nx]) rfl rfl (HLR.out.more (by simp)) (Nat.le_refl _) (Below.refl _ _) HW2.out
  · go_enter Tryd.func27, Tryd.ntmps27
    go_wp2
    go_ret
    exact NewI.mk' (l := []) rfl rfl Reads.none_ (Nat.le_refl _) (Below.refl _ _) HW1.out
  · have HLR := Lib.hid (lit_reads (w.alloc (.cells #[.int .u8 15, .int .u8 bop, .int .i64 d, .int .i64 e, .int .i64 a, .int .i64 b, .int .i64 f, .int .i64 cell, .int .u64 imm, .slice ao nA ac, .int .i64 nx, .int .i64 el] 64)) 3 (i64c [nx]) 1 rfl)
    have HW2 : Hid (Below w.heap.size w ((w.alloc (.cells #[.int .u8 15, .int .u8 bop, .int .i64 d, .int .i64 e, .int .i64 a, .int .i64 b, .int .i64 f, .int .i64 cell, .int .u64 imm, .slice ao nA ac, .int .i64 nx, .int .i64 el] 64)).alloc (.cells #[.int .i64 nx] 3))) := HW1.out.alloc (by simp) _
    rw [hz1] at HLR
    go_enter Tryd.func27, Tryd.ntmps27
    go_wp2
    go_ret
    exact NewI.mk' (l := [nx]) rfl rfl (HLR.out.more (by simp)) (Nat.le_refl _) (Below.refl _ _) HW2.out
  · have HLR := Lib.hid (lit_reads (w.alloc (.cells #[.int .u8 16, .int .u8 bop, .int .i64 d, .int .i64 e, .int .i64 a, .int .i64 b, .int .i64 f, .int .i64 cell, .int .u64 imm, .slice ao nA ac, .int .i64 nx, .int .i64 el] 64)) 3 (i64c [nx]) 1 rfl)
    have HW2 : Hid (Below w.heap.size w ((w.alloc (.cells #[.int .u8 16, .int .u8 bop, .int .i64 d, .int .i64 e, .int .i64 a, .int .i64 b, .int .i64 f, .int .i64 cell, .int .u64 imm, .slice ao nA ac, .int .i64 nx, .int .i64 el] 64)).alloc (.cells #[.int .i64 nx] 3))) := HW1.out.alloc (by simp) _
    rw [hz1] at HLR
    go_enter Tryd.func27, Tryd.ntmps27
    go_wp2
    go_ret
    exact NewI.mk' (l := [nx]) rfl rfl (HLR.out.more (by simp)) (Nat.le_refl _) (Below.refl _ _) HW2.out
  · have HLR := Lib.hid (lit_reads (w.alloc (.cells #[.int .u8 17, .int .u8 bop, .int .i64 d, .int .i64 e, .int .i64 a, .int .i64 b, .int .i64 f, .int .i64 cell, .int .u64 imm, .slice ao nA ac, .int .i64 nx, .int .i64 el] 64)) 3 (i64c [nx]) 1 rfl)
    have HW2 : Hid (Below w.heap.size w ((w.alloc (.cells #[.int .u8 17, .int .u8 bop, .int .i64 d, .int .i64 e, .int .i64 a, .int .i64 b, .int .i64 f, .int .i64 cell, .int .u64 imm, .slice ao nA ac, .int .i64 nx, .int .i64 el] 64)).alloc (.cells #[.int .i64 nx] 3))) := HW1.out.alloc (by simp) _
    rw [hz1] at HLR
    go_enter Tryd.func27, Tryd.ntmps27
    go_wp2
    go_ret
    exact NewI.mk' (l := [nx]) rfl rfl (HLR.out.more (by simp)) (Nat.le_refl _) (Below.refl _ _) HW2.out
  · go_enter Tryd.func27, Tryd.ntmps27
    go_wp2
    go_ret
    exact NewI.mk' (l := []) rfl rfl Reads.none_ (Nat.le_refl _) (Below.refl _ _) HW1.out
  · have HLL : Hid (nextsOf ⟨op, bop, d, e, a, b, f, cell, imm, args, nx, el⟩ = []) := Lib.hid (by unfold nextsOf; rw [if_pos]; show op < 1 ∨ 18 < op ∨ op = 12 ∨ op = 14 ∨ op = 18; omega)
    have g12 : (op == 12) = false := by simp; omega
    have g14 : (op == 14) = false := by simp; omega
    have g18 : (op == 18) = false := by simp; omega
    have g9 : (op == 9) = false := by simp; omega
    have q1 : decide (op ≥ 1) = true ∧ decide (op ≤ 18) = false ∨ decide (op ≥ 1) = false := by simp; omega
    have q2 : decide (op < 1) = true ∨ decide (op < 1) = false ∧ decide (op > 18) = true := by simp; omega
    rcases q1 with ⟨q1, q1'⟩ | q1 <;> rcases q2 with q2 | ⟨q2, q2'⟩
    all_goals
      go_enter Tryd.func27, Tryd.ntmps27
      go_wp2
      go_ret
      exact NewI.mk' HLL.out.symm rfl Reads.none_ (Nat.le_refl _) (Below.refl _ _) HW1.out
end Go.Proofs.YtmfdaeicbaibeaaDoor
