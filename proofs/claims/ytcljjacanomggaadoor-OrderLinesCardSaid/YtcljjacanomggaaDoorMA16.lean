/-
  Texts of one seat, one behind the other: Rr.
-/
import Derived.Test.YtcljjacanomggaaDoorMA11
import Derived.Test.YtcljjacanomggaaDoorMA14

/-
  The document's reads, writes and next nodes of a node.
-/
namespace Go.Proofs.YtcljjacanomggaaDoor
set_option linter.unusedVariables false
set_option linter.unusedSimpArgs false
open Go.ChangeShapes Go.WideShapes Go.ChangeAt Go.RowKit


set_option maxRecDepth 100000 in
set_option maxHeartbeats 6400000 in
theorem rreads_any (B : Nat) (op bop d e a b f cell imm : Int) (args : List Int) (nx el : Int) (ao : Option Addr) (nA ac : Nat) (w : World) (ho0 : 0 ≤ op) (ho1 : op ≤ 255) (hd : I64 d) (he : I64 e) (ha : I64 a) (hb : I64 b) (hn : I64 nx) (hel : I64 el) (hr : Reads w B 1 ao nA (i64c args)) (hl : args.length = nA) (hargs : ∀ x ∈ args, I64 x) (hnA : nA * 8 ≤ 140737488351232) (hnc : nA ≤ ac) (hB : B ≤ w.heap.size) :
    Calls Tryd.prog 27 #[.agg #[.int .u8 op, .int .u8 bop, .int .i64 d, .int .i64 e, .int .i64 a, .int .i64 b, .int .i64 f, .int .i64 cell, .int .u64 imm, .slice ao nA ac, .int .i64 nx, .int .i64 el]] w (NewI w (readsOf ⟨op, bop, d, e, a, b, f, cell, imm, args, nx, el⟩)) := by
  have H := Lib.hid hr
  have HL := Lib.hid hl
  have HA := Lib.hid hargs
  have HW1 : Hid (Below w.heap.size w (w.alloc (.cells #[.int .u8 op, .int .u8 bop, .int .i64 d, .int .i64 e, .int .i64 a, .int .i64 b, .int .i64 f, .int .i64 cell, .int .u64 imm, .slice ao nA ac, .int .i64 nx, .int .i64 el] 50))) := (Below.refl _ _).alloc (Nat.le_refl _) _
  have HH : Hid (Reads (w.alloc (.cells #[.int .u8 op, .int .u8 bop, .int .i64 d, .int .i64 e, .int .i64 a, .int .i64 b, .int .i64 f, .int .i64 cell, .int .u64 imm, .slice ao nA ac, .int .i64 nx, .int .i64 el] 50)) B 1 ao nA (i64c args)) := Lib.hid (hr.below (HW1.out.mono hB))
  have hB1 : B ≤ (w.alloc (.cells #[.int .u8 op, .int .u8 bop, .int .i64 d, .int .i64 e, .int .i64 a, .int .i64 b, .int .i64 f, .int .i64 cell, .int .u64 imm, .slice ao nA ac, .int .i64 nx, .int .i64 el] 50)).heap.size := by simp; omega
  have hz1 : (w.alloc (.cells #[.int .u8 op, .int .u8 bop, .int .i64 d, .int .i64 e, .int .i64 a, .int .i64 b, .int .i64 f, .int .i64 cell, .int .u64 imm, .slice ao nA ac, .int .i64 nx, .int .i64 el] 50)).heap.size = w.heap.size + 1 := by simp
  clear hr hl hargs
  rcases op_cases ho0 ho1 with rfl | rfl | rfl | rfl | rfl | rfl | rfl | rfl | rfl | rfl | rfl | rfl | rfl | rfl | rfl | rfl | rfl | rfl | hop
  · go_enter Tryd.func27, Tryd.ntmps27
    go_wp2
    go_ret
    exact NewI.mk' (l := []) rfl rfl Reads.none_ (Nat.le_refl _) (Below.refl _ _) HW1.out
  · have HLR := Lib.hid (lit_reads (w.alloc (.cells #[.int .u8 2, .int .u8 bop, .int .i64 d, .int .i64 e, .int .i64 a, .int .i64 b, .int .i64 f, .int .i64 cell, .int .u64 imm, .slice ao nA ac, .int .i64 nx, .int .i64 el] 50)) 3 (i64c [a]) 1 rfl)
    have HWF : Hid (∀ x ∈ [a], I64 x) := Lib.hid (by intro x hx; simp at hx; subst hx; assumption)
    have HW2 : Hid (Below w.heap.size w ((w.alloc (.cells #[.int .u8 2, .int .u8 bop, .int .i64 d, .int .i64 e, .int .i64 a, .int .i64 b, .int .i64 f, .int .i64 cell, .int .u64 imm, .slice ao nA ac, .int .i64 nx, .int .i64 el] 50)).alloc (.cells #[.int .i64 a] 3))) := HW1.out.alloc (by simp) _
    have hs2 : w.heap.size + 1 + 1 ≤ ((w.alloc (.cells #[.int .u8 2, .int .u8 bop, .int .i64 d, .int .i64 e, .int .i64 a, .int .i64 b, .int .i64 f, .int .i64 cell, .int .u64 imm, .slice ao nA ac, .int .i64 nx, .int .i64 el] 50)).alloc (.cells #[.int .i64 a] 3)).heap.size := by simp
    rw [hz1] at HLR
    go_enter Tryd.func27, Tryd.ntmps27
    go_wp2_with (first | (go_at_call 42; refine (radd_any (w.heap.size + 1 + 1) _ 1 _ [a] _ HLR.out rfl HWF.out hs2 (by omega)).mono ?_; rintro ee w2 ⟨A2, c2, rfl, hr2, hc2, hb2⟩; have HR2 := Lib.hid hr2; have HB2 := Lib.hid hb2; clear hr2 hb2))
    go_ret
    exact NewI.mk' rfl rfl HR2.out hc2 HB2.out HW2.out
  · have HLR := Lib.hid (lit_reads (w.alloc (.cells #[.int .u8 3, .int .u8 bop, .int .i64 d, .int .i64 e, .int .i64 a, .int .i64 b, .int .i64 f, .int .i64 cell, .int .u64 imm, .slice ao nA ac, .int .i64 nx, .int .i64 el] 50)) 3 (i64c [a, b]) 2 rfl)
    have HWF : Hid (∀ x ∈ [a, b], I64 x) := Lib.hid (by intro x hx; simp at hx; rcases hx with rfl | rfl <;> assumption)
    have HW2 : Hid (Below w.heap.size w ((w.alloc (.cells #[.int .u8 3, .int .u8 bop, .int .i64 d, .int .i64 e, .int .i64 a, .int .i64 b, .int .i64 f, .int .i64 cell, .int .u64 imm, .slice ao nA ac, .int .i64 nx, .int .i64 el] 50)).alloc (.cells #[.int .i64 a, .int .i64 b] 3))) := HW1.out.alloc (by simp) _
    have hs2 : w.heap.size + 1 + 1 ≤ ((w.alloc (.cells #[.int .u8 3, .int .u8 bop, .int .i64 d, .int .i64 e, .int .i64 a, .int .i64 b, .int .i64 f, .int .i64 cell, .int .u64 imm, .slice ao nA ac, .int .i64 nx, .int .i64 el] 50)).alloc (.cells #[.int .i64 a, .int .i64 b] 3)).heap.size := by simp
    rw [hz1] at HLR
    go_enter Tryd.func27, Tryd.ntmps27
    go_wp2_with (first | (go_at_call 42; refine (radd_any (w.heap.size + 1 + 1) _ 2 _ [a, b] _ HLR.out rfl HWF.out hs2 (by omega)).mono ?_; rintro ee w2 ⟨A2, c2, rfl, hr2, hc2, hb2⟩; have HR2 := Lib.hid hr2; have HB2 := Lib.hid hb2; clear hr2 hb2))
    go_ret
    exact NewI.mk' rfl rfl HR2.out hc2 HB2.out HW2.out
  · go_enter Tryd.func27, Tryd.ntmps27
    go_wp2
    go_ret
    exact NewI.mk' (l := []) rfl rfl Reads.none_ (Nat.le_refl _) (Below.refl _ _) HW1.out
  · have HLR := Lib.hid (lit_reads (w.alloc (.cells #[.int .u8 5, .int .u8 bop, .int .i64 d, .int .i64 e, .int .i64 a, .int .i64 b, .int .i64 f, .int .i64 cell, .int .u64 imm, .slice ao nA ac, .int .i64 nx, .int .i64 el] 50)) 3 (i64c [a]) 1 rfl)
    have HWF : Hid (∀ x ∈ [a], I64 x) := Lib.hid (by intro x hx; simp at hx; subst hx; assumption)
    have HW2 : Hid (Below w.heap.size w ((w.alloc (.cells #[.int .u8 5, .int .u8 bop, .int .i64 d, .int .i64 e, .int .i64 a, .int .i64 b, .int .i64 f, .int .i64 cell, .int .u64 imm, .slice ao nA ac, .int .i64 nx, .int .i64 el] 50)).alloc (.cells #[.int .i64 a] 3))) := HW1.out.alloc (by simp) _
    have hs2 : w.heap.size + 1 + 1 ≤ ((w.alloc (.cells #[.int .u8 5, .int .u8 bop, .int .i64 d, .int .i64 e, .int .i64 a, .int .i64 b, .int .i64 f, .int .i64 cell, .int .u64 imm, .slice ao nA ac, .int .i64 nx, .int .i64 el] 50)).alloc (.cells #[.int .i64 a] 3)).heap.size := by simp
    rw [hz1] at HLR
    go_enter Tryd.func27, Tryd.ntmps27
    go_wp2_with (first | (go_at_call 42; refine (radd_any (w.heap.size + 1 + 1) _ 1 _ [a] _ HLR.out rfl HWF.out hs2 (by omega)).mono ?_; rintro ee w2 ⟨A2, c2, rfl, hr2, hc2, hb2⟩; have HR2 := Lib.hid hr2; have HB2 := Lib.hid hb2; clear hr2 hb2))
    go_ret
    exact NewI.mk' rfl rfl HR2.out hc2 HB2.out HW2.out
  · go_enter Tryd.func27, Tryd.ntmps27
    go_wp2
    go_ret
    exact NewI.mk' (l := []) rfl rfl Reads.none_ (Nat.le_refl _) (Below.refl _ _) HW1.out
  · have HLR := Lib.hid (lit_reads (w.alloc (.cells #[.int .u8 7, .int .u8 bop, .int .i64 d, .int .i64 e, .int .i64 a, .int .i64 b, .int .i64 f, .int .i64 cell, .int .u64 imm, .slice ao nA ac, .int .i64 nx, .int .i64 el] 50)) 3 (i64c [a]) 1 rfl)
    have HWF : Hid (∀ x ∈ [a], I64 x) := Lib.hid (by intro x hx; simp at hx; subst hx; assumption)
    have HW2 : Hid (Below w.heap.size w ((w.alloc (.cells #[.int .u8 7, .int .u8 bop, .int .i64 d, .int .i64 e, .int .i64 a, .int .i64 b, .int .i64 f, .int .i64 cell, .int .u64 imm, .slice ao nA ac, .int .i64 nx, .int .i64 el] 50)).alloc (.cells #[.int .i64 a] 3))) := HW1.out.alloc (by simp) _
    have hs2 : w.heap.size + 1 + 1 ≤ ((w.alloc (.cells #[.int .u8 7, .int .u8 bop, .int .i64 d, .int .i64 e, .int .i64 a, .int .i64 b, .int .i64 f, .int .i64 cell, .int .u64 imm, .slice ao nA ac, .int .i64 nx, .int .i64 el] 50)).alloc (.cells #[.int .i64 a] 3)).heap.size := by simp
    rw [hz1] at HLR
    go_enter Tryd.func27, Tryd.ntmps27
    go_wp2_with (first | (go_at_call 42; refine (radd_any (w.heap.size + 1 + 1) _ 1 _ [a] _ HLR.out rfl HWF.out hs2 (by omega)).mono ?_; rintro ee w2 ⟨A2, c2, rfl, hr2, hc2, hb2⟩; have HR2 := Lib.hid hr2; have HB2 := Lib.hid hb2; clear hr2 hb2))
    go_ret
    exact NewI.mk' rfl rfl HR2.out hc2 HB2.out HW2.out
  · have HLR := Lib.hid (lit_reads (w.alloc (.cells #[.int .u8 8, .int .u8 bop, .int .i64 d, .int .i64 e, .int .i64 a, .int .i64 b, .int .i64 f, .int .i64 cell, .int .u64 imm, .slice ao nA ac, .int .i64 nx, .int .i64 el] 50)) 3 (i64c [a, b]) 2 rfl)
    have HWF : Hid (∀ x ∈ [a, b], I64 x) := Lib.hid (by intro x hx; simp at hx; rcases hx with rfl | rfl <;> assumption)
    have HW2 : Hid (Below w.heap.size w ((w.alloc (.cells #[.int .u8 8, .int .u8 bop, .int .i64 d, .int .i64 e, .int .i64 a, .int .i64 b, .int .i64 f, .int .i64 cell, .int .u64 imm, .slice ao nA ac, .int .i64 nx, .int .i64 el] 50)).alloc (.cells #[.int .i64 a, .int .i64 b] 3))) := HW1.out.alloc (by simp) _
    have hs2 : w.heap.size + 1 + 1 ≤ ((w.alloc (.cells #[.int .u8 8, .int .u8 bop, .int .i64 d, .int .i64 e, .int .i64 a, .int .i64 b, .int .i64 f, .int .i64 cell, .int .u64 imm, .slice ao nA ac, .int .i64 nx, .int .i64 el] 50)).alloc (.cells #[.int .i64 a, .int .i64 b] 3)).heap.size := by simp
    rw [hz1] at HLR
    go_enter Tryd.func27, Tryd.ntmps27
    go_wp2_with (first | (go_at_call 42; refine (radd_any (w.heap.size + 1 + 1) _ 2 _ [a, b] _ HLR.out rfl HWF.out hs2 (by omega)).mono ?_; rintro ee w2 ⟨A2, c2, rfl, hr2, hc2, hb2⟩; have HR2 := Lib.hid hr2; have HB2 := Lib.hid hb2; clear hr2 hb2))
    go_ret
    exact NewI.mk' rfl rfl HR2.out hc2 HB2.out HW2.out
  · have HLR := Lib.hid (lit_reads (w.alloc (.cells #[.int .u8 9, .int .u8 bop, .int .i64 d, .int .i64 e, .int .i64 a, .int .i64 b, .int .i64 f, .int .i64 cell, .int .u64 imm, .slice ao nA ac, .int .i64 nx, .int .i64 el] 50)) 3 (i64c [a]) 1 rfl)
    have HWF : Hid (∀ x ∈ [a], I64 x) := Lib.hid (by intro x hx; simp at hx; subst hx; assumption)
    have HW2 : Hid (Below w.heap.size w ((w.alloc (.cells #[.int .u8 9, .int .u8 bop, .int .i64 d, .int .i64 e, .int .i64 a, .int .i64 b, .int .i64 f, .int .i64 cell, .int .u64 imm, .slice ao nA ac, .int .i64 nx, .int .i64 el] 50)).alloc (.cells #[.int .i64 a] 3))) := HW1.out.alloc (by simp) _
    have hs2 : w.heap.size + 1 + 1 ≤ ((w.alloc (.cells #[.int .u8 9, .int .u8 bop, .int .i64 d, .int .i64 e, .int .i64 a, .int .i64 b, .int .i64 f, .int .i64 cell, .int .u64 imm, .slice ao nA ac, .int .i64 nx, .int .i64 el] 50)).alloc (.cells #[.int .i64 a] 3)).heap.size := by simp
    rw [hz1] at HLR
    go_enter Tryd.func27, Tryd.ntmps27
    go_wp2_with (first | (go_at_call 42; refine (radd_any (w.heap.size + 1 + 1) _ 1 _ [a] _ HLR.out rfl HWF.out hs2 (by omega)).mono ?_; rintro ee w2 ⟨A2, c2, rfl, hr2, hc2, hb2⟩; have HR2 := Lib.hid hr2; have HB2 := Lib.hid hb2; clear hr2 hb2))
    go_ret
    exact NewI.mk' rfl rfl HR2.out hc2 HB2.out HW2.out
  · go_enter Tryd.func27, Tryd.ntmps27
    go_wp2
    go_ret
    exact NewI.mk' (l := []) rfl rfl Reads.none_ (Nat.le_refl _) (Below.refl _ _) HW1.out
  · go_enter Tryd.func27, Tryd.ntmps27
    go_wp2_with (first | (go_at_call 42; refine (radd_any B ao nA ac args _ HH.out HL.out HA.out hB1 hnA).mono ?_; rintro ee w2 ⟨A2, c2, rfl, hr2, hc2, hb2⟩; have HR2 := Lib.hid hr2; have HB2 := Lib.hid hb2; clear hr2 hb2))
    go_ret
    exact NewI.mk' rfl rfl HR2.out hc2 HB2.out HW1.out
  · have HLR := Lib.hid (lit_reads (w.alloc (.cells #[.int .u8 12, .int .u8 bop, .int .i64 d, .int .i64 e, .int .i64 a, .int .i64 b, .int .i64 f, .int .i64 cell, .int .u64 imm, .slice ao nA ac, .int .i64 nx, .int .i64 el] 50)) 3 (i64c [a]) 1 rfl)
    have HWF : Hid (∀ x ∈ [a], I64 x) := Lib.hid (by intro x hx; simp at hx; subst hx; assumption)
    have HW2 : Hid (Below w.heap.size w ((w.alloc (.cells #[.int .u8 12, .int .u8 bop, .int .i64 d, .int .i64 e, .int .i64 a, .int .i64 b, .int .i64 f, .int .i64 cell, .int .u64 imm, .slice ao nA ac, .int .i64 nx, .int .i64 el] 50)).alloc (.cells #[.int .i64 a] 3))) := HW1.out.alloc (by simp) _
    have hs2 : w.heap.size + 1 + 1 ≤ ((w.alloc (.cells #[.int .u8 12, .int .u8 bop, .int .i64 d, .int .i64 e, .int .i64 a, .int .i64 b, .int .i64 f, .int .i64 cell, .int .u64 imm, .slice ao nA ac, .int .i64 nx, .int .i64 el] 50)).alloc (.cells #[.int .i64 a] 3)).heap.size := by simp
    rw [hz1] at HLR
    go_enter Tryd.func27, Tryd.ntmps27
    go_wp2_with (first | (go_at_call 42; refine (radd_any (w.heap.size + 1 + 1) _ 1 _ [a] _ HLR.out rfl HWF.out hs2 (by omega)).mono ?_; rintro ee w2 ⟨A2, c2, rfl, hr2, hc2, hb2⟩; have HR2 := Lib.hid hr2; have HB2 := Lib.hid hb2; clear hr2 hb2))
    go_ret
    exact NewI.mk' rfl rfl HR2.out hc2 HB2.out HW2.out
  · go_enter Tryd.func27, Tryd.ntmps27
    go_wp2_with (first | (go_at_call 42; refine (radd_any B ao nA ac args _ HH.out HL.out HA.out hB1 hnA).mono ?_; rintro ee w2 ⟨A2, c2, rfl, hr2, hc2, hb2⟩; have HR2 := Lib.hid hr2; have HB2 := Lib.hid hb2; clear hr2 hb2))
    go_ret
    exact NewI.mk' rfl rfl HR2.out hc2 HB2.out HW1.out
  · have HLR := Lib.hid (lit_reads (w.alloc (.cells #[.int .u8 14, .int .u8 bop, .int .i64 d, .int .i64 e, .int .i64 a, .int .i64 b, .int .i64 f, .int .i64 cell, .int .u64 imm, .slice ao nA ac, .int .i64 nx, .int .i64 el] 50)) 3 (i64c [a]) 1 rfl)
    have HWF : Hid (∀ x ∈ [a], I64 x) := Lib.hid (by intro x hx; simp at hx; subst hx; assumption)
    have HW2 : Hid (Below w.heap.size w ((w.alloc (.cells #[.int .u8 14, .int .u8 bop, .int .i64 d, .int .i64 e, .int .i64 a, .int .i64 b, .int .i64 f, .int .i64 cell, .int .u64 imm, .slice ao nA ac, .int .i64 nx, .int .i64 el] 50)).alloc (.cells #[.int .i64 a] 3))) := HW1.out.alloc (by simp) _
    have hs2 : w.heap.size + 1 + 1 ≤ ((w.alloc (.cells #[.int .u8 14, .int .u8 bop, .int .i64 d, .int .i64 e, .int .i64 a, .int .i64 b, .int .i64 f, .int .i64 cell, .int .u64 imm, .slice ao nA ac, .int .i64 nx, .int .i64 el] 50)).alloc (.cells #[.int .i64 a] 3)).heap.size := by simp
    rw [hz1] at HLR
    go_enter Tryd.func27, Tryd.ntmps27
    go_wp2_with (first | (go_at_call 42; refine (radd_any (w.heap.size + 1 + 1) _ 1 _ [a] _ HLR.out rfl HWF.out hs2 (by omega)).mono ?_; rintro ee w2 ⟨A2, c2, rfl, hr2, hc2, hb2⟩; have HR2 := Lib.hid hr2; have HB2 := Lib.hid hb2; clear hr2 hb2))
    go_ret
    exact NewI.mk' rfl rfl HR2.out hc2 HB2.out HW2.out
  · go_enter Tryd.func27, Tryd.ntmps27
    go_wp2
    go_ret
    exact NewI.mk' (l := []) rfl rfl Reads.none_ (Nat.le_refl _) (Below.refl _ _) HW1.out
  · go_enter Tryd.func27, Tryd.ntmps27
    go_wp2
    go_ret
    exact NewI.mk' (l := []) rfl rfl Reads.none_ (Nat.le_refl _) (Below.refl _ _) HW1.out
  · have HLR := Lib.hid (lit_reads (w.alloc (.cells #[.int .u8 17, .int .u8 bop, .int .i64 d, .int .i64 e, .int .i64 a, .int .i64 b, .int .i64 f, .int .i64 cell, .int .u64 imm, .slice ao nA ac, .int .i64 nx, .int .i64 el] 50)) 3 (i64c [a]) 1 rfl)
    have HWF : Hid (∀ x ∈ [a], I64 x) := Lib.hid (by intro x hx; simp at hx; subst hx; assumption)
    have HW2 : Hid (Below w.heap.size w ((w.alloc (.cells #[.int .u8 17, .int .u8 bop, .int .i64 d, .int .i64 e, .int .i64 a, .int .i64 b, .int .i64 f, .int .i64 cell, .int .u64 imm, .slice ao nA ac, .int .i64 nx, .int .i64 el] 50)).alloc (.cells #[.int .i64 a] 3))) := HW1.out.alloc (by simp) _
    have hs2 : w.heap.size + 1 + 1 ≤ ((w.alloc (.cells #[.int .u8 17, .int .u8 bop, .int .i64 d, .int .i64 e, .int .i64 a, .int .i64 b, .int .i64 f, .int .i64 cell, .int .u64 imm, .slice ao nA ac, .int .i64 nx, .int .i64 el] 50)).alloc (.cells #[.int .i64 a] 3)).heap.size := by simp
    rw [hz1] at HLR
    go_enter Tryd.func27, Tryd.ntmps27
    go_wp2_with (first | (go_at_call 42; refine (radd_any (w.heap.size + 1 + 1) _ 1 _ [a] _ HLR.out rfl HWF.out hs2 (by omega)).mono ?_; rintro ee w2 ⟨A2, c2, rfl, hr2, hc2, hb2⟩; have HR2 := Lib.hid hr2; have HB2 := Lib.hid hb2; clear hr2 hb2))
    go_ret
    exact NewI.mk' rfl rfl HR2.out hc2 HB2.out HW2.out
  · have HLR := Lib.hid (lit_reads (w.alloc (.cells #[.int .u8 18, .int .u8 bop, .int .i64 d, .int .i64 e, .int .i64 a, .int .i64 b, .int .i64 f, .int .i64 cell, .int .u64 imm, .slice ao nA ac, .int .i64 nx, .int .i64 el] 50)) 3 (i64c [a]) 1 rfl)
    have HWF : Hid (∀ x ∈ [a], I64 x) := Lib.hid (by intro x hx; simp at hx; subst hx; assumption)
    have HW2 : Hid (Below w.heap.size w ((w.alloc (.cells #[.int .u8 18, .int .u8 bop, .int .i64 d, .int .i64 e, .int .i64 a, .int .i64 b, .int .i64 f, .int .i64 cell, .int .u64 imm, .slice ao nA ac, .int .i64 nx, .int .i64 el] 50)).alloc (.cells #[.int .i64 a] 3))) := HW1.out.alloc (by simp) _
    have hs2 : w.heap.size + 1 + 1 ≤ ((w.alloc (.cells #[.int .u8 18, .int .u8 bop, .int .i64 d, .int .i64 e, .int .i64 a, .int .i64 b, .int .i64 f, .int .i64 cell, .int .u64 imm, .slice ao nA ac, .int .i64 nx, .int .i64 el] 50)).alloc (.cells #[.int .i64 a] 3)).heap.size := by simp
    rw [hz1] at HLR
    go_enter Tryd.func27, Tryd.ntmps27
    go_wp2_with (first | (go_at_call 42; refine (radd_any (w.heap.size + 1 + 1) _ 1 _ [a] _ HLR.out rfl HWF.out hs2 (by omega)).mono ?_; rintro ee w2 ⟨A2, c2, rfl, hr2, hc2, hb2⟩; have HR2 := Lib.hid hr2; have HB2 := Lib.hid hb2; clear hr2 hb2))
    go_ret
    exact NewI.mk' rfl rfl HR2.out hc2 HB2.out HW2.out
  · have hL : readsOf ⟨op, bop, d, e, a, b, f, cell, imm, args, nx, el⟩ = [] := by
      unfold readsOf
      simp only [readF]
      repeat rw [if_neg (by omega)]
      rfl
    have HLL := Lib.hid hL
    clear hL
    have g2 : (op == 2) = false := by simp; omega
    have g5 : (op == 5) = false := by simp; omega
    have g7 : (op == 7) = false := by simp; omega
    have g9 : (op == 9) = false := by simp; omega
    have g12 : (op == 12) = false := by simp; omega
    have g14 : (op == 14) = false := by simp; omega
    have g18 : (op == 18) = false := by simp; omega
    have g17 : (op == 17) = false := by simp; omega
    have g3 : (op == 3) = false := by simp; omega
    have g8 : (op == 8) = false := by simp; omega
    have g11 : (op == 11) = false := by simp; omega
    have g13 : (op == 13) = false := by simp; omega
    go_enter Tryd.func27, Tryd.ntmps27
    go_wp2
    go_ret
    exact NewI.mk' HLL.out.symm rfl Reads.none_ (Nat.le_refl _) (Below.refl _ _) HW1.out

set_option maxRecDepth 100000 in
set_option maxHeartbeats 6400000 in
theorem rwrites_any (B : Nat) (op bop d e a b f cell imm : Int) (args : List Int) (nx el : Int) (ao : Option Addr) (nA ac : Nat) (w : World) (ho0 : 0 ≤ op) (ho1 : op ≤ 255) (hd : I64 d) (he : I64 e) (ha : I64 a) (hb : I64 b) (hn : I64 nx) (hel : I64 el) (hr : Reads w B 1 ao nA (i64c args)) (hl : args.length = nA) (hargs : ∀ x ∈ args, I64 x) (hnA : nA * 8 ≤ 140737488351232) (hnc : nA ≤ ac) (hB : B ≤ w.heap.size) :
    Calls Tryd.prog 25 #[.agg #[.int .u8 op, .int .u8 bop, .int .i64 d, .int .i64 e, .int .i64 a, .int .i64 b, .int .i64 f, .int .i64 cell, .int .u64 imm, .slice ao nA ac, .int .i64 nx, .int .i64 el]] w (NewI w (writesOf ⟨op, bop, d, e, a, b, f, cell, imm, args, nx, el⟩)) := by
  have H := Lib.hid hr
  have HL := Lib.hid hl
  have HA := Lib.hid hargs
  have HW1 : Hid (Below w.heap.size w (w.alloc (.cells #[.int .u8 op, .int .u8 bop, .int .i64 d, .int .i64 e, .int .i64 a, .int .i64 b, .int .i64 f, .int .i64 cell, .int .u64 imm, .slice ao nA ac, .int .i64 nx, .int .i64 el] 50))) := (Below.refl _ _).alloc (Nat.le_refl _) _
  have HH : Hid (Reads (w.alloc (.cells #[.int .u8 op, .int .u8 bop, .int .i64 d, .int .i64 e, .int .i64 a, .int .i64 b, .int .i64 f, .int .i64 cell, .int .u64 imm, .slice ao nA ac, .int .i64 nx, .int .i64 el] 50)) B 1 ao nA (i64c args)) := Lib.hid (hr.below (HW1.out.mono hB))
  have hB1 : B ≤ (w.alloc (.cells #[.int .u8 op, .int .u8 bop, .int .i64 d, .int .i64 e, .int .i64 a, .int .i64 b, .int .i64 f, .int .i64 cell, .int .u64 imm, .slice ao nA ac, .int .i64 nx, .int .i64 el] 50)).heap.size := by simp; omega
  have hz1 : (w.alloc (.cells #[.int .u8 op, .int .u8 bop, .int .i64 d, .int .i64 e, .int .i64 a, .int .i64 b, .int .i64 f, .int .i64 cell, .int .u64 imm, .slice ao nA ac, .int .i64 nx, .int .i64 el] 50)).heap.size = w.heap.size + 1 := by simp
  clear hr hl hargs
  rcases op_cases ho0 ho1 with rfl | rfl | rfl | rfl | rfl | rfl | rfl | rfl | rfl | rfl | rfl | rfl | rfl | rfl | rfl | rfl | rfl | rfl | hop
  · have HLR := Lib.hid (lit_reads (w.alloc (.cells #[.int .u8 1, .int .u8 bop, .int .i64 d, .int .i64 e, .int .i64 a, .int .i64 b, .int .i64 f, .int .i64 cell, .int .u64 imm, .slice ao nA ac, .int .i64 nx, .int .i64 el] 50)) 3 (i64c [d]) 1 rfl)
    have HWF : Hid (∀ x ∈ [d], I64 x) := Lib.hid (by intro x hx; simp at hx; subst hx; assumption)
    have HW2 : Hid (Below w.heap.size w ((w.alloc (.cells #[.int .u8 1, .int .u8 bop, .int .i64 d, .int .i64 e, .int .i64 a, .int .i64 b, .int .i64 f, .int .i64 cell, .int .u64 imm, .slice ao nA ac, .int .i64 nx, .int .i64 el] 50)).alloc (.cells #[.int .i64 d] 3))) := HW1.out.alloc (by simp) _
    have hs2 : w.heap.size + 1 + 1 ≤ ((w.alloc (.cells #[.int .u8 1, .int .u8 bop, .int .i64 d, .int .i64 e, .int .i64 a, .int .i64 b, .int .i64 f, .int .i64 cell, .int .u64 imm, .slice ao nA ac, .int .i64 nx, .int .i64 el] 50)).alloc (.cells #[.int .i64 d] 3)).heap.size := by simp
    rw [hz1] at HLR
    go_enter Tryd.func25, Tryd.ntmps25
    go_wp2_with (first | (go_at_call 42; refine (radd_any (w.heap.size + 1 + 1) _ 1 _ [d] _ HLR.out rfl HWF.out hs2 (by omega)).mono ?_; rintro ee w2 ⟨A2, c2, rfl, hr2, hc2, hb2⟩; have HR2 := Lib.hid hr2; have HB2 := Lib.hid hb2; clear hr2 hb2))
    go_ret
    exact NewI.mk' rfl rfl HR2.out hc2 HB2.out HW2.out
  · have HLR := Lib.hid (lit_reads (w.alloc (.cells #[.int .u8 2, .int .u8 bop, .int .i64 d, .int .i64 e, .int .i64 a, .int .i64 b, .int .i64 f, .int .i64 cell, .int .u64 imm, .slice ao nA ac, .int .i64 nx, .int .i64 el] 50)) 3 (i64c [d]) 1 rfl)
    have HWF : Hid (∀ x ∈ [d], I64 x) := Lib.hid (by intro x hx; simp at hx; subst hx; assumption)
    have HW2 : Hid (Below w.heap.size w ((w.alloc (.cells #[.int .u8 2, .int .u8 bop, .int .i64 d, .int .i64 e, .int .i64 a, .int .i64 b, .int .i64 f, .int .i64 cell, .int .u64 imm, .slice ao nA ac, .int .i64 nx, .int .i64 el] 50)).alloc (.cells #[.int .i64 d] 3))) := HW1.out.alloc (by simp) _
    have hs2 : w.heap.size + 1 + 1 ≤ ((w.alloc (.cells #[.int .u8 2, .int .u8 bop, .int .i64 d, .int .i64 e, .int .i64 a, .int .i64 b, .int .i64 f, .int .i64 cell, .int .u64 imm, .slice ao nA ac, .int .i64 nx, .int .i64 el] 50)).alloc (.cells #[.int .i64 d] 3)).heap.size := by simp
    rw [hz1] at HLR
    go_enter Tryd.func25, Tryd.ntmps25
    go_wp2_with (first | (go_at_call 42; refine (radd_any (w.heap.size + 1 + 1) _ 1 _ [d] _ HLR.out rfl HWF.out hs2 (by omega)).mono ?_; rintro ee w2 ⟨A2, c2, rfl, hr2, hc2, hb2⟩; have HR2 := Lib.hid hr2; have HB2 := Lib.hid hb2; clear hr2 hb2))
    go_ret
    exact NewI.mk' rfl rfl HR2.out hc2 HB2.out HW2.out
  · have HLR := Lib.hid (lit_reads (w.alloc (.cells #[.int .u8 3, .int .u8 bop, .int .i64 d, .int .i64 e, .int .i64 a, .int .i64 b, .int .i64 f, .int .i64 cell, .int .u64 imm, .slice ao nA ac, .int .i64 nx, .int .i64 el] 50)) 3 (i64c [d]) 1 rfl)
    have HWF : Hid (∀ x ∈ [d], I64 x) := Lib.hid (by intro x hx; simp at hx; subst hx; assumption)
    have HW2 : Hid (Below w.heap.size w ((w.alloc (.cells #[.int .u8 3, .int .u8 bop, .int .i64 d, .int .i64 e, .int .i64 a, .int .i64 b, .int .i64 f, .int .i64 cell, .int .u64 imm, .slice ao nA ac, .int .i64 nx, .int .i64 el] 50)).alloc (.cells #[.int .i64 d] 3))) := HW1.out.alloc (by simp) _
    have hs2 : w.heap.size + 1 + 1 ≤ ((w.alloc (.cells #[.int .u8 3, .int .u8 bop, .int .i64 d, .int .i64 e, .int .i64 a, .int .i64 b, .int .i64 f, .int .i64 cell, .int .u64 imm, .slice ao nA ac, .int .i64 nx, .int .i64 el] 50)).alloc (.cells #[.int .i64 d] 3)).heap.size := by simp
    rw [hz1] at HLR
    go_enter Tryd.func25, Tryd.ntmps25
    go_wp2_with (first | (go_at_call 42; refine (radd_any (w.heap.size + 1 + 1) _ 1 _ [d] _ HLR.out rfl HWF.out hs2 (by omega)).mono ?_; rintro ee w2 ⟨A2, c2, rfl, hr2, hc2, hb2⟩; have HR2 := Lib.hid hr2; have HB2 := Lib.hid hb2; clear hr2 hb2))
    go_ret
    exact NewI.mk' rfl rfl HR2.out hc2 HB2.out HW2.out
  · have HLR := Lib.hid (lit_reads (w.alloc (.cells #[.int .u8 4, .int .u8 bop, .int .i64 d, .int .i64 e, .int .i64 a, .int .i64 b, .int .i64 f, .int .i64 cell, .int .u64 imm, .slice ao nA ac, .int .i64 nx, .int .i64 el] 50)) 3 (i64c [d]) 1 rfl)
    have HWF : Hid (∀ x ∈ [d], I64 x) := Lib.hid (by intro x hx; simp at hx; subst hx; assumption)
    have HW2 : Hid (Below w.heap.size w ((w.alloc (.cells #[.int .u8 4, .int .u8 bop, .int .i64 d, .int .i64 e, .int .i64 a, .int .i64 b, .int .i64 f, .int .i64 cell, .int .u64 imm, .slice ao nA ac, .int .i64 nx, .int .i64 el] 50)).alloc (.cells #[.int .i64 d] 3))) := HW1.out.alloc (by simp) _
    have hs2 : w.heap.size + 1 + 1 ≤ ((w.alloc (.cells #[.int .u8 4, .int .u8 bop, .int .i64 d, .int .i64 e, .int .i64 a, .int .i64 b, .int .i64 f, .int .i64 cell, .int .u64 imm, .slice ao nA ac, .int .i64 nx, .int .i64 el] 50)).alloc (.cells #[.int .i64 d] 3)).heap.size := by simp
    rw [hz1] at HLR
    go_enter Tryd.func25, Tryd.ntmps25
    go_wp2_with (first | (go_at_call 42; refine (radd_any (w.heap.size + 1 + 1) _ 1 _ [d] _ HLR.out rfl HWF.out hs2 (by omega)).mono ?_; rintro ee w2 ⟨A2, c2, rfl, hr2, hc2, hb2⟩; have HR2 := Lib.hid hr2; have HB2 := Lib.hid hb2; clear hr2 hb2))
    go_ret
    exact NewI.mk' rfl rfl HR2.out hc2 HB2.out HW2.out
  · go_enter Tryd.func25, Tryd.ntmps25
    go_wp2
    go_ret
    exact NewI.mk' (l := []) rfl rfl Reads.none_ (Nat.le_refl _) (Below.refl _ _) HW1.out
  · have HLR := Lib.hid (lit_reads (w.alloc (.cells #[.int .u8 6, .int .u8 bop, .int .i64 d, .int .i64 e, .int .i64 a, .int .i64 b, .int .i64 f, .int .i64 cell, .int .u64 imm, .slice ao nA ac, .int .i64 nx, .int .i64 el] 50)) 3 (i64c [d]) 1 rfl)
    have HWF : Hid (∀ x ∈ [d], I64 x) := Lib.hid (by intro x hx; simp at hx; subst hx; assumption)
    have HW2 : Hid (Below w.heap.size w ((w.alloc (.cells #[.int .u8 6, .int .u8 bop, .int .i64 d, .int .i64 e, .int .i64 a, .int .i64 b, .int .i64 f, .int .i64 cell, .int .u64 imm, .slice ao nA ac, .int .i64 nx, .int .i64 el] 50)).alloc (.cells #[.int .i64 d] 3))) := HW1.out.alloc (by simp) _
    have hs2 : w.heap.size + 1 + 1 ≤ ((w.alloc (.cells #[.int .u8 6, .int .u8 bop, .int .i64 d, .int .i64 e, .int .i64 a, .int .i64 b, .int .i64 f, .int .i64 cell, .int .u64 imm, .slice ao nA ac, .int .i64 nx, .int .i64 el] 50)).alloc (.cells #[.int .i64 d] 3)).heap.size := by simp
    rw [hz1] at HLR
    go_enter Tryd.func25, Tryd.ntmps25
    go_wp2_with (first | (go_at_call 42; refine (radd_any (w.heap.size + 1 + 1) _ 1 _ [d] _ HLR.out rfl HWF.out hs2 (by omega)).mono ?_; rintro ee w2 ⟨A2, c2, rfl, hr2, hc2, hb2⟩; have HR2 := Lib.hid hr2; have HB2 := Lib.hid hb2; clear hr2 hb2))
    go_ret
    exact NewI.mk' rfl rfl HR2.out hc2 HB2.out HW2.out
  · have HLR := Lib.hid (lit_reads (w.alloc (.cells #[.int .u8 7, .int .u8 bop, .int .i64 d, .int .i64 e, .int .i64 a, .int .i64 b, .int .i64 f, .int .i64 cell, .int .u64 imm, .slice ao nA ac, .int .i64 nx, .int .i64 el] 50)) 3 (i64c [d]) 1 rfl)
    have HWF : Hid (∀ x ∈ [d], I64 x) := Lib.hid (by intro x hx; simp at hx; subst hx; assumption)
    have HW2 : Hid (Below w.heap.size w ((w.alloc (.cells #[.int .u8 7, .int .u8 bop, .int .i64 d, .int .i64 e, .int .i64 a, .int .i64 b, .int .i64 f, .int .i64 cell, .int .u64 imm, .slice ao nA ac, .int .i64 nx, .int .i64 el] 50)).alloc (.cells #[.int .i64 d] 3))) := HW1.out.alloc (by simp) _
    have hs2 : w.heap.size + 1 + 1 ≤ ((w.alloc (.cells #[.int .u8 7, .int .u8 bop, .int .i64 d, .int .i64 e, .int .i64 a, .int .i64 b, .int .i64 f, .int .i64 cell, .int .u64 imm, .slice ao nA ac, .int .i64 nx, .int .i64 el] 50)).alloc (.cells #[.int .i64 d] 3)).heap.size := by simp
    rw [hz1] at HLR
    go_enter Tryd.func25, Tryd.ntmps25
    go_wp2_with (first | (go_at_call 42; refine (radd_any (w.heap.size + 1 + 1) _ 1 _ [d] _ HLR.out rfl HWF.out hs2 (by omega)).mono ?_; rintro ee w2 ⟨A2, c2, rfl, hr2, hc2, hb2⟩; have HR2 := Lib.hid hr2; have HB2 := Lib.hid hb2; clear hr2 hb2))
    go_ret
    exact NewI.mk' rfl rfl HR2.out hc2 HB2.out HW2.out
  · go_enter Tryd.func25, Tryd.ntmps25
    go_wp2
    go_ret
    exact NewI.mk' (l := []) rfl rfl Reads.none_ (Nat.le_refl _) (Below.refl _ _) HW1.out
  · go_enter Tryd.func25, Tryd.ntmps25
    go_wp2
    go_ret
    exact NewI.mk' (l := []) rfl rfl Reads.none_ (Nat.le_refl _) (Below.refl _ _) HW1.out
  · go_enter Tryd.func25, Tryd.ntmps25
    go_wp2
    go_ret
    exact NewI.mk' (l := []) rfl rfl Reads.none_ (Nat.le_refl _) (Below.refl _ _) HW1.out
  · have HLR := Lib.hid (lit_reads (w.alloc (.cells #[.int .u8 11, .int .u8 bop, .int .i64 d, .int .i64 e, .int .i64 a, .int .i64 b, .int .i64 f, .int .i64 cell, .int .u64 imm, .slice ao nA ac, .int .i64 nx, .int .i64 el] 50)) 3 (i64c [d]) 1 rfl)
    have HWF : Hid (∀ x ∈ [d], I64 x) := Lib.hid (by intro x hx; simp at hx; subst hx; assumption)
    have HW2 : Hid (Below w.heap.size w ((w.alloc (.cells #[.int .u8 11, .int .u8 bop, .int .i64 d, .int .i64 e, .int .i64 a, .int .i64 b, .int .i64 f, .int .i64 cell, .int .u64 imm, .slice ao nA ac, .int .i64 nx, .int .i64 el] 50)).alloc (.cells #[.int .i64 d] 3))) := HW1.out.alloc (by simp) _
    have hs2 : w.heap.size + 1 + 1 ≤ ((w.alloc (.cells #[.int .u8 11, .int .u8 bop, .int .i64 d, .int .i64 e, .int .i64 a, .int .i64 b, .int .i64 f, .int .i64 cell, .int .u64 imm, .slice ao nA ac, .int .i64 nx, .int .i64 el] 50)).alloc (.cells #[.int .i64 d] 3)).heap.size := by simp
    rw [hz1] at HLR
    go_enter Tryd.func25, Tryd.ntmps25
    go_wp2_with (first | (go_at_call 42; refine (radd_any (w.heap.size + 1 + 1) _ 1 _ [d] _ HLR.out rfl HWF.out hs2 (by omega)).mono ?_; rintro ee w2 ⟨A2, c2, rfl, hr2, hc2, hb2⟩; have HR2 := Lib.hid hr2; have HB2 := Lib.hid hb2; clear hr2 hb2))
    go_ret
    exact NewI.mk' rfl rfl HR2.out hc2 HB2.out HW2.out
  · go_enter Tryd.func25, Tryd.ntmps25
    go_wp2
    go_ret
    exact NewI.mk' (l := []) rfl rfl Reads.none_ (Nat.le_refl _) (Below.refl _ _) HW1.out
  · go_enter Tryd.func25, Tryd.ntmps25
    go_wp2
    go_ret
    exact NewI.mk' (l := []) rfl rfl Reads.none_ (Nat.le_refl _) (Below.refl _ _) HW1.out
  · go_enter Tryd.func25, Tryd.ntmps25
    go_wp2
    go_ret
    exact NewI.mk' (l := []) rfl rfl Reads.none_ (Nat.le_refl _) (Below.refl _ _) HW1.out
  · have HLR := Lib.hid (lit_reads (w.alloc (.cells #[.int .u8 15, .int .u8 bop, .int .i64 d, .int .i64 e, .int .i64 a, .int .i64 b, .int .i64 f, .int .i64 cell, .int .u64 imm, .slice ao nA ac, .int .i64 nx, .int .i64 el] 50)) 3 (i64c [d, e]) 2 rfl)
    have HWF : Hid (∀ x ∈ [d, e], I64 x) := Lib.hid (by intro x hx; simp at hx; rcases hx with rfl | rfl <;> assumption)
    have HW2 : Hid (Below w.heap.size w ((w.alloc (.cells #[.int .u8 15, .int .u8 bop, .int .i64 d, .int .i64 e, .int .i64 a, .int .i64 b, .int .i64 f, .int .i64 cell, .int .u64 imm, .slice ao nA ac, .int .i64 nx, .int .i64 el] 50)).alloc (.cells #[.int .i64 d, .int .i64 e] 3))) := HW1.out.alloc (by simp) _
    have hs2 : w.heap.size + 1 + 1 ≤ ((w.alloc (.cells #[.int .u8 15, .int .u8 bop, .int .i64 d, .int .i64 e, .int .i64 a, .int .i64 b, .int .i64 f, .int .i64 cell, .int .u64 imm, .slice ao nA ac, .int .i64 nx, .int .i64 el] 50)).alloc (.cells #[.int .i64 d, .int .i64 e] 3)).heap.size := by simp
    rw [hz1] at HLR
    go_enter Tryd.func25, Tryd.ntmps25
    go_wp2_with (first | (go_at_call 42; refine (radd_any (w.heap.size + 1 + 1) _ 2 _ [d, e] _ HLR.out rfl HWF.out hs2 (by omega)).mono ?_; rintro ee w2 ⟨A2, c2, rfl, hr2, hc2, hb2⟩; have HR2 := Lib.hid hr2; have HB2 := Lib.hid hb2; clear hr2 hb2))
    go_ret
    exact NewI.mk' rfl rfl HR2.out hc2 HB2.out HW2.out
  · have HLR := Lib.hid (lit_reads (w.alloc (.cells #[.int .u8 16, .int .u8 bop, .int .i64 d, .int .i64 e, .int .i64 a, .int .i64 b, .int .i64 f, .int .i64 cell, .int .u64 imm, .slice ao nA ac, .int .i64 nx, .int .i64 el] 50)) 3 (i64c [d]) 1 rfl)
    have HWF : Hid (∀ x ∈ [d], I64 x) := Lib.hid (by intro x hx; simp at hx; subst hx; assumption)
    have HW2 : Hid (Below w.heap.size w ((w.alloc (.cells #[.int .u8 16, .int .u8 bop, .int .i64 d, .int .i64 e, .int .i64 a, .int .i64 b, .int .i64 f, .int .i64 cell, .int .u64 imm, .slice ao nA ac, .int .i64 nx, .int .i64 el] 50)).alloc (.cells #[.int .i64 d] 3))) := HW1.out.alloc (by simp) _
    have hs2 : w.heap.size + 1 + 1 ≤ ((w.alloc (.cells #[.int .u8 16, .int .u8 bop, .int .i64 d, .int .i64 e, .int .i64 a, .int .i64 b, .int .i64 f, .int .i64 cell, .int .u64 imm, .slice ao nA ac, .int .i64 nx, .int .i64 el] 50)).alloc (.cells #[.int .i64 d] 3)).heap.size := by simp
    rw [hz1] at HLR
    go_enter Tryd.func25, Tryd.ntmps25
    go_wp2_with (first | (go_at_call 42; refine (radd_any (w.heap.size + 1 + 1) _ 1 _ [d] _ HLR.out rfl HWF.out hs2 (by omega)).mono ?_; rintro ee w2 ⟨A2, c2, rfl, hr2, hc2, hb2⟩; have HR2 := Lib.hid hr2; have HB2 := Lib.hid hb2; clear hr2 hb2))
    go_ret
    exact NewI.mk' rfl rfl HR2.out hc2 HB2.out HW2.out
  · go_enter Tryd.func25, Tryd.ntmps25
    go_wp2
    go_ret
    exact NewI.mk' (l := []) rfl rfl Reads.none_ (Nat.le_refl _) (Below.refl _ _) HW1.out
  · go_enter Tryd.func25, Tryd.ntmps25
    go_wp2
    go_ret
    exact NewI.mk' (l := []) rfl rfl Reads.none_ (Nat.le_refl _) (Below.refl _ _) HW1.out
  · have hL : writesOf ⟨op, bop, d, e, a, b, f, cell, imm, args, nx, el⟩ = [] := by
      unfold writesOf
      simp only [writeF]
      repeat rw [if_neg (by omega)]
      rfl
    have HLL := Lib.hid hL
    clear hL
    have g1 : (op == 1) = false := by simp; omega
    have g2 : (op == 2) = false := by simp; omega
    have g3 : (op == 3) = false := by simp; omega
    have g4 : (op == 4) = false := by simp; omega
    have g6 : (op == 6) = false := by simp; omega
    have g7 : (op == 7) = false := by simp; omega
    have g11 : (op == 11) = false := by simp; omega
    have g16 : (op == 16) = false := by simp; omega
    have g15 : (op == 15) = false := by simp; omega
    go_enter Tryd.func25, Tryd.ntmps25
    go_wp2
    go_ret
    exact NewI.mk' HLL.out.symm rfl Reads.none_ (Nat.le_refl _) (Below.refl _ _) HW1.out
end Go.Proofs.YtcljjacanomggaaDoor
