/-
  Package bits: a new set; adding to it.
-/
import Derived.Test.YtmfdaeicbaibeaaDoorSet
import Derived.Deep.OwnRows
import Derived.Deep.RegionLaw
import Derived.StillTailTactics
namespace Go.Proofs.YtmfdaeicbaibeaaDoor
set_option linter.unusedVariables false
set_option linter.unusedSimpArgs false
open Go.ChangeShapes Go.WideShapes Go.ChangeAt Go.RowKit

theorem info_u64' : (Tryd.prog.info? 40).map (fun i => (i.zero, i.size, i.bytes)) = some (some (.int .u64 0), 1, 8) := by kernel_rfl
/-- the memory behind a new set -/
def newW (w : World) (m q : Nat) : World := (w.alloc (.cells (madeCells #[.int .u64 0] q) 40)).alloc (.cells #[.int .i64 m, .slice (some ⟨w.heap.size, 0, none⟩) q q] 117)
theorem new_any (n : Int) (m q : Nat) (h1 : -5000 ≤ n) (h2 : n ≤ 5000) (hm : (m : Int) = if n < 0 then 0 else n) (hq : q = (m + 63) / 64) (w : World) : Calls Tryd.prog 64 #[.int .i64 n] w fun e w' => e = .returned (.pointer (some ⟨w.heap.size + 1, 0, none⟩)) ∧ w' = newW w m q := by
  have hmk : ∀ W : World, (Instr.makeSlice 39 (.int .i64 q) (.int .i64 q)).run Tryd.prog W = .ok (.slice (some ⟨W.heap.size, 0, none⟩) q q) (W.alloc (.cells (madeCells #[.int .u64 0] q) 40)) := fun W => run_make_row' _ _ _ 8 Tryd.underlying39 info_u64' rfl .i64 .i64 q (by omega) (by omega) W
  by_cases hn : n < 0
  · rw [if_pos hn] at hm
    have h0 : m = 0 := by omega
    subst h0
    have h3 : q = 0 := by omega
    subst h3
    have hmk0 : ∀ W : World, (Instr.makeSlice 39 (.int .i64 0) (.int .i64 0)).run Tryd.prog W = .ok (.slice (some ⟨W.heap.size, 0, none⟩) 0 0) (W.alloc (.cells (madeCells #[.int .u64 0] 0) 40)) := hmk
    clear hm hq hmk
    go_enter Tryd.func64, Tryd.ntmps64
    go_wp2
    go_ret
    exact ⟨rfl, rfl⟩
  · rw [if_neg hn] at hm
    subst hm
    have gq : ((m : Int) + 64 - 1) / 64 = (q : Int) := by omega
    clear hq hn
    go_enter Tryd.func64, Tryd.ntmps64
    go_wp2
    go_ret
    exact ⟨rfl, rfl⟩
theorem i64_wrap_small {k : Nat} (h : k ≤ 1000000) : IntKind.i64.wrap (k : Int) = (k : Int) := by
  rw [IntKind.wrap_i64]
  omega
theorem has_nil (i : Int) (w : World) : Calls Tryd.prog 73 #[.pointer none, .int .i64 i] w fun e w' => e = .returned (.bool false) ∧ ∃ nq, w' = w.drewN nq := by
  go_enter Tryd.func73, Tryd.ntmps73
  go_wp2
  go_quiet ((go_at_call 72; exact Calls.quiet_of_same (takes_nil _ _)))
  go_wp2
  go_ret
  exact ⟨rfl, nq, rfl⟩
theorem has_no (p : Nat) (i n : Int) (w : World) (h0 : w.cell? ⟨p, 0, none⟩ = some (.int .i64 n)) (h1 : i < 0 ∨ n ≤ i) : Calls Tryd.prog 73 #[.pointer (some ⟨p, 0, none⟩), .int .i64 i] w fun e w' => e = .returned (.bool false) ∧ ∃ nq, w' = w.drewN nq := by
  have H1 := Lib.hid h1
  clear h1
  go_enter Tryd.func73, Tryd.ntmps73
  go_wp2
  go_quiet ((go_at_call 72; exact Calls.quiet_of_same (takes_no p i n _ h0 H1.out)))
  go_wp2
  go_ret
  exact ⟨rfl, nq, rfl⟩
theorem has_at (p b m q j c k : Nat) (v : Int) (r : Bool) (w : World) (h0 : w.cell? ⟨p, 0, none⟩ = some (.int .i64 m)) (h1 : w.cell? ⟨p, 1, none⟩ = some (.slice (some ⟨b, 0, none⟩) q q)) (h2 : w.cell? ⟨b, k, none⟩ = some (.int .u64 v))
    (hm : m ≤ 5000) (hj : j < m) (hc : c = j % 64) (hk : k = j / 64) (hkq : k < q) (hr : (bits BinOp.and IntKind.u64 v ((2 ^ c : Nat) : Int) != 0) = r) :
    Calls Tryd.prog 73 #[.pointer (some ⟨p, 0, none⟩), .int .i64 j] w fun e w' => e = .returned (.bool r) ∧ ∃ nq, w' = w.drewN nq := by
  have hb := Lib.hid (show ((j : Int).tmod 64 = (c : Int)) by rw [Int.tmod_eq_emod_of_nonneg (by omega)]; omega)
  have HJ := Lib.hid hj
  have gk : (j : Int) / 64 = (k : Int) := by omega
  have gw : IntKind.i64.wrap (k : Int) = (k : Int) := i64_wrap_small (by omega)
  obtain ⟨B, hB⟩ : ∃ B : Int, B = ((2 ^ c : Nat) : Int) := ⟨_, rfl⟩
  rw [← hB] at hr
  have HBIT := Lib.hid (fun W => bit_any j c hb.out (by omega) W)
  rw [← hB] at HBIT
  clear hc hk hj hB
  go_enter Tryd.func73, Tryd.ntmps73
  go_wp2
  go_quiet (first
    | (go_at_call 72; exact Calls.quiet_of_same (takes_yes p j m _ h0 (Int.natCast_nonneg _) (by have := HJ.out; omega)))
    | (go_at_call 74; exact Calls.quiet_of_same (HBIT.out _)))
  go_wp2
  go_ret
  exact ⟨rfl, nq, rfl⟩
end Go.Proofs.YtmfdaeicbaibeaaDoor
