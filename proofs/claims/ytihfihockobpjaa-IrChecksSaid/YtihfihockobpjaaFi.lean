/-
  The statements' first: the chapter's example.
-/
import Derived.Test.YtihfihockobpjaaCc
namespace Go.Proofs.Ytihfihockobpjaa
set_option linter.unusedVariables false
set_option linter.unusedSimpArgs false
open Go.ChangeShapes Go.WideShapes Go.ChangeAt Go.RowKit

def nd0 : Nd := ⟨12, 0, 0, 0, -1, 0, 0, 0, 0, [], 0, 0⟩
def gr0 : Gr := ⟨[], [], 0, [], false, -1, [nd0], 0⟩
def rg0 (p : Nat) : RG := ⟨gr0, none, 0, none, 0, none, 0, some ⟨p, 0, none⟩, 1, [⟨nd0, none, 0⟩]⟩
theorem valid0f : valid [gr0] false := by decide +kernel
theorem valid0t : ¬ valid [gr0] true := by decide +kernel
theorem wfn0 : WfN nd0 := ⟨by decide, by decide, by decide, by decide, ⟨by decide, by decide⟩, ⟨by decide, by decide⟩, ⟨by decide, by decide⟩, ⟨by decide, by decide⟩, ⟨by decide, by decide⟩, ⟨by decide, by decide⟩, by decide, by decide, (fun x h => by cases h), ⟨by decide, by decide⟩, ⟨by decide, by decide⟩, by decide⟩
theorem wfg0 : WfG gr0 := ⟨(fun x h => by cases h), Byt.nil, ⟨by decide, by decide⟩, (fun x h => by cases h), ⟨by decide, by decide⟩, (fun i hi => by rw [show i = nd0 by simpa [gr0] using hi]; exact wfn0), ⟨by decide, by decide⟩, by decide, by decide, by decide, by decide⟩
theorem rd0 (w : World) : RdP ((w.alloc (.cells #[.int .u8 12, .int .u8 0, .int .i64 0, .int .i64 0, .int .i64 (-1), .int .i64 0, .int .i64 0, .int .i64 0, .int .u64 0, .slice none 0 0, .int .i64 0, .int .i64 0] 38)).alloc (.cells #[.slice none 0 0, .slice none 0 0, .int .i64 0, .slice none 0 0, .bool false, .int .i64 (-1), .slice (some ⟨w.heap.size, 0, none⟩) 1 1, .int .i64 0] 45)) (w.heap.size + 1 + 1) (some ⟨w.heap.size + 1, 0, none⟩) 1 [rg0 w.heap.size] := by
  have h1 := one_reads w 38 (rnOne ⟨nd0, none, 0⟩) 12 rfl
  have h2 := one_reads (w.alloc (.cells #[.int .u8 12, .int .u8 0, .int .i64 0, .int .i64 0, .int .i64 (-1), .int .i64 0, .int .i64 0, .int .i64 0, .int .u64 0, .slice none 0 0, .int .i64 0, .int .i64 0] 38)) 45 (rgOne (rg0 w.heap.size)) 8 rfl
  rw [show (w.alloc (.cells #[.int .u8 12, .int .u8 0, .int .i64 0, .int .i64 0, .int .i64 (-1), .int .i64 0, .int .i64 0, .int .i64 0, .int .u64 0, .slice none 0 0, .int .i64 0, .int .i64 0] 38)).heap.size = w.heap.size + 1 by simp] at h2
  have h3 : Reads ((w.alloc (.cells #[.int .u8 12, .int .u8 0, .int .i64 0, .int .i64 0, .int .i64 (-1), .int .i64 0, .int .i64 0, .int .i64 0, .int .u64 0, .slice none 0 0, .int .i64 0, .int .i64 0] 38)).alloc (.cells #[.slice none 0 0, .slice none 0 0, .int .i64 0, .slice none 0 0, .bool false, .int .i64 (-1), .slice (some ⟨w.heap.size, 0, none⟩) 1 1, .int .i64 0] 45)) (w.heap.size + 1) 12 (some ⟨w.heap.size, 0, none⟩) 1 (rnOne ⟨nd0, none, 0⟩) := Reads.alloc h1 (by simp) _
  refine ⟨h2, rfl, fun r hr => ?_, fun r hr => ?_, by omega⟩
  · obtain rfl : r = rg0 w.heap.size := by simpa using hr
    refine ⟨Reads.none_, Reads.none_, Reads.none_, ⟨(h3.more (by omega)), rfl, fun i hi => ?_, fun i hi => ?_⟩, rfl, Nat.le_refl _⟩
    · obtain rfl : i = ⟨nd0, none, 0⟩ := by simpa [rg0] using hi
      exact ⟨Reads.none_, Nat.le_refl _⟩
    · obtain rfl : i = ⟨nd0, none, 0⟩ := by simpa [rg0] using hi
      exact wfn0
  · obtain rfl : r = rg0 w.heap.size := by simpa using hr
    exact wfg0

set_option maxRecDepth 100000 in
set_option maxHeartbeats 3200000 in
theorem first_any (w : World) : Calls Try.prog 7 #[] w fun e w' => e = .returned (.bool true) ∧ Below w.heap.size w w' := by
  have HB4 : Hid (Below w.heap.size w ((((w.alloc (.cells #[.int .u8 12, .int .u8 0, .int .i64 0, .int .i64 0, .int .i64 (-1), .int .i64 0, .int .i64 0, .int .i64 0, .int .u64 0, .slice none 0 0, .int .i64 0, .int .i64 0] 38)).alloc (.cells #[.slice none 0 0, .slice none 0 0, .int .i64 0, .slice none 0 0, .bool false, .int .i64 (-1), .slice (some ⟨w.heap.size, 0, none⟩) 1 1, .int .i64 0] 45)).alloc (.cells #[.slice (some ⟨w.heap.size + 1, 0, none⟩) 1 1] 24)).alloc (.cells #[.int .i64 3, .int .i64 3, .int .i64 4] 3))) := ((((Below.refl _ _).alloc (Nat.le_refl _) _).alloc (by simp) _).alloc (by simp; omega) _).alloc (by simp; omega) _
  have HB24 : Hid (Below (w.heap.size + 1 + 1) ((w.alloc (.cells #[.int .u8 12, .int .u8 0, .int .i64 0, .int .i64 0, .int .i64 (-1), .int .i64 0, .int .i64 0, .int .i64 0, .int .u64 0, .slice none 0 0, .int .i64 0, .int .i64 0] 38)).alloc (.cells #[.slice none 0 0, .slice none 0 0, .int .i64 0, .slice none 0 0, .bool false, .int .i64 (-1), .slice (some ⟨w.heap.size, 0, none⟩) 1 1, .int .i64 0] 45)) ((((w.alloc (.cells #[.int .u8 12, .int .u8 0, .int .i64 0, .int .i64 0, .int .i64 (-1), .int .i64 0, .int .i64 0, .int .i64 0, .int .u64 0, .slice none 0 0, .int .i64 0, .int .i64 0] 38)).alloc (.cells #[.slice none 0 0, .slice none 0 0, .int .i64 0, .slice none 0 0, .bool false, .int .i64 (-1), .slice (some ⟨w.heap.size, 0, none⟩) 1 1, .int .i64 0] 45)).alloc (.cells #[.slice (some ⟨w.heap.size + 1, 0, none⟩) 1 1] 24)).alloc (.cells #[.int .i64 3, .int .i64 3, .int .i64 4] 3))) := ((Below.refl _ _).alloc (by simp) _).alloc (by simp) _
  have HRD : Hid (RdP ((((w.alloc (.cells #[.int .u8 12, .int .u8 0, .int .i64 0, .int .i64 0, .int .i64 (-1), .int .i64 0, .int .i64 0, .int .i64 0, .int .u64 0, .slice none 0 0, .int .i64 0, .int .i64 0] 38)).alloc (.cells #[.slice none 0 0, .slice none 0 0, .int .i64 0, .slice none 0 0, .bool false, .int .i64 (-1), .slice (some ⟨w.heap.size, 0, none⟩) 1 1, .int .i64 0] 45)).alloc (.cells #[.slice (some ⟨w.heap.size + 1, 0, none⟩) 1 1] 24)).alloc (.cells #[.int .i64 3, .int .i64 3, .int .i64 4] 3)) (w.heap.size + 1 + 1) (some ⟨w.heap.size + 1, 0, none⟩) 1 [rg0 w.heap.size]) := Lib.hid ((rd0 w).below HB24.out)
  have HBX : Hid (Blk ((((w.alloc (.cells #[.int .u8 12, .int .u8 0, .int .i64 0, .int .i64 0, .int .i64 (-1), .int .i64 0, .int .i64 0, .int .i64 0, .int .u64 0, .slice none 0 0, .int .i64 0, .int .i64 0] 38)).alloc (.cells #[.slice none 0 0, .slice none 0 0, .int .i64 0, .slice none 0 0, .bool false, .int .i64 (-1), .slice (some ⟨w.heap.size, 0, none⟩) 1 1, .int .i64 0] 45)).alloc (.cells #[.slice (some ⟨w.heap.size + 1, 0, none⟩) 1 1] 24)).alloc (.cells #[.int .i64 3, .int .i64 3, .int .i64 4] 3)) (w.heap.size + 1 + 1) 24 #[.slice (some ⟨w.heap.size + 1, 0, none⟩) 1 1]) := Lib.hid (by
    have := Blk.new ((w.alloc (.cells #[.int .u8 12, .int .u8 0, .int .i64 0, .int .i64 0, .int .i64 (-1), .int .i64 0, .int .i64 0, .int .i64 0, .int .u64 0, .slice none 0 0, .int .i64 0, .int .i64 0] 38)).alloc (.cells #[.slice none 0 0, .slice none 0 0, .int .i64 0, .slice none 0 0, .bool false, .int .i64 (-1), .slice (some ⟨w.heap.size, 0, none⟩) 1 1, .int .i64 0] 45)) 24 #[.slice (some ⟨w.heap.size + 1, 0, none⟩) 1 1]
    rw [show ((w.alloc (.cells #[.int .u8 12, .int .u8 0, .int .i64 0, .int .i64 0, .int .i64 (-1), .int .i64 0, .int .i64 0, .int .i64 0, .int .u64 0, .slice none 0 0, .int .i64 0, .int .i64 0] 38)).alloc (.cells #[.slice none 0 0, .slice none 0 0, .int .i64 0, .slice none 0 0, .bool false, .int .i64 (-1), .slice (some ⟨w.heap.size, 0, none⟩) 1 1, .int .i64 0] 45)).heap.size = w.heap.size + 1 + 1 by simp] at this
    exact this.alloc _)
  have HLR : Hid (Reads ((((w.alloc (.cells #[.int .u8 12, .int .u8 0, .int .i64 0, .int .i64 0, .int .i64 (-1), .int .i64 0, .int .i64 0, .int .i64 0, .int .u64 0, .slice none 0 0, .int .i64 0, .int .i64 0] 38)).alloc (.cells #[.slice none 0 0, .slice none 0 0, .int .i64 0, .slice none 0 0, .bool false, .int .i64 (-1), .slice (some ⟨w.heap.size, 0, none⟩) 1 1, .int .i64 0] 45)).alloc (.cells #[.slice (some ⟨w.heap.size + 1, 0, none⟩) 1 1] 24)).alloc (.cells #[.int .i64 3, .int .i64 3, .int .i64 4] 3)) (w.heap.size + 1 + 1 + 1 + 1) 1 (some ⟨w.heap.size + 1 + 1 + 1, 0, none⟩) 3 (i64c [3, 3, 4])) := Lib.hid (by
    have := lit_reads (((w.alloc (.cells #[.int .u8 12, .int .u8 0, .int .i64 0, .int .i64 0, .int .i64 (-1), .int .i64 0, .int .i64 0, .int .i64 0, .int .u64 0, .slice none 0 0, .int .i64 0, .int .i64 0] 38)).alloc (.cells #[.slice none 0 0, .slice none 0 0, .int .i64 0, .slice none 0 0, .bool false, .int .i64 (-1), .slice (some ⟨w.heap.size, 0, none⟩) 1 1, .int .i64 0] 45)).alloc (.cells #[.slice (some ⟨w.heap.size + 1, 0, none⟩) 1 1] 24)) 3 (i64c [3, 3, 4]) 3 rfl
    rw [show (((w.alloc (.cells #[.int .u8 12, .int .u8 0, .int .i64 0, .int .i64 0, .int .i64 (-1), .int .i64 0, .int .i64 0, .int .i64 0, .int .u64 0, .slice none 0 0, .int .i64 0, .int .i64 0] 38)).alloc (.cells #[.slice none 0 0, .slice none 0 0, .int .i64 0, .slice none 0 0, .bool false, .int .i64 (-1), .slice (some ⟨w.heap.size, 0, none⟩) 1 1, .int .i64 0] 45)).alloc (.cells #[.slice (some ⟨w.heap.size + 1, 0, none⟩) 1 1] 24)).heap.size = w.heap.size + 1 + 1 + 1 by simp] at this
    exact this)
  have HZ4 : Hid (((((w.alloc (.cells #[.int .u8 12, .int .u8 0, .int .i64 0, .int .i64 0, .int .i64 (-1), .int .i64 0, .int .i64 0, .int .i64 0, .int .u64 0, .slice none 0 0, .int .i64 0, .int .i64 0] 38)).alloc (.cells #[.slice none 0 0, .slice none 0 0, .int .i64 0, .slice none 0 0, .bool false, .int .i64 (-1), .slice (some ⟨w.heap.size, 0, none⟩) 1 1, .int .i64 0] 45)).alloc (.cells #[.slice (some ⟨w.heap.size + 1, 0, none⟩) 1 1] 24)).alloc (.cells #[.int .i64 3, .int .i64 3, .int .i64 4] 3)).heap.size = w.heap.size + 1 + 1 + 1 + 1) := Lib.hid (by simp)
  have HI3 : Hid (∀ x ∈ [(3 : Int), 3, 4], I64 x) := Lib.hid (by intro x hx; simp at hx; rcases hx with rfl | rfl <;> exact ⟨by decide, by decide⟩)
  have HRE := Lib.hid (reads_any (w.heap.size + 1 + 1 + 1 + 1) 11 0 2 0 0 0 0 0 0 [3, 3, 4] 0 0 _ 3 3 ((((w.alloc (.cells #[.int .u8 12, .int .u8 0, .int .i64 0, .int .i64 0, .int .i64 (-1), .int .i64 0, .int .i64 0, .int .i64 0, .int .u64 0, .slice none 0 0, .int .i64 0, .int .i64 0] 38)).alloc (.cells #[.slice none 0 0, .slice none 0 0, .int .i64 0, .slice none 0 0, .bool false, .int .i64 (-1), .slice (some ⟨w.heap.size, 0, none⟩) 1 1, .int .i64 0] 45)).alloc (.cells #[.slice (some ⟨w.heap.size + 1, 0, none⟩) 1 1] 24)).alloc (.cells #[.int .i64 3, .int .i64 3, .int .i64 4] 3)) (by decide) (by decide) ⟨by decide, by decide⟩ ⟨by decide, by decide⟩ ⟨by decide, by decide⟩ ⟨by decide, by decide⟩ ⟨by decide, by decide⟩ ⟨by decide, by decide⟩ HLR.out rfl HI3.out (by decide) (by decide) (Nat.le_of_eq HZ4.out.symm))
  have HLL : Hid (readsOf ⟨11, 0, 2, 0, 0, 0, 0, 0, 0, [3, 3, 4], 0, 0⟩ = [3, 4]) := Lib.hid (by decide)
  have HCF : Hid (∀ W, Below ((((w.alloc (.cells #[.int .u8 12, .int .u8 0, .int .i64 0, .int .i64 0, .int .i64 (-1), .int .i64 0, .int .i64 0, .int .i64 0, .int .u64 0, .slice none 0 0, .int .i64 0, .int .i64 0] 38)).alloc (.cells #[.slice none 0 0, .slice none 0 0, .int .i64 0, .slice none 0 0, .bool false, .int .i64 (-1), .slice (some ⟨w.heap.size, 0, none⟩) 1 1, .int .i64 0] 45)).alloc (.cells #[.slice (some ⟨w.heap.size + 1, 0, none⟩) 1 1] 24)).alloc (.cells #[.int .i64 3, .int .i64 3, .int .i64 4] 3)).heap.size ((((w.alloc (.cells #[.int .u8 12, .int .u8 0, .int .i64 0, .int .i64 0, .int .i64 (-1), .int .i64 0, .int .i64 0, .int .i64 0, .int .u64 0, .slice none 0 0, .int .i64 0, .int .i64 0] 38)).alloc (.cells #[.slice none 0 0, .slice none 0 0, .int .i64 0, .slice none 0 0, .bool false, .int .i64 (-1), .slice (some ⟨w.heap.size, 0, none⟩) 1 1, .int .i64 0] 45)).alloc (.cells #[.slice (some ⟨w.heap.size + 1, 0, none⟩) 1 1] 24)).alloc (.cells #[.int .i64 3, .int .i64 3, .int .i64 4] 3)) W → Calls Try.prog 9 #[.agg #[.slice (some ⟨w.heap.size + 1, 0, none⟩) 1 1], .bool false] W fun e w' => e = .returned (.int .i64 0) ∧ Below W.heap.size W w') := Lib.hid fun W hW => by
    have hz := hW.size
    rw [HZ4.out] at hz
    have h := check_any (w.heap.size + 1 + 1) _ 1 1 [rg0 w.heap.size] false W (HRD.out.below (hW.mono (by rw [HZ4.out]; omega))) (by omega)
    rw [if_pos (show valid (grs [rg0 w.heap.size]) false from valid0f)] at h
    exact h
  have HCT : Hid (∀ W, Below ((((w.alloc (.cells #[.int .u8 12, .int .u8 0, .int .i64 0, .int .i64 0, .int .i64 (-1), .int .i64 0, .int .i64 0, .int .i64 0, .int .u64 0, .slice none 0 0, .int .i64 0, .int .i64 0] 38)).alloc (.cells #[.slice none 0 0, .slice none 0 0, .int .i64 0, .slice none 0 0, .bool false, .int .i64 (-1), .slice (some ⟨w.heap.size, 0, none⟩) 1 1, .int .i64 0] 45)).alloc (.cells #[.slice (some ⟨w.heap.size + 1, 0, none⟩) 1 1] 24)).alloc (.cells #[.int .i64 3, .int .i64 3, .int .i64 4] 3)).heap.size ((((w.alloc (.cells #[.int .u8 12, .int .u8 0, .int .i64 0, .int .i64 0, .int .i64 (-1), .int .i64 0, .int .i64 0, .int .i64 0, .int .u64 0, .slice none 0 0, .int .i64 0, .int .i64 0] 38)).alloc (.cells #[.slice none 0 0, .slice none 0 0, .int .i64 0, .slice none 0 0, .bool false, .int .i64 (-1), .slice (some ⟨w.heap.size, 0, none⟩) 1 1, .int .i64 0] 45)).alloc (.cells #[.slice (some ⟨w.heap.size + 1, 0, none⟩) 1 1] 24)).alloc (.cells #[.int .i64 3, .int .i64 3, .int .i64 4] 3)) W → Calls Try.prog 9 #[.agg #[.slice (some ⟨w.heap.size + 1, 0, none⟩) 1 1], .bool true] W fun e w' => e = .returned (.int .i64 70) ∧ Below W.heap.size W w') := Lib.hid fun W hW => by
    have hz := hW.size
    rw [HZ4.out] at hz
    have h := check_any (w.heap.size + 1 + 1) _ 1 1 [rg0 w.heap.size] true W (HRD.out.below (hW.mono (by rw [HZ4.out]; omega))) (by omega)
    rw [if_neg (show ¬ valid (grs [rg0 w.heap.size]) true from valid0t)] at h
    exact h
  go_enter Try.func7, Try.ntmps7
  go_wp2_with (go_at_call 13; refine HRE.out.mono ?_; rintro ee w5 ⟨A5, c5, rfl, hr5, hc5, hb5⟩; refine Hid.out ?_)
  rw [HLL.out] at hr5 hc5 ⊢
  obtain ⟨b5, o5, rfl, hb5l, hc5x⟩ := hr5.lit (by simp) (by omega)
  have y0 : w5.cell? ⟨b5, o5, none⟩ = some (.int .i64 3) := hc5x 0 _ rfl
  have y1 : w5.cell? ⟨b5, o5 + 1, none⟩ = some (.int .i64 4) := hc5x 1 _ rfl
  have x0 : w5.cell? ⟨w.heap.size + 1 + 1, 0, none⟩ = some (.slice (some ⟨w.heap.size + 1, 0, none⟩) 1 1) := (HBX.out.below hb5 HBX.out.lt).cell 0
  have HX5 := Lib.hid (HBX.out.below hb5 HBX.out.lt)
  have HB5 := Lib.hid hb5
  clear hr5 hb5 hc5x hc5 HRE
  refine Lib.hid ?_
  go_wp2_with (first
    | (go_at_call 9; refine (HCF.out _ HB5.out).mono ?_; rintro ee w6 ⟨rfl, hb6⟩; have z0 : w6.cell? ⟨w.heap.size + 1 + 1, 0, none⟩ = some (.slice (some ⟨w.heap.size + 1, 0, none⟩) 1 1) := (HX5.out.below hb6 HX5.out.lt).cell 0; have v0 := (hb6.cell (p := ⟨b5, o5, none⟩) hb5l).trans y0; have v1 := (hb6.cell (p := ⟨b5, o5 + 1, none⟩) hb5l).trans y1; have HB6 := Lib.hid (HB5.out.trans (hb6.mono HB5.out.size)); have hl6 : b5 < w6.heap.size := Nat.lt_of_lt_of_le hb5l hb6.size; clear hb6)
    | (go_at_call 9; refine (HCT.out _ HB6.out).mono ?_; rintro ee w7 ⟨rfl, hb7⟩; have u0 := (hb7.cell (p := ⟨b5, o5, none⟩) hl6).trans v0; have u1 := (hb7.cell (p := ⟨b5, o5 + 1, none⟩) hl6).trans v1; have HB7 := Lib.hid (HB6.out.trans (hb7.mono HB6.out.size)); clear hb7))
  go_ret
  exact ⟨rfl, HB4.out.trans (HB7.out.mono (by rw [HZ4.out]; omega))⟩
end Go.Proofs.Ytihfihockobpjaa
