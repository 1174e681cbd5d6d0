/-
  Texts of one seat, one behind the other: ISumW, ISum.
-/
import Derived.LoopTactic
import Derived.Deep.LoopGhost
import Derived.Test.YtlnccpojldiogaaMEd
import Derived.Test.YtlnccpojldiogaaMDd
import Derived.Test.YtlnccpojldiogaaMDc

/-
  IrunSums: the world in which it runs; both runs.
-/
namespace Go.Proofs.Ytlnccpojldiogaa
set_option linter.unusedVariables false
set_option linter.unusedSimpArgs false
open Go.ChangeShapes Go.WideShapes Go.ChangeAt Go.RowKit

section
variable (w : World) (a b c d e f : Obj)
theorem six_size : ((((((w.alloc a).alloc b).alloc c).alloc d).alloc e).alloc f).heap.size = w.heap.size + 6 := by simp
theorem six_below (B : Nat) (hB : B ≤ w.heap.size) : Below B w ((((((w.alloc a).alloc b).alloc c).alloc d).alloc e).alloc f) :=
  ((((((Below.refl B w).alloc hB a).alloc (by simp; omega) b).alloc (by simp; omega) c).alloc (by simp; omega) d).alloc (by simp; omega) e).alloc (by simp; omega) f
theorem six_0 (t : TypeId) (cs : Array Value) : Blk ((((((w.alloc (.cells cs t)).alloc b).alloc c).alloc d).alloc e).alloc f) w.heap.size t cs := (((((Blk.new w t cs).alloc b).alloc c).alloc d).alloc e).alloc f
theorem six_1 (t : TypeId) (cs : Array Value) : Blk ((((((w.alloc a).alloc (.cells cs t)).alloc c).alloc d).alloc e).alloc f) (w.heap.size + 1) t cs := by
  have h := Blk.new (w.alloc a) t cs
  rw [show (w.alloc a).heap.size = w.heap.size + 1 by simp] at h
  exact (((h.alloc c).alloc d).alloc e).alloc f
theorem six_3 (t : TypeId) (cs : Array Value) : Blk ((((((w.alloc a).alloc b).alloc c).alloc (.cells cs t)).alloc e).alloc f) (w.heap.size + 3) t cs := by
  have h := Blk.new (((w.alloc a).alloc b).alloc c) t cs
  rw [show (((w.alloc a).alloc b).alloc c).heap.size = w.heap.size + 3 by simp] at h
  exact (h.alloc e).alloc f
theorem six_4 (t : TypeId) (cs : Array Value) : Blk ((((((w.alloc a).alloc b).alloc c).alloc d).alloc (.cells cs t)).alloc f) (w.heap.size + 4) t cs := by
  have h := Blk.new ((((w.alloc a).alloc b).alloc c).alloc d) t cs
  rw [show ((((w.alloc a).alloc b).alloc c).alloc d).heap.size = w.heap.size + 4 by simp] at h
  exact h.alloc f
theorem six_5 (t : TypeId) (cs : Array Value) : Blk ((((((w.alloc a).alloc b).alloc c).alloc d).alloc e).alloc (.cells cs t)) (w.heap.size + 5) t cs := by
  have h := Blk.new (((((w.alloc a).alloc b).alloc c).alloc d).alloc e) t cs
  rw [show (((((w.alloc a).alloc b).alloc c).alloc d).alloc e).heap.size = w.heap.size + 5 by simp] at h
  exact h
end
def sumWf (k s : Int) (w1 : World) : World := ((((((w1.alloc (.cells (madeCells #[.int .u8 0] 20) 67)).alloc (.cells (rnc (rgS k s w1.heap.size).ns).toArray 45)).alloc (.cells (rgc [rgS k s w1.heap.size]).toArray 48)).alloc (.cells (rgc [rgS k s w1.heap.size]).toArray 48)).alloc (.cells #[.slice (some ⟨w1.heap.size + 1 + 1 + 1, 0, none⟩) 1 1] 24)).alloc (.cells #[.bool false, .bool true] 4))
theorem made_20 : madeCells #[.int .u8 0] 20 = (u8c (List.replicate 20 0)).toArray := by kernel_rfl
theorem sumWf_facts (k s : Int) (w1 : World) : (sumWf k s w1).heap.size = w1.heap.size + 6 ∧ Below w1.heap.size w1 (sumWf k s w1) ∧ Blk (sumWf k s w1) w1.heap.size 67 (u8c (List.replicate 20 0)).toArray ∧ Blk (sumWf k s w1) (w1.heap.size + 1) 45 (rnc (rgS k s w1.heap.size).ns).toArray ∧ Blk (sumWf k s w1) (w1.heap.size + 3) 48 (rgc [rgS k s w1.heap.size]).toArray ∧ Blk (sumWf k s w1) (w1.heap.size + 4) 24 #[.slice (some ⟨w1.heap.size + 1 + 1 + 1, 0, none⟩) 1 1] ∧ Blk (sumWf k s w1) (w1.heap.size + 5) 4 #[.bool false, .bool true] := by
  unfold sumWf
  rw [made_20]
  exact ⟨six_size w1 _ _ _ _ _ _, six_below w1 _ _ _ _ _ _ _ (Nat.le_refl _), six_0 w1 _ _ _ _ _ _ _, six_1 w1 _ _ _ _ _ _ _, six_3 w1 _ _ _ _ _ _ _, six_4 w1 _ _ _ _ _ _ _, six_5 w1 _ _ _ _ _ _ _⟩
/-- what a run of it answers -/
def SumPost (T P : Int) (wr : World) (e : Ending) (w' : World) : Prop := ∃ A m c d1 d2 d3, e = .returned (.tuple #[.agg #[.slice A m c, .int .i64 1, .int .u64 P, .int .i64 T, .int .i64 d1, .int .i64 d2, .int .i64 d3], .int .i64 0]) ∧ Below wr.heap.size wr w'
theorem sum_runs {k : Nat} {s P T : Int} {wf : World} {z : Nat} (hk : k < 200) (hs : isW s) (hT : T = ((5 + 3 * k : Nat) : Int)) (hP : P = ((k : Int) * s) % 18446744073709551616) (hsz : wf.heap.size = z + 6) (h1 : Blk wf z 67 (u8c (List.replicate 20 0)).toArray) (h2 : Blk wf (z + 1) 45 (rnc (rgS k s z).ns).toArray) (h3 : Blk wf (z + 3) 48 (rgc [rgS k s z]).toArray)
    (bd : Bool) (wr : World) (hb : Below wf.heap.size wf wr) : Calls Try.prog 10 #[.agg #[.slice (some ⟨z + 1 + 1 + 1, 0, none⟩) 1 1], .bool bd, .slice none 0 0, .int .i64 2000] wr (SumPost T P wr) := by
  have hks : isW (k : Int) := ⟨by omega, by omega⟩
  have hrd := (sum_rd hks hs h1 h2 h3).below (hb.mono (by omega))
  have hsz2 := hb.size
  subst hP hT
  cases bd
  · obtain ⟨stF, r1, r2, r3, r4, r5⟩ := sum_all (sumE_free hks hs z) hk
    refine (run_okF resumeOK_free (z + 4) (z + 3) 0 1 1 [rgS k s z] none 0 0 [] 2000 stF wr hrd (by omega) Reads.none_ (by omega) (by omega) (sum_validF k s) r1 stF (by rw [if_pos r2])).mono ?_
    rintro e w' ⟨ev, rfl, hown, h⟩
    obtain ⟨A, c, rfl⟩ := own_slice hown
    exact ⟨A, _, c, _, _, _, by rw [r3, r4, r5], h⟩
  · obtain ⟨stF, r1, r2, r3, r4, r5⟩ := sum_all (sumE_bound hks hs z) hk
    refine (run_okT resumeOK_bound (z + 4) (z + 3) 0 1 1 [rgS k s z] none 0 0 [] 2000 stF wr hrd (by omega) Reads.none_ (by omega) (by omega) (sum_validT k s) r1 stF (by rw [if_pos r2])).mono ?_
    rintro e w' ⟨ev, rfl, hown, h⟩
    obtain ⟨A, c, rfl⟩ := own_slice hown
    exact ⟨A, _, c, _, _, _, by rw [r3, r4, r5], h⟩
end Go.Proofs.Ytlnccpojldiogaa

/-
  IrunSums: the walk.
-/
namespace Go.Proofs.Ytlnccpojldiogaa
set_option linter.unusedVariables false
set_option linter.unusedSimpArgs false
open Go.ChangeShapes Go.WideShapes Go.ChangeAt Go.RowKit

theorem info_kind' : (Try.prog.info? 67).map (fun i => (i.zero, i.size, i.bytes)) = some (some (.int .u8 0), 1, 1) := by kernel_rfl
theorem wrap_nat {x : Nat} (h : x < 100000) : IntKind.u64.wrap (x : Int) = (x : Int) := by
  rw [wrap_u64_eq]
  omega
theorem wrap_nat' {x : Nat} (h : x < 100000) : IntKind.i64.wrap (x : Int) = (x : Int) := by
  rw [IntKind.wrap_i64]
  omega
set_option maxRecDepth 100000 in
set_option maxHeartbeats 3200000 in
theorem sums_all (HM : MoveOK false) (n s : Int) (w : World) (hn : isW n) (hs : isW s) :
    Calls Try.prog 4 #[.int .u64 n, .int .u64 s] w fun e w' => e = .returned (.bool true) ∧ Below w.heap.size w w' := by
  obtain ⟨k, hk, hk2⟩ : ∃ k : Nat, (k : Int) = n % 200 ∧ k < 200 := ⟨(n % 200).toNat, by omega, by omega⟩
  have gk : n.tmod 200 = (k : Int) := by
    rw [Int.tmod_eq_emod_of_nonneg hn.1]
    exact hk.symm
  have hmk : ∀ W : World, (Instr.makeSlice 40 (.int .i64 20) (.int .i64 20)).run Try.prog W = .ok (.slice (some ⟨W.heap.size, 0, none⟩) 20 20) (W.alloc (.cells (madeCells #[.int .u8 0] 20) 67)) := fun W => run_make_row' _ _ _ 1 Try.underlying40 info_kind' rfl .i64 .i64 20 (by omega) (by omega) W
  obtain ⟨P, hP⟩ : ∃ P, P = ((k : Int) * s) % 18446744073709551616 := ⟨_, rfl⟩
  have gP : IntKind.u64.wrap ((k : Int) * s) = P := by rw [wrap_u64_eq, hP]
  obtain ⟨T, hT⟩ : ∃ T : Int, T = ((5 + 3 * k : Nat) : Int) := ⟨_, rfl⟩
  have HN := Lib.hid hn
  have HT := Lib.hid hT
  have HRUNS : Hid (∀ w1 : World, ∀ (bd : Bool) (wr : World), Below (sumWf k s w1).heap.size (sumWf k s w1) wr → Calls Try.prog 10 #[.agg #[.slice (some ⟨w1.heap.size + 1 + 1 + 1, 0, none⟩) 1 1], .bool bd, .slice none 0 0, .int .i64 2000] wr (SumPost T P wr)) := Lib.hid fun w1 bd wr hb => by
    obtain ⟨f1, f2, f3, f4, f5, f6, f7⟩ := sumWf_facts k s w1
    exact sum_runs hk2 hs hT hP f1 f3 f4 f5 bd wr hb
  have HK2 := Lib.hid hk2
  clear hk hn hs hP hk2 hT
  go_enter Try.func4, Try.ntmps4
  go_wp2_with (go_at_call 9; refine (first8_any HM _).mono ?_; rintro e w1 ⟨rfl, hb1⟩; have HB1 := Lib.hid hb1; clear hb1; have HR := Lib.hid (HRUNS.out w1); clear HRUNS; refine Hid.out ?_)
  refine Lib.hid ?_
  go_wp2
  refine (fun (hg : ∀ wf, wf = sumWf k s w1 → Code.wp _ _ _ _ wf) => hg _ rfl) ?_
  intro wf hwf
  have hfa := sumWf_facts k s w1
  rw [← hwf] at hfa HR
  obtain ⟨f1, f2, _, _, _, f6, f7⟩ := hfa
  have HBW := Lib.hid (HB1.out.trans (f2.mono HB1.out.size))
  obtain ⟨pr, hpr⟩ : ∃ p, p = w1.heap.size + 1 + 1 + 1 := ⟨_, rfl⟩
  rw [show w1.heap.size + 4 = w1.heap.size + 1 + 1 + 1 + 1 by omega, ← hpr] at f6
  rw [show w1.heap.size + 5 = w1.heap.size + 1 + 1 + 1 + 1 + 1 by omega, ← hpr] at f7
  rw [← hpr] at HR ⊢
  obtain ⟨pg, hpg⟩ : ∃ p, p = pr + 1 := ⟨_, rfl⟩
  rw [← hpg] at f6 f7 ⊢
  obtain ⟨pl, hpl⟩ : ∃ p, p = pg + 1 := ⟨_, rfl⟩
  rw [← hpl] at f7 ⊢
  have HG := Lib.hid f6
  have HL := Lib.hid f7
  clear f1 f2 f6 f7 hwf HB1 hpr hpg hpl
  go_loopw [33] (fun i wr => ∃ j : Nat, j ≤ 2 ∧ i = .int .i64 j ∧ Hid (Below wf.heap.size wf wr)) (fun i _ => 2 - (intOf i).toNat)
  case atStart => exact ⟨0, by omega, rfl, Lib.hid (Below.refl _ _)⟩
  case round =>
    obtain ⟨j, hj, rfl, HW⟩ := hrel
    have g0 : wr.cell? ⟨pg, 0, none⟩ = some (.slice (some ⟨pr, 0, none⟩) 1 1) := (HG.out.below HW.out HG.out.lt).cell 0
    have l0 : wr.cell? ⟨pl, 0, none⟩ = some (.bool false) := (HL.out.below HW.out HL.out.lt).cell 0
    have l1 : wr.cell? ⟨pl, 1, none⟩ = some (.bool true) := (HL.out.below HW.out HL.out.lt).cell 1
    by_cases hlt : j < 2
    · have HC := Lib.hid (fun bd => HR.out bd wr HW.out)
      have g5 : IntKind.u64.wrap (3 * (k : Int)) = 3 * (k : Int) := by
        have := HK2.out
        rw [show (3 : Int) * (k : Int) = ((3 * k : Nat) : Int) by omega]
        exact wrap_nat (by omega)
      have g6 : IntKind.u64.wrap (5 + 3 * (k : Int)) = T := by
        have := HK2.out
        rw [HT.out, show (5 : Int) + 3 * (k : Int) = ((5 + 3 * k : Nat) : Int) by omega]
        exact wrap_nat (by omega)
      have g7 : IntKind.i64.wrap T = T := by
        have := HK2.out
        rw [HT.out]
        exact wrap_nat' (by omega)
      have hee : ∀ W, Sem.run Try.prog (Op.equalIn 10000 32 (.agg #[.int .i64 1, .int .u64 P]) (.agg #[.int .i64 1, .int .u64 P])) W = .ok true W := fun W => by
        have := equalIn_end (1, P) (1, P) W
        simpa using this
      rcases (show j = 0 ∨ j = 1 by omega) with rfl | rfl
      · clear HR
        go_wp2_with (go_at_call 10; refine (HC.out false).mono ?_; rintro e w2 ⟨A, m, c, d1, d2, d3, rfl, hb2⟩; have HB2 := Lib.hid hb2; clear hb2)
        go_roundw
        case rel => exact ⟨1, by omega, by go_num, Lib.hid (((HW.out.trans (HB2.out.mono HW.out.size))).alloc (HW.out.trans (HB2.out.mono HW.out.size)).size _)⟩
        case measure => simp [intOf]
      · clear HR
        go_wp2_with (go_at_call 10; refine (HC.out true).mono ?_; rintro e w2 ⟨A, m, c, d1, d2, d3, rfl, hb2⟩; have HB2 := Lib.hid hb2; clear hb2)
        go_roundw
        case rel => exact ⟨2, by omega, by go_num, Lib.hid (((HW.out.trans (HB2.out.mono HW.out.size))).alloc (HW.out.trans (HB2.out.mono HW.out.size)).size _)⟩
        case measure => simp [intOf]
    · obtain rfl : j = 2 := by omega
      clear HR
      go_wp2
      go_ret
      exact ⟨rfl, HBW.out.trans (HW.out.mono HBW.out.size)⟩
theorem isW_of {a : Int} (h : (Lit.int .u64 a).wf = true) : isW a := by
  simp [Lit.wf, IntKind.min, IntKind.max, IntKind.signed, IntKind.bits] at h
  unfold isW
  omega
end Go.Proofs.Ytlnccpojldiogaa
