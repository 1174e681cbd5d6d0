/-
  Texts of one seat, one behind the other: IFuel.
-/
import Derived.Test.YtlnccpojldiogaaMDd

/-
  Package irun: IrunFuel: the walk.
-/
namespace Go.Proofs.Ytlnccpojldiogaa
set_option linter.unusedVariables false
set_option linter.unusedSimpArgs false
open Go.ChangeShapes Go.WideShapes Go.ChangeAt Go.RowKit

theorem blk_second (w : World) (t u : TypeId) (cs ds : Array Value) : Blk ((w.alloc (.cells cs t)).alloc (.cells ds u)) (w.heap.size + 1) u ds := by
  have := Blk.new (w.alloc (.cells cs t)) u ds
  rw [show (w.alloc (.cells cs t)).heap.size = w.heap.size + 1 by simp] at this
  exact this
theorem tmod_in (x : Int) : -4000 < x.tmod 4000 ∧ x.tmod 4000 < 4000 := by
  rcases Int.le_total 0 x with h | h
  · rw [Int.tmod_eq_emod_of_nonneg h]
    omega
  · have h1 : (-x).tmod 4000 = (-x) % 4000 := Int.tmod_eq_emod_of_nonneg (by omega)
    rw [Int.neg_tmod] at h1
    omega
set_option maxRecDepth 100000 in
set_option maxHeartbeats 12800000 in
theorem fuel_walk (HM : MoveOK false) (n c : Nat) (A : Option Addr) (rs : List RG) (ta : Option Addr) (nt ct : Nat) (tape : List Int) (x y : Int) (w : World) (h : RdP w w.heap.size A n rs) (ht : Reads w w.heap.size 1 ta nt (u64c tape)) (hnt : nt * 8 ≤ 140737488351232) (htw : ∀ v ∈ tape, isW v) (hx : -9223372036854775808 ≤ x ∧ x ≤ 9223372036854775807) (hy : -9223372036854775808 ≤ y ∧ y ≤ 9223372036854775807) :
    Calls Try.prog 3 #[.agg #[.slice A n c], .slice ta nt ct, .agg #[.int .i64 x, .int .i64 y]] w fun e w' => e = .returned (.bool true) ∧ Below w.heap.size w w' := by
  obtain ⟨p, hp, hp1, hp2⟩ : ∃ p, x.tmod 4000 = p ∧ -4000 < p ∧ p < 4000 := ⟨_, rfl, (tmod_in x).1, (tmod_in x).2⟩
  obtain ⟨q, hq, hq1, hq2⟩ : ∃ q, y.tmod 4000 = q ∧ -4000 < q ∧ q < 4000 := ⟨_, rfl, (tmod_in y).1, (tmod_in y).2⟩
  have H := Lib.hid h
  have HT := Lib.hid ht
  have HTW := Lib.hid htw
  have hn0 := Lib.hid hnt
  clear h ht htw hx hy hnt
  have HB0 : Hid (Below w.heap.size w ((w.alloc (.cells #[.slice A n c] 24)).alloc (.cells #[.int .i64 x, .int .i64 y] 26))) := Lib.hid (((Below.refl _ _).alloc (Nat.le_refl _) _).alloc (by simp) _)
  have HX0 : Hid (Blk ((w.alloc (.cells #[.slice A n c] 24)).alloc (.cells #[.int .i64 x, .int .i64 y] 26)) w.heap.size 24 #[.slice A n c]) := Lib.hid ((Blk.new w _ _).alloc _)
  have HY0 : Hid (Blk ((w.alloc (.cells #[.slice A n c] 24)).alloc (.cells #[.int .i64 x, .int .i64 y] 26)) (w.heap.size + 1) 26 #[.int .i64 x, .int .i64 y]) := Lib.hid (blk_second _ _ _ _ _)
  go_enter Try.func3, Try.ntmps3
  go_wp2_with (go_at_call 9; refine (first8_any HM _).mono ?_; rintro e w1 ⟨rfl, hb1⟩; have HX1 := Lib.hid (HX0.out.below hb1 HX0.out.lt); have HY1 := Lib.hid (HY0.out.below hb1 HY0.out.lt); have HB1 := Lib.hid (HB0.out.trans (hb1.mono (by simp; omega))); clear hb1; refine Hid.out ?_)
  have x0 : w1.cell? ⟨w.heap.size, 0, none⟩ = some (.slice A n c) := HX1.out.cell 0
  have y0 : w1.cell? ⟨w.heap.size + 1, 0, none⟩ = some (.int .i64 x) := HY1.out.cell 0
  have y1 : w1.cell? ⟨w.heap.size + 1, 1, none⟩ = some (.int .i64 y) := HY1.out.cell 1
  have hz1 : w.heap.size + 1 < w1.heap.size := HY1.out.lt
  refine Lib.hid ?_
  go_wp2
  go_quiet (fail)
  by_cases hp0 : p < 0
  · have g1 : decide (p < 0) = true := by simpa using hp0
    go_wp2
    go_ret
    exact ⟨rfl, below_drewN HB1.out nq⟩
  by_cases hq0 : q < 0
  · have g1 : decide (p < 0) = false := by simpa using hp0
    have g2 : decide (q < 0) = true := by simpa using hq0
    go_wp2
    go_ret
    exact ⟨rfl, below_drewN HB1.out nq⟩
  have g1 : decide (p < 0) = false := by simpa using hp0
  have g2 : decide (q < 0) = false := by simpa using hq0
  obtain ⟨a, ha, ha5⟩ : ∃ a : Nat, (if q < p then q else p) = (a : Int) ∧ a < 4000 := ⟨(if q < p then q else p).toNat, by split <;> omega, by split <;> omega⟩
  obtain ⟨b, hb, hb5⟩ : ∃ b : Nat, (if p < q then q else p) = (b : Int) ∧ b < 4000 := ⟨(if p < q then q else p).toNat, by split <;> omega, by split <;> omega⟩
  have hab : a ≤ b := by split at ha <;> split at hb <;> omega
  obtain ⟨w1', hw1'⟩ : ∃ W, W = w1.drewN nq := ⟨_, rfl⟩
  have HX1' : Hid (Blk w1' w.heap.size 24 #[.slice A n c]) := Lib.hid (by rw [hw1']; exact HX1.out.drewN nq)
  have HB1' : Hid (Below w.heap.size w w1') := Lib.hid (by rw [hw1']; exact below_drewN HB1.out nq)
  have x0' : w1'.cell? ⟨w.heap.size, 0, none⟩ = some (.slice A n c) := HX1'.out.cell 0
  rw [← hw1']
  clear hw1' HX1 HB1 HY1
  have HR1 : Hid (∀ W, Below w.heap.size w W → Calls Try.prog 10 #[.agg #[.slice A n c], .bool false, .slice ta nt ct, .int .i64 a] W (RunPost W rs tape a)) := Lib.hid fun W hW => run_full HM w.heap.size n c A rs ta nt ct tape a W (H.out.below hW) hW.size (HT.out.below hW) hn0.out HTW.out (by omega)
  have HR2 : Hid (∀ W, Below w.heap.size w W → Calls Try.prog 10 #[.agg #[.slice A n c], .bool false, .slice ta nt ct, .int .i64 b] W (RunPost W rs tape b)) := Lib.hid fun W hW => run_full HM w.heap.size n c A rs ta nt ct tape b W (H.out.below hW) hW.size (HT.out.below hW) hn0.out HTW.out (by omega)
  have HAB := Lib.hid hab
  have HA5 : Hid (a ≤ 1000000) := Lib.hid (by omega)
  have HB5 : Hid (b ≤ 1000000) := Lib.hid (by omega)
  clear hp1 hp2 hq1 hq2 hp0 hq0 hab ha5 hb5
  go_wp2_with (go_at_call 10; refine (HR1.out _ HB1'.out).mono ?_; rintro e w2 ⟨A1, c1, st1, er1, rfl, hra, hown, hb2⟩; have HRA1 := Lib.hid hra; have HOWN1 := Lib.hid hown; have HX2 := Lib.hid (HX1'.out.below hb2 HX1'.out.lt); have HB2 := Lib.hid (HB1'.out.trans (hb2.mono HB1'.out.size)); clear hra hown hb2; refine Hid.out ?_)
  have x2 : w2.cell? ⟨w.heap.size, 0, none⟩ = some (.slice A n c) := HX2.out.cell 0
  have hz2 : w.heap.size < w2.heap.size := HX2.out.lt
  clear HR1 x0 y0 y1 x0'
  refine Lib.hid ?_
  obtain ⟨r, hr⟩ : ∃ r, r = w2.heap.size := ⟨_, rfl⟩
  have HRR := Lib.hid hr
  have HZ3 : Hid (Blk (w2.alloc (.cells #[.slice A1 st1.evs.length c1, .int .i64 st1.endk, .int .u64 st1.endv, .int .i64 st1.steps, .int .i64 st1.depth, .int .i64 st1.defers, .int .i64 st1.maxp] 34)) r 34 #[.slice A1 st1.evs.length c1, .int .i64 st1.endk, .int .u64 st1.endv, .int .i64 st1.steps, .int .i64 st1.depth, .int .i64 st1.defers, .int .i64 st1.maxp]) := Lib.hid (by rw [hr]; exact Blk.new w2 _ _)
  have HB3 : Hid (Below w.heap.size w (w2.alloc (.cells #[.slice A1 st1.evs.length c1, .int .i64 st1.endk, .int .u64 st1.endv, .int .i64 st1.steps, .int .i64 st1.depth, .int .i64 st1.defers, .int .i64 st1.maxp] 34))) := Lib.hid (HB2.out.alloc HB2.out.size _)
  have HO3 : Hid (Reads (w2.alloc (.cells #[.slice A1 st1.evs.length c1, .int .i64 st1.endk, .int .u64 st1.endv, .int .i64 st1.steps, .int .i64 st1.depth, .int .i64 st1.defers, .int .i64 st1.maxp] 34)) r 2 A1 st1.evs.length (ievc st1.evs)) := Lib.hid (by rw [hr]; exact (Reads.of_own HOWN1.out).alloc (Nat.le_refl _) _)
  clear hr
  go_wp2_with (go_at_call 10; refine (HR2.out _ HB3.out).mono ?_; rintro e w4 ⟨A2, c2, st2, er2, rfl, hra, hown, hb4⟩; have HRA2 := Lib.hid hra; have HOWN2 := Lib.hid hown; have HB4' := Lib.hid hb4; clear hra hown hb4; refine Hid.out ?_)
  have hrw : r = w2.heap.size := HRR.out
  have hz4 : w2.heap.size < w4.heap.size := by have := HB4'.out.size; simp at this; omega
  have HB4 : Hid (Below w.heap.size w w4) := Lib.hid (HB3.out.trans (HB4'.out.mono (by simp; omega)))
  have HZ4 : Hid (Blk w4 r 34 #[.slice A1 st1.evs.length c1, .int .i64 st1.endk, .int .u64 st1.endv, .int .i64 st1.steps, .int .i64 st1.depth, .int .i64 st1.defers, .int .i64 st1.maxp]) := Lib.hid (HZ3.out.below HB4'.out HZ3.out.lt)
  have HO4 : Hid (Reads w4 w4.heap.size 2 A1 st1.evs.length (ievc st1.evs)) := Lib.hid ((HO3.out.below (HB4'.out.mono (by rw [hrw]; simp))).more (by omega))
  have HP4 : Hid (Reads w4 w4.heap.size 2 A2 st2.evs.length (ievc st2.evs)) := Lib.hid (Reads.of_own HOWN2.out)
  have z0 := HZ4.out.cell 0
  have z1 := HZ4.out.cell 1
  have z2 := HZ4.out.cell 2
  have z3 := HZ4.out.cell 3
  have z4 := HZ4.out.cell 4
  have z5 := HZ4.out.cell 5
  have z6 := HZ4.out.cell 6
  simp only [List.getElem?_toArray, List.getElem?_cons_succ, List.getElem?_cons_zero, hrw] at z0 z1 z2 z3 z4 z5 z6
  obtain ⟨hl1, _⟩ := HRA1.out.len HA5.out
  obtain ⟨hl2, _⟩ := HRA2.out.len HB5.out
  have HL1 := Lib.hid hl1
  have HL2 := Lib.hid hl2
  obtain ⟨he, hcs⟩ := fuel_math HRA1.out HRA2.out HAB.out
  clear HR2 HRA1 HRA2 HZ3 HB3 HO3 HOWN1 HOWN2 HB4' HZ4 x2 hrw HRR HX2 HB2 hl1 hl2 HX1'
  subst he
  have HBF : Hid (∀ o, Below w.heap.size w (w4.alloc o)) := Lib.hid fun o => HB4.out.alloc HB4.out.size o
  have HSAM : Hid (∀ o, Calls Try.prog 11 #[.slice A1 st1.evs.length c1, .slice A2 st2.evs.length c2] (w4.alloc o) fun e w' => e = .returned (.bool (sam st1.evs st2.evs)) ∧ ∃ q, w' = (w4.alloc o).drewN q) := Lib.hid fun o => refsame_any w4.heap.size A1 A2 _ _ c1 c2 _ _ _ (HO4.out.alloc (Nat.le_refl _) o) (HP4.out.alloc (Nat.le_refl _) o) rfl rfl (by have := HL1.out; unfold maxLen; omega) (by have := HL2.out; unfold maxLen; omega)
  have HBEG : Hid (∀ o, Calls Try.prog 12 #[.slice A1 st1.evs.length c1, .slice A2 st2.evs.length c2] (w4.alloc o) fun e w' => e = .returned (.bool (beg st1.evs st2.evs)) ∧ ∃ q, w' = (w4.alloc o).drewN q) := Lib.hid fun o => begins_any w4.heap.size A1 A2 _ _ c1 c2 _ _ _ (HO4.out.alloc (Nat.le_refl _) o) (HP4.out.alloc (Nat.le_refl _) o) rfl rfl (by have := HL1.out; unfold maxLen; omega) (by have := HL2.out; unfold maxLen; omega)
  clear HO4 HP4
  rcases hcs with ⟨h0, k1, k2⟩ | ⟨h0, k1, k2⟩ | ⟨h0, k1, k2, k3, k5⟩
  · have g3 : (er1 != 0) = true := by simpa using h0
    have l1 : st1.evs.length = 0 := by rw [k1]; rfl
    have l2 : st2.evs.length = 0 := by rw [k2]; rfl
    rw [l1] at z0 ⊢
    rw [l2]
    clear h0 k1 k2 l1 l2 HSAM HBEG
    refine Lib.hid ?_
    go_wp2
    go_ret
    exact ⟨rfl, HBF.out _⟩
  · subst h0 k2
    have g3 : (st1.endk != 3) = true := by simpa using k1
    have HS := HSAM
    rw [sam_self] at HS
    have hee : ∀ W, Sem.run Try.prog (Op.equalIn 10000 32 (.agg #[.int .i64 st1.endk, .int .u64 st1.endv]) (.agg #[.int .i64 st1.endk, .int .u64 st1.endv])) W = .ok true W := fun W => by
      have := equalIn_end (st1.endk, st1.endv) (st1.endk, st1.endv) W
      simpa using this
    clear k1 HSAM HBEG
    refine Lib.hid ?_
    go_wp2_with (go_at_call 11; refine (HS.out _).mono ?_; rintro e w5 ⟨rfl, q5, rfl⟩)
    go_ret
    exact ⟨rfl, below_drewN (HBF.out _) q5⟩
  · subst h0
    have HS := HBEG
    rw [k5] at HS
    have g4 : decide (st2.steps ≥ a) = true := by simpa using k3
    have g5 : decide (a ≤ st2.steps) = true := by simpa using k3
    rw [k1] at z1 ⊢
    rw [k2] at z3 ⊢
    clear k1 k2 k3 k5 HSAM HBEG
    refine Lib.hid ?_
    go_wp2_with (go_at_call 12; refine (HS.out _).mono ?_; rintro e w5 ⟨rfl, q5, rfl⟩)
    go_ret
    exact ⟨rfl, below_drewN (HBF.out _) q5⟩
end Go.Proofs.Ytlnccpojldiogaa
