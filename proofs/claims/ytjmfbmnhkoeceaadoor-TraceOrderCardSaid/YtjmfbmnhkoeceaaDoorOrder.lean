/-
  The walk through TraceOrder: being a beginning is an order.
-/
import Derived.Test.YtjmfbmnhkoeceaaDoorFirst
import Derived.Test.YtjmfbmnhkoeceaaDoorEq
namespace Go.Proofs.YtjmfbmnhkoeceaaDoor
set_option linter.unusedVariables false
open Go.ChangeShapes Go.WideShapes Go.ChangeAt Go.RowKit

theorem beg_take {l : List Ev} {n i j : Nat} (hl : l.length = n) (hi : i ≤ n) (hj : j ≤ n) : beg (l.take i) (l.take j) = decide (i ≤ j) := by
  unfold beg
  rw [List.length_take, List.take_take, Bool.eq_iff_iff]
  simp only [decide_eq_true_eq]
  constructor
  · intro h
    have h := congrArg List.length h
    simp only [List.length_take] at h
    omega
  · intro h
    congr 1
    omega
theorem sam_take {l : List Ev} {n i j : Nat} (hl : l.length = n) (hi : i ≤ n) (hj : j ≤ n) : sam (l.take i) (l.take j) = decide (i = j) := by
  unfold sam
  rw [Bool.eq_iff_iff]
  simp only [decide_eq_true_eq]
  constructor
  · intro h
    have h := congrArg List.length h
    simp only [List.length_take] at h
    omega
  · rintro rfl; rfl

theorem mod_cut (c : Int) (n : Nat) (hn : (n : Int) ≤ 140737488351232) : ∃ i : Nat, i ≤ n ∧ wrap64 ((IntKind.u64.wrap c).tmod ((n : Int) + 1)) = i := by
  rw [IntKind.wrap_u64]
  have h0 : 0 ≤ c % 18446744073709551616 := Int.emod_nonneg _ (by omega)
  rw [Int.tmod_eq_emod_of_nonneg h0]
  have h1 := Int.emod_nonneg (c % 18446744073709551616) (show (n : Int) + 1 ≠ 0 by omega)
  have h2 := Int.emod_lt_of_pos (c % 18446744073709551616) (show (0 : Int) < (n : Int) + 1 by omega)
  generalize c % 18446744073709551616 % ((n : Int) + 1) = r at h1 h2
  exact ⟨r.toNat, by omega, by rw [IntWalk.wrap64_in r ⟨by omega, by omega⟩]; omega⟩

set_option maxHeartbeats 4000000 in
theorem order_walk (ao : Option Addr) (n c : Nat) (l : List Ev) (c0 c1 : Int) (w : World) (h : Reads w w.heap.size 2 ao n (evc l)) (hl : l.length = n) (hnc : n ≤ c) (hc : c * 16 ≤ 140737488351232) :
    Calls Tryd.prog 6 #[.slice ao n c, .agg #[.int .i64 c0, .int .i64 c1]] w fun e w' => e = .returned (.bool true) ∧ Below w.heap.size w w' := by
  have HR := Lib.hid h
  have HL := Lib.hid hl
  obtain ⟨i, hi, hie⟩ := mod_cut c0 n (by omega)
  obtain ⟨j, hj, hje⟩ := mod_cut c1 n (by omega)
  have HI := Lib.hid hie
  have HJ := Lib.hid hje
  clear h hl hie hje
  go_enter Tryd.func6, Tryd.ntmps6
  go_wp2_with (go_at_call 9; refine (first_any _).mono ?_; rintro e w1 ⟨rfl, hb1⟩; refine Hid.out ?_)
  have d0 : w1.cell? ⟨w.heap.size, 0, none⟩ = some (.int .i64 c0) := by rw [hb1.cell (p := ⟨w.heap.size, 0, none⟩) (by simp), (Blk.new w _ _).cell]; rfl
  have d1 : w1.cell? ⟨w.heap.size, 1, none⟩ = some (.int .i64 c1) := by rw [hb1.cell (p := ⟨w.heap.size, 1, none⟩) (by simp), (Blk.new w _ _).cell]; rfl
  have hb : Below w.heap.size w w1 := ((Below.refl _ _).alloc (Nat.le_refl _) _).trans (hb1.mono (by simp))
  have HR1 := HR.out.below hb
  have HP : Hid (∀ (i j q : Nat), i ≤ n → j ≤ n → Calls Tryd.prog 16 #[.slice ao i c, .slice ao j c] (w1.drewN q) fun e w' => e = .returned (.bool (decide (i ≤ j))) ∧ ∃ q', w' = w1.drewN q') := by
    intro i j q hi hj
    refine (prefix_any w.heap.size ao ao i j c c (l.take i) (l.take j) _ ((HR1.take HL.out hi).drewN q) ((HR1.take HL.out hj).drewN q) (by have := HL.out; rw [List.length_take]; omega) (by have := HL.out; rw [List.length_take]; omega) (by unfold maxLen; omega) (by omega) (by unfold maxLen; omega)).mono ?_
    rintro e w' ⟨rfl, q', rfl⟩
    exact ⟨by rw [beg_take HL.out hi hj], _, World.drewN_drewN _ _ _⟩
  have HS : Hid (∀ (i j q : Nat), i ≤ n → j ≤ n → Calls Tryd.prog 15 #[.slice ao i c, .slice ao j c] (w1.drewN q) fun e w' => e = .returned (.bool (decide (i = j))) ∧ ∃ q', w' = w1.drewN q') := by
    intro i j q hi hj
    refine (same_any w.heap.size ao ao i j c c (l.take i) (l.take j) _ ((HR1.take HL.out hi).drewN q) ((HR1.take HL.out hj).drewN q) (by have := HL.out; rw [List.length_take]; omega) (by have := HL.out; rw [List.length_take]; omega) (by unfold maxLen; omega) (by unfold maxLen; omega)).mono ?_
    rintro e w' ⟨rfl, q', rfl⟩
    exact ⟨by rw [sam_take HL.out hi hj], _, World.drewN_drewN _ _ _⟩
  have HN : Hid (∀ (q : Nat), Calls Tryd.prog 16 #[.slice none 0 0, .slice ao n c] (w1.drewN q) fun e w' => e = .returned (.bool true) ∧ ∃ q', w' = w1.drewN q') := by
    intro q
    refine (prefix_any w.heap.size none ao 0 n 0 c [] l _ Reads.none_ (HR1.drewN q) rfl HL.out (by unfold maxLen; omega) (by omega) (by unfold maxLen; omega)).mono ?_
    rintro e w' ⟨rfl, q', rfl⟩
    exact ⟨rfl, _, World.drewN_drewN _ _ _⟩
  have HB := Lib.hid hb
  clear HR1 hb hb1
  refine Lib.hid ?_
  go_wp2
  go_quiet (fail)
  rw [HI.out, HJ.out]
  clear d0 d1
  go_wp2
  go_quiet (fail)
  have e4 : decide (n ≤ n) = true := by simp
  have e5 : decide (i ≤ n) = true := by simp; omega
  have e6 : decide (j ≤ n) = true := by simp; omega
  rcases Nat.lt_trichotomy i j with hij | hij | hij
  · have e1 : decide (i ≤ j) = true := by simp; omega
    have e2 : decide (j ≤ i) = false := by simp; omega
    have e3 : decide (i = j) = false := by simp; omega
    go_wp2_with (first
      | (go_at_call 16; with_reducible refine (HP.out _ _ _ (by omega) (by omega)).mono ?_; rintro e w' ⟨rfl, q', rfl⟩)
      | (go_at_call 16; with_reducible refine (HN.out _).mono ?_; rintro e w' ⟨rfl, q', rfl⟩)
      | (go_at_call 15; with_reducible refine (HS.out _ _ _ (by omega) (by omega)).mono ?_; rintro e w' ⟨rfl, q', rfl⟩))
    go_ret
    exact ⟨rfl, below_drewN HB.out _⟩
  · subst hij
    have e1 : decide (i ≤ i) = true := by simp
    have e3 : decide (i = i) = true := by simp
    go_wp2_with (first
      | (go_at_call 16; with_reducible refine (HP.out _ _ _ (by omega) (by omega)).mono ?_; rintro e w' ⟨rfl, q', rfl⟩)
      | (go_at_call 16; with_reducible refine (HN.out _).mono ?_; rintro e w' ⟨rfl, q', rfl⟩)
      | (go_at_call 15; with_reducible refine (HS.out _ _ _ (by omega) (by omega)).mono ?_; rintro e w' ⟨rfl, q', rfl⟩))
    go_ret
    exact ⟨rfl, below_drewN HB.out _⟩
  · have e1 : decide (i ≤ j) = false := by simp; omega
    have e2 : decide (j ≤ i) = true := by simp; omega
    have e3 : decide (i = j) = false := by simp; omega
    go_wp2_with (first
      | (go_at_call 16; with_reducible refine (HP.out _ _ _ (by omega) (by omega)).mono ?_; rintro e w' ⟨rfl, q', rfl⟩)
      | (go_at_call 16; with_reducible refine (HN.out _).mono ?_; rintro e w' ⟨rfl, q', rfl⟩)
      | (go_at_call 15; with_reducible refine (HS.out _ _ _ (by omega) (by omega)).mono ?_; rintro e w' ⟨rfl, q', rfl⟩))
    go_ret
    exact ⟨rfl, below_drewN HB.out _⟩
end Go.Proofs.YtjmfbmnhkoeceaaDoor
