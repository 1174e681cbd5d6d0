/-
  BitsNil: the walk, put together.
-/
import Derived.Test.YtfdipemllbgdnaaDoorNil
namespace Go.Proofs.YtfdipemllbgdnaaDoor
set_option linter.unusedVariables false
set_option linter.unusedSimpArgs false
open Go.ChangeShapes Go.WideShapes Go.ChangeAt Go.RowKit

/-- what adding i to a new set does -/
def AddAll (i : Int) (m q : Nat) (ok : Bool) (w1 : World) : Prop := ∃ W3,
  Hid (Calls Tryd.prog 6 #[.pointer (some ⟨w1.heap.size + 1, 0, none⟩), .int .i64 i] (newW w1 m q) fun e w' => e = .returned (.bool ok) ∧ ∃ nq, w' = W3.drewN nq) ∧
  Hid (∀ n, Calls Tryd.prog 7 #[.pointer (some ⟨w1.heap.size + 1, 0, none⟩), .int .i64 i] (W3.drewN n) fun e w' => e = .returned (.bool ok) ∧ ∃ nq, w' = (W3.drewN n).drewN nq) ∧
  Hid (Blk W3 (w1.heap.size + 1) 35 #[.int .i64 m, .slice (some ⟨w1.heap.size, 0, none⟩) q q]) ∧ Hid (Below w1.heap.size w1 W3)
theorem all_yes (j m q : Nat) (hm : m ≤ 5000) (hj : j < m) (hq : q = (m + 63) / 64) (w1 : World) : AddAll j m q true w1 := by
  obtain ⟨c, hc⟩ : ∃ c, c = j % 64 := ⟨_, rfl⟩
  obtain ⟨k, hk⟩ : ∃ k, k = j / 64 := ⟨_, rfl⟩
  have h1 := one_in w1 m q k c
  refine ⟨_, Lib.hid (add_at (w1.heap.size + 1) w1.heap.size m q j c k (newW w1 m q) (newW_p w1 m q) (newW_b w1 m q) hm hj hc hk (by omega)), Lib.hid fun n => (h1.drewN n).has hm hj hc hk (by omega), Lib.hid h1.p, Lib.hid ((newW_below w1 m q).setCell (by exact Nat.le_refl _) _)⟩
theorem all_no (i : Int) (m q : Nat) (hi : i < 0 ∨ (m : Int) ≤ i) (w1 : World) : AddAll i m q false w1 := by
  have hp := newW_p w1 m q
  exact ⟨newW w1 m q, Lib.hid ((add_no _ i m _ (hp.cell 0) hi).mono fun e w' ⟨h1, h2⟩ => ⟨h1, 0, h2⟩), Lib.hid fun n => has_no _ i m _ ((hp.drewN n).cell 0) hi, Lib.hid hp, Lib.hid (newW_below w1 m q)⟩
theorem blk_on {W w4 : World} {n g : Nat} {t : TypeId} {cs : Array Value} (h : Blk W g t cs) (hb : Below (W.drewN n).heap.size (W.drewN n) w4) : Blk w4 g t cs := (h.drewN n).below hb (h.drewN n).lt
theorem fin_below {w w1 W3 w2 : World} {N k : Nat} (h1 : Below w.heap.size w w1) (h2 : Below w1.heap.size w1 W3) (h3 : Below (W3.drewN N).heap.size (W3.drewN N) w2) : Below w.heap.size w ((newW w2 3 1).drewN k) := by
  have a := h1.trans (h2.mono h1.size)
  have s1 : w.heap.size ≤ (W3.drewN N).heap.size := a.size
  have b := (below_drewN a N).trans (h3.mono s1)
  exact below_drewN (b.trans ((newW_below w2 3 1).mono b.size)) k
theorem tmod_in (x : Int) : -5000 < x.tmod 5000 ∧ x.tmod 5000 < 5000 := by
  rcases Int.le_total 0 x with h | h
  · rw [Int.tmod_eq_emod_of_nonneg h]
    omega
  · have h1 : (-x).tmod 5000 = (-x) % 5000 := Int.tmod_eq_emod_of_nonneg (by omega)
    rw [Int.neg_tmod] at h1
    omega
theorem same_new (W : World) : Calls Tryd.prog 14 #[.pointer none, .pointer (some ⟨W.heap.size + 1, 0, none⟩)] (newW W 3 1) fun e w' => e = .returned (.bool true) ∧ ∃ nq, w' = (newW W 3 1).drewN nq :=
  same_nil _ W.heap.size 1 _ (Lib.hid rfl) (by omega) ((newW_p W 3 1).cell 1) (by rw [(newW_b W 3 1).cell]; simp [madeCells])
set_option maxHeartbeats 6400000 in
theorem nil_walk (n i : Int) (w : World) : Calls Tryd.prog 3 #[.int .i64 n, .int .i64 i] w fun e w' => e = .returned (.bool true) ∧ Below w.heap.size w w' := by
  obtain ⟨r, hr, hr1, hr2⟩ : ∃ r, n.tmod 5000 = r ∧ -5000 < r ∧ r < 5000 := ⟨_, rfl, (tmod_in n).1, (tmod_in n).2⟩
  obtain ⟨m, hm⟩ : ∃ m : Nat, (m : Int) = if r < 0 then 0 else r := ⟨(if r < 0 then 0 else r).toNat, by split <;> omega⟩
  obtain ⟨q, hq⟩ : ∃ q, q = (m + 63) / 64 := ⟨_, rfl⟩
  have hm5 : m ≤ 5000 := by split at hm <;> omega
  have HNEW := Lib.hid (new_any r m q (by omega) (by omega) hm hq)
  have HN3 := Lib.hid (new_any 3 3 1 (by omega) (by omega) (by rw [if_neg (by omega)]; rfl) (by omega))
  have HSAME := Lib.hid same_new
  by_cases h0 : 0 ≤ i
  · have g0 : decide (i ≥ 0) = true := by simpa using h0
    have g1 : decide (0 ≤ i) = true := by simpa using h0
    by_cases h1 : i < r
    · have g2 : decide (i < r) = true := by simpa using h1
      obtain ⟨j, rfl⟩ : ∃ j : Nat, i = j := ⟨i.toNat, by omega⟩
      have HALL := Lib.hid (all_yes j m q hm5 (by split at hm <;> omega) hq)
      clear hm hq hm5 h0 h1 hr1 hr2
      go_enter Tryd.func3, Tryd.ntmps3
      go_wp2_with (first
        | (go_at_call 4; refine (first_any _).mono ?_; rintro e w1 ⟨rfl, hb1⟩; have HB1 := Lib.hid hb1; clear hb1; obtain ⟨W3, HADD, HHAS, HBL, HBW⟩ := HALL.out w1)
        | (go_at_call 5; with_reducible refine (HNEW.out _).mono ?_; rintro e w2 ⟨rfl, rfl⟩)
        | (go_at_call 5; with_reducible refine (HN3.out _).mono ?_; rintro e w2 ⟨rfl, rfl⟩)
        | (go_at_call 6; with_reducible refine HADD.out.mono ?_; rintro e w2 ⟨rfl, n1, rfl⟩)
        | (go_at_call 6; with_reducible refine (add_nil _ _).mono ?_; rintro e w2 ⟨rfl, rfl⟩)
        | (go_at_call 7; with_reducible refine (HHAS.out _).mono ?_; rintro e w2 ⟨rfl, n2, rfl⟩)
        | (go_at_call 7; with_reducible refine (has_nil _ _).mono ?_; rintro e w2 ⟨rfl, n4, rfl⟩)
        | (go_at_call 8; with_reducible refine (del_nil _ _).mono ?_; rintro e w2 ⟨rfl, n3, rfl⟩)
        | (go_at_call 9; with_reducible refine (len_nil _).mono ?_; rintro e w2 ⟨rfl, rfl⟩)
        | (go_at_call 10; refine (list_nil _).mono ?_; rintro e w4 ⟨⟨A, c, rfl⟩, hb4⟩; have HB4 := Lib.hid hb4; clear hb4; have HBL4 := Lib.hid (blk_on HBL.out HB4.out); have HO1 := Lib.hid (or_left _ _ _ w4 (HBL4.out.cell 1)); have HO2 := Lib.hid (or_right _ _ _ w4 (HBL4.out.cell 1)); have HM2 := Lib.hid (minus_right _ _ _ w4 (HBL4.out.cell 1)))
        | (go_at_call 11; with_reducible refine (copy_nil _).mono ?_; rintro e w2 ⟨rfl, rfl⟩)
        | (go_at_call 12; with_reducible refine HO1.out.mono ?_; rintro e w2 ⟨rfl, rfl⟩)
        | (go_at_call 12; with_reducible refine HO2.out.mono ?_; rintro e w2 ⟨rfl, rfl⟩)
        | (go_at_call 13; with_reducible refine HM2.out.mono ?_; rintro e w2 ⟨rfl, rfl⟩)
        | (go_at_call 14; with_reducible refine (HSAME.out _).mono ?_; rintro e w2 ⟨rfl, n9, rfl⟩))
      go_ret
      exact ⟨rfl, fin_below HB1.out HBW.out HB4.out⟩
    · have g2 : decide (i < r) = false := by simpa using h1
      have HALL := Lib.hid (all_no i m q (by split at hm <;> omega))
      clear hm hq hm5 h0 h1 hr1 hr2
      go_enter Tryd.func3, Tryd.ntmps3
      go_wp2_with (first
        | (go_at_call 4; refine (first_any _).mono ?_; rintro e w1 ⟨rfl, hb1⟩; have HB1 := Lib.hid hb1; clear hb1; obtain ⟨W3, HADD, HHAS, HBL, HBW⟩ := HALL.out w1)
        | (go_at_call 5; with_reducible refine (HNEW.out _).mono ?_; rintro e w2 ⟨rfl, rfl⟩)
        | (go_at_call 5; with_reducible refine (HN3.out _).mono ?_; rintro e w2 ⟨rfl, rfl⟩)
        | (go_at_call 6; with_reducible refine HADD.out.mono ?_; rintro e w2 ⟨rfl, n1, rfl⟩)
        | (go_at_call 6; with_reducible refine (add_nil _ _).mono ?_; rintro e w2 ⟨rfl, rfl⟩)
        | (go_at_call 7; with_reducible refine (HHAS.out _).mono ?_; rintro e w2 ⟨rfl, n2, rfl⟩)
        | (go_at_call 7; with_reducible refine (has_nil _ _).mono ?_; rintro e w2 ⟨rfl, n4, rfl⟩)
        | (go_at_call 8; with_reducible refine (del_nil _ _).mono ?_; rintro e w2 ⟨rfl, n3, rfl⟩)
        | (go_at_call 9; with_reducible refine (len_nil _).mono ?_; rintro e w2 ⟨rfl, rfl⟩)
        | (go_at_call 10; refine (list_nil _).mono ?_; rintro e w4 ⟨⟨A, c, rfl⟩, hb4⟩; have HB4 := Lib.hid hb4; clear hb4; have HBL4 := Lib.hid (blk_on HBL.out HB4.out); have HO1 := Lib.hid (or_left _ _ _ w4 (HBL4.out.cell 1)); have HO2 := Lib.hid (or_right _ _ _ w4 (HBL4.out.cell 1)); have HM2 := Lib.hid (minus_right _ _ _ w4 (HBL4.out.cell 1)))
        | (go_at_call 11; with_reducible refine (copy_nil _).mono ?_; rintro e w2 ⟨rfl, rfl⟩)
        | (go_at_call 12; with_reducible refine HO1.out.mono ?_; rintro e w2 ⟨rfl, rfl⟩)
        | (go_at_call 12; with_reducible refine HO2.out.mono ?_; rintro e w2 ⟨rfl, rfl⟩)
        | (go_at_call 13; with_reducible refine HM2.out.mono ?_; rintro e w2 ⟨rfl, rfl⟩)
        | (go_at_call 14; with_reducible refine (HSAME.out _).mono ?_; rintro e w2 ⟨rfl, n9, rfl⟩))
      go_ret
      exact ⟨rfl, fin_below HB1.out HBW.out HB4.out⟩
  · have g0 : decide (i ≥ 0) = false := by simpa using h0
    have g1 : decide (0 ≤ i) = false := by simpa using h0
    have HALL := Lib.hid (all_no i m q (.inl (by omega)))
    clear hm hq hm5 h0 hr1 hr2
    go_enter Tryd.func3, Tryd.ntmps3
    go_wp2_with (first
      | (go_at_call 4; refine (first_any _).mono ?_; rintro e w1 ⟨rfl, hb1⟩; have HB1 := Lib.hid hb1; clear hb1; obtain ⟨W3, HADD, HHAS, HBL, HBW⟩ := HALL.out w1)
      | (go_at_call 5; with_reducible refine (HNEW.out _).mono ?_; rintro e w2 ⟨rfl, rfl⟩)
      | (go_at_call 5; with_reducible refine (HN3.out _).mono ?_; rintro e w2 ⟨rfl, rfl⟩)
      | (go_at_call 6; with_reducible refine HADD.out.mono ?_; rintro e w2 ⟨rfl, n1, rfl⟩)
      | (go_at_call 6; with_reducible refine (add_nil _ _).mono ?_; rintro e w2 ⟨rfl, rfl⟩)
      | (go_at_call 7; with_reducible refine (HHAS.out _).mono ?_; rintro e w2 ⟨rfl, n2, rfl⟩)
      | (go_at_call 7; with_reducible refine (has_nil _ _).mono ?_; rintro e w2 ⟨rfl, n4, rfl⟩)
      | (go_at_call 8; with_reducible refine (del_nil _ _).mono ?_; rintro e w2 ⟨rfl, n3, rfl⟩)
      | (go_at_call 9; with_reducible refine (len_nil _).mono ?_; rintro e w2 ⟨rfl, rfl⟩)
      | (go_at_call 10; refine (list_nil _).mono ?_; rintro e w4 ⟨⟨A, c, rfl⟩, hb4⟩; have HB4 := Lib.hid hb4; clear hb4; have HBL4 := Lib.hid (blk_on HBL.out HB4.out); have HO1 := Lib.hid (or_left _ _ _ w4 (HBL4.out.cell 1)); have HO2 := Lib.hid (or_right _ _ _ w4 (HBL4.out.cell 1)); have HM2 := Lib.hid (minus_right _ _ _ w4 (HBL4.out.cell 1)))
      | (go_at_call 11; with_reducible refine (copy_nil _).mono ?_; rintro e w2 ⟨rfl, rfl⟩)
      | (go_at_call 12; with_reducible refine HO1.out.mono ?_; rintro e w2 ⟨rfl, rfl⟩)
      | (go_at_call 12; with_reducible refine HO2.out.mono ?_; rintro e w2 ⟨rfl, rfl⟩)
      | (go_at_call 13; with_reducible refine HM2.out.mono ?_; rintro e w2 ⟨rfl, rfl⟩)
      | (go_at_call 14; with_reducible refine (HSAME.out _).mono ?_; rintro e w2 ⟨rfl, n9, rfl⟩))
    go_ret
    exact ⟨rfl, fin_below HB1.out HBW.out HB4.out⟩
end Go.Proofs.YtfdipemllbgdnaaDoor
