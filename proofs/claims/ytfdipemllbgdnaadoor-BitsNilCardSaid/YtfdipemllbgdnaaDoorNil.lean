/-
  BitsNil: the walk.
-/
import Derived.Test.YtfdipemllbgdnaaDoorRest
namespace Go.Proofs.YtfdipemllbgdnaaDoor
set_option linter.unusedVariables false
set_option linter.unusedSimpArgs false
open Go.ChangeShapes Go.WideShapes Go.ChangeAt Go.RowKit

set_option maxHeartbeats 400000 in
theorem same_nil (p b q : Nat) (w : World) (hq : Hid (q = 1)) (hq0 : 0 < q) (h1 : w.cell? ⟨p, 1, none⟩ = some (.slice (some ⟨b, 0, none⟩) q q)) (h2 : w.cell? ⟨b, 0, none⟩ = some (.int .u64 0)) : Calls Tryd.prog 14 #[.pointer none, .pointer (some ⟨p, 0, none⟩)] w fun e w' => e = .returned (.bool true) ∧ ∃ nq, w' = w.drewN nq := by
  have HA := Lib.hid (all_some p _ _ _ w h1)
  have hq1 : ¬ q = 0 := by omega
  have H2 := Lib.hid h2
  have HE : Hid (∀ n, Calls Tryd.prog 24 #[.slice (some ⟨b, 0, none⟩) q q] (w.drewN n) fun e w' => e = .returned (.bool true) ∧ w' = w.drewN n) := Lib.hid fun n => empty_q b q _ hq.out h2
  clear h1 h2
  go_enter Tryd.func14, Tryd.ntmps14
  go_wp2_with (first
    | (go_at_call 17; with_reducible refine HA.out.mono ?_; rintro e w1 ⟨rfl, rfl⟩)
    | (go_at_call 17; with_reducible refine (all_nil _).mono ?_; rintro e w1 ⟨rfl, rfl⟩))
  clear HA
  go_quiet (first
    | (go_at_call 23; with_reducible exact Calls.quiet_of_same (equal_none _ _ _ _ _))
    | (go_at_call 24; with_reducible exact Calls.quiet_of_same (HE.out _))
    | (go_at_call 24; with_reducible exact Calls.quiet_of_same (empty_none _ _ _)))
  go_wp2
  go_ret
  exact ⟨rfl, nq, rfl⟩
theorem ones_0 (w : World) : Calls Tryd.prog 18 #[.int .u64 0] w fun e w' => e = .returned (.int .i64 0) ∧ w' = w := by
  go_enter Tryd.func18, Tryd.ntmps18
  go_wp2
  go_ret
  refine ⟨?_, rfl⟩
  kernel_rfl
theorem ones_32 (w : World) : Calls Tryd.prog 18 #[.int .u64 32] w fun e w' => e = .returned (.int .i64 1) ∧ w' = w := by
  go_enter Tryd.func18, Tryd.ntmps18
  go_wp2
  go_ret
  refine ⟨?_, rfl⟩
  kernel_rfl
theorem len_first (p b : Nat) (w : World) (h1 : w.cell? ⟨p, 1, none⟩ = some (.slice (some ⟨b, 0, none⟩) 2 2)) (h2 : w.cell? ⟨b, 0, none⟩ = some (.int .u64 0)) (h3 : w.cell? ⟨b, 1, none⟩ = some (.int .u64 32)) : Calls Tryd.prog 9 #[.pointer (some ⟨p, 0, none⟩)] w fun e w' => e = .returned (.int .i64 1) ∧ w' = w := by
  have HA := Lib.hid (all_some p _ _ _ w h1)
  go_enter Tryd.func9, Tryd.ntmps9
  go_wp2_with (go_at_call 17; refine HA.out.mono ?_; rintro e w1 ⟨rfl, rfl⟩)
  go_loopw [3, 9] (fun v i wr => ∃ k : Nat, k ≤ 2 ∧ v = .int .i64 (if k = 2 then 1 else 0) ∧ i = .int .i64 k ∧ wr = w1) (fun _ i _ => 2 - (intOf i).toNat)
  case atStart => exact ⟨0, by omega, rfl, rfl, rfl⟩
  case round =>
    obtain ⟨k, hk, rfl, rfl, rfl⟩ := hrel
    rcases (show k = 0 ∨ k = 1 ∨ k = 2 by omega) with rfl | rfl | rfl
    · go_wp2_with (go_at_call 18; refine (ones_0 _).mono ?_; rintro e w2 ⟨rfl, rfl⟩)
      go_roundw
      case rel => exact ⟨1, by omega, by first | rfl | trivial, by go_num, by first | rfl | trivial⟩
      case measure => simp [intOf]
    · go_wp2_with (go_at_call 18; refine (ones_32 _).mono ?_; rintro e w2 ⟨rfl, rfl⟩)
      go_roundw
      case rel => exact ⟨2, by omega, by first | rfl | trivial, by go_num, by first | rfl | trivial⟩
      case measure => simp [intOf]
    · go_wp2
      go_ret
      exact ⟨rfl, rfl⟩
theorem below_drewN {B : Nat} {a w : World} (h : Below B a w) (n : Nat) : Below B a (w.drewN n) := ⟨h.os, h.tape, h.output, h.size, h.block⟩
theorem newW_p (w : World) (m q : Nat) : Blk (newW w m q) (w.heap.size + 1) 35 #[.int .i64 m, .slice (some ⟨w.heap.size, 0, none⟩) q q] := by
  have h := Blk.new (w.alloc (.cells (madeCells #[.int .u64 0] q) 36)) 35 #[.int .i64 m, .slice (some ⟨w.heap.size, 0, none⟩) q q]
  rw [show (w.alloc (.cells (madeCells #[.int .u64 0] q) 36)).heap.size = w.heap.size + 1 by simp] at h
  exact h
theorem newW_b (w : World) (m q : Nat) : Blk (newW w m q) w.heap.size 36 (madeCells #[.int .u64 0] q) := (Blk.new w _ _).alloc _
theorem newW_below (w : World) (m q : Nat) : Below w.heap.size w (newW w m q) := ((Below.refl _ _).alloc (Nat.le_refl _) _).alloc (by simp) _
/-- a set with one number -/
structure OneIn (W : World) (p b m q k c : Nat) : Prop where
  p : Blk W p 35 #[.int .i64 m, .slice (some ⟨b, 0, none⟩) q q]
  b : Blk W b 36 ((madeCells #[.int .u64 0] q).setIfInBounds k (.int .u64 ((2 ^ c : Nat) : Int)))
theorem one_in (w : World) (m q k c : Nat) : OneIn ((newW w m q).setCell ⟨w.heap.size, k, none⟩ (.int .u64 ((2 ^ c : Nat) : Int))) (w.heap.size + 1) w.heap.size m q k c :=
  ⟨(newW_p w m q).far (p := ⟨w.heap.size, k, none⟩) (by show w.heap.size + 1 ≠ w.heap.size; omega) _, (newW_b w m q).set_ k _⟩
section
variable {W : World} {p b m q k c j : Nat}
theorem OneIn.c0 (h : OneIn W p b m q k c) : W.cell? ⟨p, 0, none⟩ = some (.int .i64 m) := h.p.cell 0
theorem OneIn.c1 (h : OneIn W p b m q k c) : W.cell? ⟨p, 1, none⟩ = some (.slice (some ⟨b, 0, none⟩) q q) := h.p.cell 1
theorem OneIn.ck (h : OneIn W p b m q k c) (hk : k < q) : W.cell? ⟨b, k, none⟩ = some (.int .u64 ((2 ^ c : Nat) : Int)) := by
  rw [h.b.cell]
  simp [madeCells, hk]
theorem OneIn.other (h : OneIn W p b m q k c) {i : Nat} (hi : i < q) (hne : i ≠ k) : W.cell? ⟨b, i, none⟩ = some (.int .u64 0) := by
  rw [h.b.cell]
  simp [madeCells, hi, Nat.mod_one, Array.getElem?_setIfInBounds, Ne.symm hne]
theorem OneIn.drewN (h : OneIn W p b m q k c) (n : Nat) : OneIn (W.drewN n) p b m q k c := ⟨h.p.drewN n, h.b.drewN n⟩
theorem and_pow {c : Nat} (h : c < 64) : (bits BinOp.and IntKind.u64 ((2 ^ c : Nat) : Int) ((2 ^ c : Nat) : Int) != 0) = true := by
  rw [and_self _ (pow_lt64 h)]
  have h1 : 0 < 2 ^ c := Nat.pow_pos (by decide)
  have h2 : ((2 ^ c : Nat) : Int) ≠ 0 := by omega
  exact bne_iff_ne.2 h2
theorem OneIn.has (h : OneIn W p b m q k c) (hm : m ≤ 5000) (hj : j < m) (hc : c = j % 64) (hk : k = j / 64) (hkq : k < q) : Calls Tryd.prog 7 #[.pointer (some ⟨p, 0, none⟩), .int .i64 j] W fun e w' => e = .returned (.bool true) ∧ ∃ nq, w' = W.drewN nq :=
  has_at p b m q j c k _ true W h.c0 h.c1 (h.ck hkq) hm hj hc hk hkq (and_pow (by omega))
end
set_option maxHeartbeats 1600000 in
theorem first_any (w : World) : Calls Tryd.prog 4 #[] w fun e w' => e = .returned (.bool true) ∧ Below w.heap.size w w' := by
  have HN := Lib.hid (new_any 70 70 2 (by omega) (by omega) (by rw [if_neg (by omega)]; rfl) (by omega) w)
  have HA1 := Lib.hid (add_at (w.heap.size + 1) w.heap.size 70 2 69 5 1 (newW w 70 2) (newW_p w 70 2) (newW_b w 70 2) (by omega) (by omega) (by omega) (by omega) (by omega))
  have HB := Lib.hid ((newW_below w 70 2).setCell (p := ⟨w.heap.size, 1, none⟩) (by simp) (.int .u64 ((2 ^ 5 : Nat) : Int)))
  have HO := Lib.hid (one_in w 70 2 1 5)
  obtain ⟨W2, hW2⟩ : ∃ W2, W2 = (newW w 70 2).setCell ⟨w.heap.size, 1, none⟩ (.int .u64 ((2 ^ 5 : Nat) : Int)) := ⟨_, rfl⟩
  rw [← hW2] at HA1 HB HO
  clear hW2
  obtain ⟨p, hp⟩ : ∃ p, p = w.heap.size + 1 := ⟨_, rfl⟩
  rw [← hp] at HN HA1 HO
  have HA2 := Lib.hid (fun n => add_there p w.heap.size 70 2 69 5 1 _ (W2.drewN n) (HO.out.drewN n).c0 (HO.out.drewN n).c1 ((HO.out.drewN n).ck (by omega)) (by omega) (by omega) (by omega) (by omega) (by omega) (and_pow (by omega)))
  have HA3 := Lib.hid (fun n => add_no p 70 70 (W2.drewN n) (HO.out.drewN n).c0 (.inr (by omega)))
  have HH := Lib.hid (fun n => (HO.out.drewN n).has (j := 69) (by omega) (by omega) (by omega) (by omega) (by omega))
  have HL := Lib.hid (fun n => len_first p w.heap.size (W2.drewN n) (HO.out.drewN n).c1 ((HO.out.drewN n).other (by omega) (by omega)) ((HO.out.drewN n).ck (by omega)))
  have HA1 : Hid (Calls Tryd.prog 6 #[.pointer (some ⟨p, 0, none⟩), .int .i64 69] (newW w 70 2) fun e w' => e = .returned (.bool true) ∧ ∃ nq, w' = W2.drewN nq) := HA1
  have HA2 : Hid (∀ n, Calls Tryd.prog 6 #[.pointer (some ⟨p, 0, none⟩), .int .i64 69] (W2.drewN n) fun e w' => e = .returned (.bool false) ∧ ∃ nq, w' = (W2.drewN n).drewN nq) := HA2
  have HA3 : Hid (∀ n, Calls Tryd.prog 6 #[.pointer (some ⟨p, 0, none⟩), .int .i64 70] (W2.drewN n) fun e w' => e = .returned (.bool false) ∧ w' = W2.drewN n) := HA3
  have HH : Hid (∀ n, Calls Tryd.prog 7 #[.pointer (some ⟨p, 0, none⟩), .int .i64 69] (W2.drewN n) fun e w' => e = .returned (.bool true) ∧ ∃ nq, w' = (W2.drewN n).drewN nq) := HH
  clear HO hp
  go_enter Tryd.func4, Tryd.ntmps4
  go_wp2_with (first
    | (go_at_call 5; refine HN.out.mono ?_; rintro e w1 ⟨rfl, rfl⟩)
    | (go_at_call 6; with_reducible refine HA1.out.mono ?_; rintro e w1 ⟨rfl, n1, rfl⟩)
    | (go_at_call 6; with_reducible refine (HA2.out _).mono ?_; rintro e w1 ⟨rfl, n1, rfl⟩; rw [World.drewN_drewN])
    | (go_at_call 6; with_reducible refine (HA3.out _).mono ?_; rintro e w1 ⟨rfl, rfl⟩)
    | (go_at_call 7; with_reducible refine (HH.out _).mono ?_; rintro e w1 ⟨rfl, n1, rfl⟩; rw [World.drewN_drewN])
    | (go_at_call 9; with_reducible refine (HL.out _).mono ?_; rintro e w1 ⟨rfl, rfl⟩))
  go_ret
  exact ⟨rfl, below_drewN HB.out _⟩
end Go.Proofs.YtfdipemllbgdnaaDoor
