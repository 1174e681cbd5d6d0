/-
  Package trace's words: eventOf, endOf.
-/
import Derived.Test.YtjmfbmnhkoeceaaDoorParse
namespace Go.Proofs.YtjmfbmnhkoeceaaDoor
set_option linter.unusedVariables false
open Go.ChangeShapes Go.WideShapes Go.ChangeAt Go.RowKit

/-- what is known of the result's cells behind a callee -/
theorem res_cells {w w2 : World} {t : TypeId} {k u : Int} (hb : Below (w.heap.size + 1) (w.alloc (.cells #[.int .i64 k, .int .u64 u] t)) w2) :
    w2.cell? ⟨w.heap.size, 0, none⟩ = some (.int .i64 k) ∧ w2.cell? ⟨w.heap.size, 1, none⟩ = some (.int .u64 u) ∧ w2.frozen? ⟨w.heap.size, 0, none⟩ = false ∧ w2.frozen? ⟨w.heap.size, 1, none⟩ = false := by
  have h : Blk w2 w.heap.size t #[.int .i64 k, .int .u64 u] := (Blk.new w t _).below hb (by omega)
  exact ⟨h.cell 0, h.cell 1, h.frozen 0, h.frozen 1⟩

set_option maxHeartbeats 2000000 in
theorem ev_any (wd : List UInt8) (x : Ev) (ok : Bool) (h : (evOf wd = some x ∧ ok = true) ∨ (evOf wd = none ∧ x = (0, 0) ∧ ok = false)) (hd : wd.length ≤ 1073741824) (w : World) (hE : Env w.heap.size w) :
    Calls Tryd.prog 33 #[.string (str wd)] w fun e w' => e = .returned (.tuple #[.agg #[.int .i64 x.1, .int .u64 x.2], .bool ok]) ∧ Below w.heap.size w w' := by
  have HE : Hid (Env (w.heap.size + 1) (w.alloc (.cells #[.int .i64 0, .int .u64 0] 31))) := (hE.on ((Below.refl _ _).alloc (Nat.le_refl _) _)).more (by omega)
  have hz : (w.alloc (.cells #[.int .i64 0, .int .u64 0] 31)).heap.size = w.heap.size + 1 := World.size_alloc _ _
  have HA : Hid (Below w.heap.size w (w.alloc (.cells #[.int .i64 0, .int .u64 0] 31))) := (Below.refl _ _).alloc (Nat.le_refl _) _
  clear hE
  cases h1 : numB outW wd with
  | some v =>
    obtain ⟨rfl, rfl⟩ : x = (1, (v : Int)) ∧ ok = true := by
      rcases h with ⟨h, ho⟩ | ⟨h, _⟩
      · unfold evOf at h; rw [h1] at h; injection h with h; exact ⟨h.symm, ho⟩
      · unfold evOf at h; rw [h1] at h; cases h
    have H1 := Lib.hid (num_yes outW wd v h1 hd)
    obtain ⟨X, HX⟩ : ∃ X, Hid (X = str wd) := ⟨_, rfl⟩
    rw [← HX.out] at H1 ⊢
    clear h h1
    go_enter Tryd.func33, Tryd.ntmps33
    go_wp2_with (go_at_call 41; refine (H1.out _ (by rw [hz]; exact HE.out)).mono ?_; rintro e w2 ⟨rfl, hb2⟩; refine Hid.out ?_)
    rw [hz] at hb2
    obtain ⟨c0, c1, f0, f1⟩ := res_cells hb2
    refine Lib.hid ?_
    go_wp2
    exact bodyPost_ret (v := .tuple #[.agg #[.int .i64 1, .int .u64 v], .bool true]) (by simp [results, Tryd.results33, go_sem, c0, c1]) rfl ⟨rfl, (HA.out.trans (hb2.mono (by omega))).setCell (p := ⟨w.heap.size, 0, none⟩) (Nat.le_refl _) _ |>.setCell (p := ⟨w.heap.size, 1, none⟩) (Nat.le_refl _) _⟩
  | none =>
    have H1 := Lib.hid (num_no outW wd h1 hd)
    cases h2 : numB inW wd with
    | some v =>
      obtain ⟨rfl, rfl⟩ : x = (2, (v : Int)) ∧ ok = true := by
        rcases h with ⟨h, ho⟩ | ⟨h, _⟩
        · unfold evOf at h; rw [h1, h2] at h; injection h with h; exact ⟨h.symm, ho⟩
        · unfold evOf at h; rw [h1, h2] at h; cases h
      have H2 := Lib.hid (num_yes inW wd v h2 hd)
      obtain ⟨X, HX⟩ : ∃ X, Hid (X = str wd) := ⟨_, rfl⟩
      rw [← HX.out] at H1 H2 ⊢
      clear h h1 h2
      go_enter Tryd.func33, Tryd.ntmps33
      go_wp2_with (go_at_call 41; refine (H1.out _ (by rw [hz]; exact HE.out)).mono ?_; rintro e w2 ⟨rfl, hb2⟩; refine Hid.out ?_)
      rw [hz] at hb2
      have HE2 := Lib.hid ((HE.out.on hb2).more (by have := hb2.size; omega : w.heap.size + 1 ≤ w2.heap.size))
      refine Lib.hid ?_
      go_wp2_with (go_at_call 41; refine (H2.out _ HE2.out).mono ?_; rintro e w3 ⟨rfl, hb3⟩; refine Hid.out ?_)
      have hb23 := hb2.trans (hb3.mono (by have := hb2.size; omega))
      obtain ⟨c0, c1, f0, f1⟩ := res_cells hb23
      refine Lib.hid ?_
      go_wp2
      exact bodyPost_ret (v := .tuple #[.agg #[.int .i64 2, .int .u64 v], .bool true]) (by simp [results, Tryd.results33, go_sem, c0, c1]) rfl ⟨rfl, (HA.out.trans (hb23.mono (by omega))).setCell (p := ⟨w.heap.size, 0, none⟩) (Nat.le_refl _) _ |>.setCell (p := ⟨w.heap.size, 1, none⟩) (Nat.le_refl _) _⟩
    | none =>
      obtain ⟨rfl, rfl⟩ : x = (0, 0) ∧ ok = false := by
        rcases h with ⟨h, ho⟩ | ⟨_, h, ho⟩
        · unfold evOf at h; rw [h1, h2] at h; cases h
        · exact ⟨h, ho⟩
      have H2 := Lib.hid (num_no inW wd h2 hd)
      obtain ⟨X, HX⟩ : ∃ X, Hid (X = str wd) := ⟨_, rfl⟩
      rw [← HX.out] at H1 H2 ⊢
      clear h h1 h2
      go_enter Tryd.func33, Tryd.ntmps33
      go_wp2_with (go_at_call 41; refine (H1.out _ (by rw [hz]; exact HE.out)).mono ?_; rintro e w2 ⟨rfl, hb2⟩; refine Hid.out ?_)
      rw [hz] at hb2
      have HE2 := Lib.hid ((HE.out.on hb2).more (by have := hb2.size; omega : w.heap.size + 1 ≤ w2.heap.size))
      refine Lib.hid ?_
      go_wp2_with (go_at_call 41; refine (H2.out _ HE2.out).mono ?_; rintro e w3 ⟨rfl, hb3⟩; refine Hid.out ?_)
      have hb23 := hb2.trans (hb3.mono (by have := hb2.size; omega))
      obtain ⟨c0, c1, f0, f1⟩ := res_cells hb23
      refine Lib.hid ?_
      go_wp2
      exact bodyPost_ret (v := .tuple #[.agg #[.int .i64 0, .int .u64 0], .bool false]) (by simp [results, Tryd.results33, go_sem, c0, c1]) rfl ⟨rfl, (HA.out.trans (hb23.mono (by omega))).setCell (p := ⟨w.heap.size, 0, none⟩) (Nat.le_refl _) _ |>.setCell (p := ⟨w.heap.size, 1, none⟩) (Nat.le_refl _) _⟩

theorem str_eqb (wd l : List UInt8) : ((str wd).toList == l) = decide (wd = l) := by
  have e : (str wd).toList = wd := by rw [ByteArray.toList_eq]; simp [str]
  rw [e, Bool.eq_iff_iff]
  simp

set_option maxHeartbeats 4000000 in
theorem end_any (wd : List UInt8) (x : Ev) (ok : Bool) (h : (endOf wd = some x ∧ ok = true) ∨ (endOf wd = none ∧ x = (0, 0) ∧ ok = false)) (hd : wd.length ≤ 1073741824) (w : World) (hE : Env w.heap.size w) :
    Calls Tryd.prog 34 #[.string (str wd)] w fun e w' => e = .returned (.tuple #[.agg #[.int .i64 x.1, .int .u64 x.2], .bool ok]) ∧ Below w.heap.size w w' := by
  have HE : Hid (Env (w.heap.size + 1) (w.alloc (.cells #[.int .i64 0, .int .u64 0] 38))) := (hE.on ((Below.refl _ _).alloc (Nat.le_refl _) _)).more (by omega)
  have hz : (w.alloc (.cells #[.int .i64 0, .int .u64 0] 38)).heap.size = w.heap.size + 1 := World.size_alloc _ _
  have HA : Hid (Below w.heap.size w (w.alloc (.cells #[.int .i64 0, .int .u64 0] 38))) := (Below.refl _ _).alloc (Nat.le_refl _) _
  clear hE
  obtain ⟨X, HX⟩ : ∃ X, Hid (X = str wd) := ⟨_, rfl⟩
  have e1 := str_eqb wd [102, 117, 101, 108]
  have e2 := str_eqb wd [115, 116, 97, 99, 107]
  have e3 := str_eqb wd [115, 116, 117, 99, 107]
  by_cases g1 : wd = fuelW
  · obtain ⟨rfl, rfl⟩ : x = (3, 0) ∧ ok = true := by
      rcases h with ⟨h, ho⟩ | ⟨h, _⟩
      · unfold endOf at h; rw [if_pos g1] at h; injection h with h; exact ⟨h.symm, ho⟩
      · unfold endOf at h; rw [if_pos g1] at h; cases h
    have b1 : decide (wd = [102, 117, 101, 108]) = true := by simpa [fuelW] using g1
    rw [b1] at e1
    rw [← HX.out] at e1 e2 e3 ⊢
    clear h g1 e2 e3
    go_enter Tryd.func34, Tryd.ntmps34
    go_wp2
    exact bodyPost_ret (v := .tuple #[.agg #[.int .i64 3, .int .u64 0], .bool true]) (by simp [results, Tryd.results34, go_sem]) rfl ⟨rfl, (Below.refl _ _).alloc (Nat.le_refl _) _⟩
  · have b1 : decide (wd = [102, 117, 101, 108]) = false := by simpa [fuelW] using g1
    rw [b1] at e1
    by_cases g2 : wd = stackW
    · obtain ⟨rfl, rfl⟩ : x = (4, 0) ∧ ok = true := by
        rcases h with ⟨h, ho⟩ | ⟨h, _⟩
        · unfold endOf at h; rw [if_neg g1, if_pos g2] at h; injection h with h; exact ⟨h.symm, ho⟩
        · unfold endOf at h; rw [if_neg g1, if_pos g2] at h; cases h
      have b2 : decide (wd = [115, 116, 97, 99, 107]) = true := by simpa [stackW] using g2
      rw [b2] at e2
      rw [← HX.out] at e1 e2 e3 ⊢
      clear h g1 g2 e3
      go_enter Tryd.func34, Tryd.ntmps34
      go_wp2
      exact bodyPost_ret (v := .tuple #[.agg #[.int .i64 4, .int .u64 0], .bool true]) (by simp [results, Tryd.results34, go_sem]) rfl ⟨rfl, (Below.refl _ _).alloc (Nat.le_refl _) _⟩
    · have b2 : decide (wd = [115, 116, 97, 99, 107]) = false := by simpa [stackW] using g2
      rw [b2] at e2
      by_cases g3 : wd = stuckW
      · obtain ⟨rfl, rfl⟩ : x = (5, 0) ∧ ok = true := by
          rcases h with ⟨h, ho⟩ | ⟨h, _⟩
          · unfold endOf at h; rw [if_neg g1, if_neg g2, if_pos g3] at h; injection h with h; exact ⟨h.symm, ho⟩
          · unfold endOf at h; rw [if_neg g1, if_neg g2, if_pos g3] at h; cases h
        have b3 : decide (wd = [115, 116, 117, 99, 107]) = true := by simpa [stuckW] using g3
        rw [b3] at e3
        rw [← HX.out] at e1 e2 e3 ⊢
        clear h g1 g2 g3
        go_enter Tryd.func34, Tryd.ntmps34
        go_wp2
        exact bodyPost_ret (v := .tuple #[.agg #[.int .i64 5, .int .u64 0], .bool true]) (by simp [results, Tryd.results34, go_sem]) rfl ⟨rfl, (Below.refl _ _).alloc (Nat.le_refl _) _⟩
      · have b3 : decide (wd = [115, 116, 117, 99, 107]) = false := by simpa [stuckW] using g3
        rw [b3] at e3
        cases h1 : numB exitW wd with
        | some v =>
          obtain ⟨rfl, rfl⟩ : x = (1, (v : Int)) ∧ ok = true := by
            rcases h with ⟨h, ho⟩ | ⟨h, _⟩
            · unfold endOf at h; rw [if_neg g1, if_neg g2, if_neg g3, h1] at h; injection h with h; exact ⟨h.symm, ho⟩
            · unfold endOf at h; rw [if_neg g1, if_neg g2, if_neg g3, h1] at h; cases h
          have H1 := Lib.hid (num_yes exitW wd v h1 hd)
          rw [← HX.out] at e1 e2 e3 H1 ⊢
          clear h g1 g2 g3 h1
          go_enter Tryd.func34, Tryd.ntmps34
          go_wp2_with (go_at_call 41; refine (H1.out _ (by rw [hz]; exact HE.out)).mono ?_; rintro e w2 ⟨rfl, hb2⟩; refine Hid.out ?_)
          rw [hz] at hb2
          obtain ⟨c0, c1, f0, f1⟩ := res_cells hb2
          refine Lib.hid ?_
          go_wp2
          exact bodyPost_ret (v := .tuple #[.agg #[.int .i64 1, .int .u64 v], .bool true]) (by simp [results, Tryd.results34, go_sem, c0, c1]) rfl ⟨rfl, (HA.out.trans (hb2.mono (by omega))).setCell (p := ⟨w.heap.size, 0, none⟩) (Nat.le_refl _) _ |>.setCell (p := ⟨w.heap.size, 1, none⟩) (Nat.le_refl _) _⟩
        | none =>
          have H1 := Lib.hid (num_no exitW wd h1 hd)
          cases h2 : numB panicW wd with
          | some v =>
            obtain ⟨rfl, rfl⟩ : x = (2, (v : Int)) ∧ ok = true := by
              rcases h with ⟨h, ho⟩ | ⟨h, _⟩
              · unfold endOf at h; rw [if_neg g1, if_neg g2, if_neg g3, h1, h2] at h; injection h with h; exact ⟨h.symm, ho⟩
              · unfold endOf at h; rw [if_neg g1, if_neg g2, if_neg g3, h1, h2] at h; cases h
            have H2 := Lib.hid (num_yes panicW wd v h2 hd)
            rw [← HX.out] at e1 e2 e3 H1 H2 ⊢
            clear h g1 g2 g3 h1 h2
            go_enter Tryd.func34, Tryd.ntmps34
            go_wp2_with (go_at_call 41; refine (H1.out _ (by rw [hz]; exact HE.out)).mono ?_; rintro e w2 ⟨rfl, hb2⟩; refine Hid.out ?_)
            rw [hz] at hb2
            have HE2 := Lib.hid ((HE.out.on hb2).more (by have := hb2.size; omega : w.heap.size + 1 ≤ w2.heap.size))
            refine Lib.hid ?_
            go_wp2_with (go_at_call 41; refine (H2.out _ HE2.out).mono ?_; rintro e w3 ⟨rfl, hb3⟩; refine Hid.out ?_)
            have hb23 := hb2.trans (hb3.mono (by have := hb2.size; omega))
            obtain ⟨c0, c1, f0, f1⟩ := res_cells hb23
            refine Lib.hid ?_
            go_wp2
            exact bodyPost_ret (v := .tuple #[.agg #[.int .i64 2, .int .u64 v], .bool true]) (by simp [results, Tryd.results34, go_sem, c0, c1]) rfl ⟨rfl, (HA.out.trans (hb23.mono (by omega))).setCell (p := ⟨w.heap.size, 0, none⟩) (Nat.le_refl _) _ |>.setCell (p := ⟨w.heap.size, 1, none⟩) (Nat.le_refl _) _⟩
          | none =>
            obtain ⟨rfl, rfl⟩ : x = (0, 0) ∧ ok = false := by
              rcases h with ⟨h, ho⟩ | ⟨_, h, ho⟩
              · unfold endOf at h; rw [if_neg g1, if_neg g2, if_neg g3, h1, h2] at h; cases h
              · exact ⟨h, ho⟩
            have H2 := Lib.hid (num_no panicW wd h2 hd)
            rw [← HX.out] at e1 e2 e3 H1 H2 ⊢
            clear h g1 g2 g3 h1 h2
            go_enter Tryd.func34, Tryd.ntmps34
            go_wp2_with (go_at_call 41; refine (H1.out _ (by rw [hz]; exact HE.out)).mono ?_; rintro e w2 ⟨rfl, hb2⟩; refine Hid.out ?_)
            rw [hz] at hb2
            have HE2 := Lib.hid ((HE.out.on hb2).more (by have := hb2.size; omega : w.heap.size + 1 ≤ w2.heap.size))
            refine Lib.hid ?_
            go_wp2_with (go_at_call 41; refine (H2.out _ HE2.out).mono ?_; rintro e w3 ⟨rfl, hb3⟩; refine Hid.out ?_)
            have hb23 := hb2.trans (hb3.mono (by have := hb2.size; omega))
            obtain ⟨c0, c1, f0, f1⟩ := res_cells hb23
            refine Lib.hid ?_
            go_wp2
            exact bodyPost_ret (v := .tuple #[.agg #[.int .i64 0, .int .u64 0], .bool false]) (by simp [results, Tryd.results34, go_sem, c0, c1]) rfl ⟨rfl, (HA.out.trans (hb23.mono (by omega))).setCell (p := ⟨w.heap.size, 0, none⟩) (Nat.le_refl _) _ |>.setCell (p := ⟨w.heap.size, 1, none⟩) (Nat.le_refl _) _⟩
end Go.Proofs.YtjmfbmnhkoeceaaDoor
