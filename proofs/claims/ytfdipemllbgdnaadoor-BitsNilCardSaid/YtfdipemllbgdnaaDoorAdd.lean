/-
  Package bits: Add.
-/
import Derived.Test.YtfdipemllbgdnaaDoorNew
namespace Go.Proofs.YtfdipemllbgdnaaDoor
set_option linter.unusedVariables false
set_option linter.unusedSimpArgs false
open Go.ChangeShapes Go.WideShapes Go.ChangeAt Go.RowKit

theorem and_zero (x : Nat) (h : x < 18446744073709551616) : bits BinOp.and IntKind.u64 0 (x : Int) = 0 := by
  have := u64_and_nat 0 x (by decide) h
  simpa using this
theorem or_zero (x : Nat) (h : x < 18446744073709551616) : bits BinOp.or IntKind.u64 0 (x : Int) = (x : Int) := by
  have := u64_or_nat 0 x (by decide) h
  simpa using this
theorem and_self (x : Nat) (h : x < 18446744073709551616) : bits BinOp.and IntKind.u64 (x : Int) (x : Int) = (x : Int) := by
  have := u64_and_nat x x h h
  simpa using this
theorem add_nil (i : Int) (w : World) : Calls Tryd.prog 6 #[.pointer none, .int .i64 i] w fun e w' => e = .returned (.bool false) ∧ w' = w := by
  go_enter Tryd.func6, Tryd.ntmps6
  go_wp2_with (go_at_call 15; refine (takes_nil _ _).mono ?_; rintro e w1 ⟨rfl, rfl⟩)
  go_ret
  exact ⟨rfl, rfl⟩
theorem add_no (p : Nat) (i n : Int) (w : World) (h0 : w.cell? ⟨p, 0, none⟩ = some (.int .i64 n)) (h1 : i < 0 ∨ n ≤ i) : Calls Tryd.prog 6 #[.pointer (some ⟨p, 0, none⟩), .int .i64 i] w fun e w' => e = .returned (.bool false) ∧ w' = w := by
  have H1 := Lib.hid h1
  clear h1
  go_enter Tryd.func6, Tryd.ntmps6
  go_wp2_with (go_at_call 15; refine (takes_no p i n _ h0 H1.out).mono ?_; rintro e w1 ⟨rfl, rfl⟩)
  go_ret
  exact ⟨rfl, rfl⟩
theorem del_nil (i : Int) (w : World) : Calls Tryd.prog 8 #[.pointer none, .int .i64 i] w fun e w' => e = .returned (.bool false) ∧ ∃ nq, w' = w.drewN nq := by
  go_enter Tryd.func8, Tryd.ntmps8
  go_wp2_with (go_at_call 7; refine (has_nil _ _).mono ?_; rintro e w1 ⟨rfl, nq, rfl⟩)
  go_ret
  exact ⟨rfl, nq, rfl⟩
/-- a number that was there -/
theorem add_there (p b m q j c k : Nat) (v : Int) (w : World) (h0 : w.cell? ⟨p, 0, none⟩ = some (.int .i64 m)) (h1 : w.cell? ⟨p, 1, none⟩ = some (.slice (some ⟨b, 0, none⟩) q q)) (h2 : w.cell? ⟨b, k, none⟩ = some (.int .u64 v))
    (hm : m ≤ 5000) (hj : j < m) (hc : c = j % 64) (hk : k = j / 64) (hkq : k < q) (hr : (bits BinOp.and IntKind.u64 v ((2 ^ c : Nat) : Int) != 0) = true) :
    Calls Tryd.prog 6 #[.pointer (some ⟨p, 0, none⟩), .int .i64 j] w fun e w' => e = .returned (.bool false) ∧ ∃ nq, w' = w.drewN nq := by
  have HT := Lib.hid (takes_yes p j m w h0 (Int.natCast_nonneg _) (by omega))
  have HH := Lib.hid (has_at p b m q j c k v true w h0 h1 h2 hm hj hc hk hkq hr)
  clear h0 h1 h2 hm hj hc hk hkq hr
  go_enter Tryd.func6, Tryd.ntmps6
  go_wp2_with (first
    | (go_at_call 15; refine HT.out.mono ?_; rintro e w1 ⟨rfl, rfl⟩)
    | (go_at_call 7; refine HH.out.mono ?_; rintro e w1 ⟨rfl, nq, rfl⟩))
  go_ret
  exact ⟨rfl, nq, rfl⟩
/-- a number into a word that was empty -/
theorem add_at (p b m q j c k : Nat) (w : World) (hp : Blk w p 35 #[.int .i64 m, .slice (some ⟨b, 0, none⟩) q q]) (hw : Blk w b 36 (madeCells #[.int .u64 0] q))
    (hm : m ≤ 5000) (hj : j < m) (hc : c = j % 64) (hk : k = j / 64) (hkq : k < q) :
    Calls Tryd.prog 6 #[.pointer (some ⟨p, 0, none⟩), .int .i64 j] w fun e w' => e = .returned (.bool true) ∧ ∃ nq, w' = (w.setCell ⟨b, k, none⟩ (.int .u64 ((2 ^ c : Nat) : Int))).drewN nq := by
  have h0 : w.cell? ⟨p, 0, none⟩ = some (.int .i64 m) := hp.cell 0
  have h1 : w.cell? ⟨p, 1, none⟩ = some (.slice (some ⟨b, 0, none⟩) q q) := hp.cell 1
  have h2 : w.cell? ⟨b, k, none⟩ = some (.int .u64 0) := by
    rw [hw.cell]
    simp [madeCells, hkq, Nat.mod_one]
  have f2 : w.frozen? ⟨b, k, none⟩ = false := hw.frozen k
  have hlt : (2 : Nat) ^ c < 18446744073709551616 := pow_lt64 (by omega)
  have HT := Lib.hid (takes_yes p j m w h0 (Int.natCast_nonneg _) (by omega))
  have HH := Lib.hid (has_at p b m q j c k 0 false w h0 h1 h2 hm hj hc hk hkq (by rw [and_zero _ hlt]; rfl))
  have gk : (j : Int) / 64 = (k : Int) := by omega
  have gw : IntKind.i64.wrap (k : Int) = (k : Int) := i64_wrap_small (by omega)
  have hb := Lib.hid (show ((j : Int).tmod 64 = (c : Int)) by rw [Int.tmod_eq_emod_of_nonneg (by omega)]; omega)
  obtain ⟨B, hB⟩ : ∃ B : Int, B = ((2 ^ c : Nat) : Int) := ⟨_, rfl⟩
  have HBIT := Lib.hid (fun W => bit_any j c hb.out (by omega) W)
  have hor := or_zero _ hlt
  rw [← hB] at HBIT hor ⊢
  clear hc hk hj hB hp hw hlt hm
  go_enter Tryd.func6, Tryd.ntmps6
  go_wp2_with (first
    | (go_at_call 15; refine HT.out.mono ?_; rintro e w1 ⟨rfl, rfl⟩)
    | (go_at_call 7; refine HH.out.mono ?_; rintro e w1 ⟨rfl, nq, rfl⟩))
  go_region_law (go_simp; go_at_call 16; refine (HBIT.out _).mono ?_; rintro e w1 ⟨rfl, rfl⟩)
  all_goals
    go_wp2
    go_ret
    exact ⟨rfl, nq + 1, rfl⟩
end Go.Proofs.YtfdipemllbgdnaaDoor
