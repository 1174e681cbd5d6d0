/-
  The walk through CodeBounds.
-/
import Derived.Test.YtklfppeecgkpnaaSameB
import Derived.Test.YtklfppeecgkpnaaFirst
import Derived.Test.YtklfppeecgkpnaaBndA
import Derived.Deep.DeepCutAuto
import Derived.Deep.RegionHeld3
import Derived.Deep.CutBlock
namespace Go.Proofs.Ytklfppeecgkpnaa
set_option linter.unusedVariables false
open Go.ChangeShapes Go.WideShapes Go.ChangeAt Go.RowKit

theorem own_form' {w : World} {base n c : Nat} {A : Option Addr} {xs : List Value} (h : w.ownsRow base 5 1 (.slice A n c) n xs) : n ≤ c ∧ c ≤ maxLen ∧ (A = none → c = 0) := by
  rcases h.2 with ⟨e, h0⟩ | ⟨g, cap, cur, e, _, _, hnc, hcm, _⟩
  · injection e with e1 e2 e3
    exact ⟨by omega, by unfold maxLen; omega, fun _ => e3⟩
  · injection e with e1 e2 e3
    subst e1
    exact ⟨by omega, by omega, fun h => by cases h⟩

set_option maxRecDepth 100000 in
set_option maxHeartbeats 32000000 in
theorem bounds_walk (u x : Int) (w : World) :
    Calls Try.prog 6 #[.int .i64 u, .int .i64 x] w fun e w' => e = .returned (.bool true) ∧ Below w.heap.size w w' := by
  obtain ⟨y, hy, hy0⟩ : ∃ y : Int, IntKind.u64.wrap x = y ∧ 0 ≤ y := ⟨_, rfl, by rw [IntKind.wrap_u64]; omega⟩
  obtain ⟨k, hk, hk3⟩ : ∃ k : Nat, y % 300 = (k : Int) ∧ k < 300 := ⟨(y % 300).toNat, by omega, by omega⟩
  obtain ⟨z, hz, hz0⟩ : ∃ z : Int, IntKind.u64.wrap u = z ∧ 0 ≤ z := ⟨_, rfl, by rw [IntKind.wrap_u64]; omega⟩
  go_enter Try.func6, Try.ntmps6
  go_wp2_with (go_at_call 9; refine (first_any _).mono ?_; rintro e w1 ⟨rfl, hb1⟩; refine Hid.out ?_)
  have HB1 := Lib.hid hb1
  have hz1 := hb1.size
  clear hb1
  refine Lib.hid ?_
  go_upto_block 0 with fail
  obtain ⟨W4, HW4⟩ : ∃ W, Hid (W = ((((w1.alloc (.cells #[.int .u8 24, .int .i64 0, .int .u64 0] 48)).alloc (.cells #[.int .i64 0, .slice none 0 0, .bool false, .int .i64 (-1), .slice (some ⟨w1.heap.size, 0, none⟩) 1 1] 43)).alloc (.cells #[.int .i64 0, .slice none 0 0, .bool false, .int .i64 (-1), .slice (some ⟨w1.heap.size, 0, none⟩) 1 1] 43)).alloc (.cells #[.slice (some ⟨w1.heap.size + 1 + 1, 0, none⟩) 1 1] 26))) := ⟨_, rfl⟩
  rw [← HW4.out]
  clear hk hy hz hy0
  go_cut [5, 6, 7, 8, 27] (fun s5 s6 s7 s8 s27 wx => ∃ (k most p7 m c : Nat) (A : Option Addr) (rs : List Raw), s5 = .int .i64 k ∧ s7 = .pointer (some ⟨p7, 0, none⟩) ∧ s8 = .int .i64 most ∧ k ≤ 1000 ∧ most ≤ 1000 ∧ Hid (BndR w k most p7 m c A rs wx))
  case first =>
    obtain ⟨bi, hbi⟩ : ∃ b, b = w1.heap.size := ⟨_, rfl⟩
    rw [← hbi] at HW4 hz1 ⊢
    have HBI : Hid (Blk W4 bi 48 #[.int .u8 24, .int .i64 0, .int .u64 0]) := Lib.hid (by rw [HW4.out]; exact (((blk_at hbi.symm _ _).alloc _).alloc _).alloc _)
    have HBF : Hid (Blk W4 (bi + 1) 43 #[.int .i64 0, .slice none 0 0, .bool false, .int .i64 (-1), .slice (some ⟨bi, 0, none⟩) 1 1]) := Lib.hid (by rw [HW4.out]; exact ((blk_at (by simp [hbi]) _ _).alloc _).alloc _)
    have HBS : Hid (Blk W4 (bi + 1 + 1) 43 #[.int .i64 0, .slice none 0 0, .bool false, .int .i64 (-1), .slice (some ⟨bi, 0, none⟩) 1 1]) := Lib.hid (by rw [HW4.out]; exact (blk_at (by simp [hbi]) _ _).alloc _)
    have HBP : Hid (Blk W4 (bi + 1 + 1 + 1) 26 #[.slice (some ⟨bi + 1 + 1, 0, none⟩) 1 1]) := Lib.hid (by rw [HW4.out]; exact blk_at (by simp [hbi]) _ _)
    have HBW : Hid (Below w.heap.size w W4) := Lib.hid (by rw [HW4.out]; exact (((HB1.out.alloc (by omega) _).alloc (by simp; omega) _).alloc (by simp; omega) _).alloc (by simp; omega) _)
    have hs4 : W4.heap.size = bi + 1 + 1 + 1 + 1 := by rw [HW4.out]; simp [hbi]
    clear HW4
    obtain ⟨p7, hp7⟩ : ∃ p, p = bi + 1 + 1 + 1 := ⟨_, rfl⟩
    rw [← hp7] at HBP ⊢
    obtain ⟨bs, hbs⟩ : ∃ p, p = bi + 1 + 1 := ⟨_, rfl⟩
    rw [← hbs] at HBP HBS hp7 ⊢
    obtain ⟨bf, hbf⟩ : ∃ p, p = bi + 1 := ⟨_, rfl⟩
    rw [← hbf] at HBF hbs ⊢
    have HP7 := Lib.hid hp7
    have HBs := Lib.hid hbs
    have HBf := Lib.hid hbf
    have HS4 := Lib.hid hs4
    clear hp7 hbs hbf hs4 hbi
    obtain hz4 | hz4 | hz4 | hz4 : z % 4 = 0 ∨ z % 4 = 1 ∨ z % 4 = 2 ∨ z % 4 = 3 := by omega
    · obtain ⟨k4, hk4, hk5⟩ : ∃ k4 : Nat, (k : Int) % 40 = k4 ∧ k4 < 40 := ⟨((k : Int) % 40).toNat, by omega, by omega⟩
      go_wp2
      clear hz4 hk4
      go_loopg [] k4 (fun k' wr => ∃ (n c : Nat) (A : Option Addr), k' + n = k4 + 1 ∧ 1 ≤ n ∧ Hid (LkI w bi bf bs p7 n A c wr))
      case atStart => exact ⟨1, 1, _, by omega, by omega, ⟨HBI.out, HBF.out, own_blk (r := ⟨mkF 0 0 1, none, 0, some ⟨bi, 0, none⟩, 1⟩) HBS.out, HBP.out, HBW.out⟩⟩
      case round =>
        obtain ⟨n, c, A, hkn, h1n, HI⟩ := hrel
        have c0 : wr.cell? ⟨p7, 0, none⟩ = some (.slice A n c) := HI.out.blk.cell 0
        have d0 : wr.cell? ⟨bf, 0, none⟩ = some (.int .i64 0) := HI.out.fn.cell 0
        have d1 : wr.cell? ⟨bf, 1, none⟩ = some (.slice none 0 0) := HI.out.fn.cell 1
        have d2 : wr.cell? ⟨bf, 2, none⟩ = some (.bool false) := HI.out.fn.cell 2
        have d3 : wr.cell? ⟨bf, 3, none⟩ = some (.int .i64 (-1)) := HI.out.fn.cell 3
        have d4 : wr.cell? ⟨bf, 4, none⟩ = some (.slice (some ⟨bi, 0, none⟩) 1 1) := HI.out.fn.cell 4
        by_cases hlt : n < k4 + 1
        · have HRd : Hid (Reads (wr.alloc (.cells #[.int .i64 0, .slice none 0 0, .bool false, .int .i64 (-1), .slice (some ⟨bi, 0, none⟩) 1 1] 43)) (wr.heap.size + 1) 5 (some ⟨wr.heap.size, 0, none⟩) 1 (rawOne ⟨mkF 0 0 1, none, 0, some ⟨bi, 0, none⟩, 1⟩)) := one_reads wr _ (rawOne ⟨mkF 0 0 1, none, 0, some ⟨bi, 0, none⟩, 1⟩) 5 rfl
          have HOa := Lib.hid (HI.out.own.alloc (.cells #[.int .i64 0, .slice none 0 0, .bool false, .int .i64 (-1), .slice (some ⟨bi, 0, none⟩) 1 1] 43))
          have hlt3 : bs ≤ wr.heap.size := by have := HI.out.blk.lt; have := HP7.out; omega
          go_wp2_with (at_builtin; refine app_fn rfl _ _ rfl bs (.slice A n c) n (rawc (List.replicate n ⟨mkF 0 0 1, none, 0, some ⟨bi, 0, none⟩, 1⟩)) rfl HOa.out (wr.heap.size + 1) (some ⟨wr.heap.size, 0, none⟩) 1 1 (rawOne ⟨mkF 0 0 1, none, 0, some ⟨bi, 0, none⟩, 1⟩) rfl HRd.out (rawOne_one _) (by omega) (by simp; omega) ?_; intro v' w2 hown hgr hor; refine Hid.out ?_)
          obtain ⟨A2, c2, rfl, e0, ef, hI2⟩ := HI.out.step hz1 HBf.out HBs.out HP7.out _ hown hgr
          clear hown hgr hor d0 d1 d2 d3 d4 c0
          refine Lib.hid ?_
          go_wp2
          go_roundg (k4 + 1 - (n + 1))
          case measure => omega
          case rel => exact ⟨n + 1, c2, A2, by omega, by omega, hI2⟩
        · obtain rfl : n = k4 + 1 := by omega
          have HD := Lib.hid (HI.out.done h1n (by omega))
          go_wp2
          go_meet
          case rel => exact ⟨k4 + 1, 16, p7, k4 + 1, c, A, _, by congr 1; omega, rfl, rfl, by omega, by omega, HD⟩
    · obtain ⟨k4, hk4, hk5⟩ : ∃ k4 : Nat, (k : Int) % 10 = k4 ∧ k4 < 10 := ⟨((k : Int) % 10).toNat, by omega, by omega⟩
      have hmk : ∀ W : World, (Instr.makeSlice 40 (.int .i64 10) (.int .i64 10)).run Try.prog W = .ok (.slice (some ⟨W.heap.size, 0, none⟩) 10 10) (W.alloc (.cells (madeCells #[.int .u8 0] 10) 44)) := fun W => run_make_row' _ _ _ 1 Try.underlying40 Try.info44 rfl .i64 .i64 10 (by omega) (by omega) W
      have hlp : p7 < W4.heap.size := HBP.out.lt
      have hls : bs < W4.heap.size := HBS.out.lt
      have hne : p7 ≠ bs := by have := HP7.out; omega
      have c0 : W4.cell? ⟨p7, 0, none⟩ = some (.slice (some ⟨bs, 0, none⟩) 1 1) := HBP.out.cell 0
      have d0 : W4.cell? ⟨bs, 0, none⟩ = some (.int .i64 0) := HBS.out.cell 0
      have e0 : W4.frozen? ⟨bs, 0, none⟩ = false := HBS.out.frozen 0
      have d1 : W4.cell? ⟨bs, 1, none⟩ = some (.slice none 0 0) := HBS.out.cell 1
      have e1 : W4.frozen? ⟨bs, 1, none⟩ = false := HBS.out.frozen 1
      have c0a : ∀ o, (W4.alloc o).cell? ⟨p7, 0, none⟩ = some (.slice (some ⟨bs, 0, none⟩) 1 1) := fun o => (HBP.out.alloc o).cell 0
      have d0a : ∀ o, (W4.alloc o).cell? ⟨bs, 0, none⟩ = some (.int .i64 0) := fun o => (HBS.out.alloc o).cell 0
      have e0a : ∀ o, (W4.alloc o).frozen? ⟨bs, 0, none⟩ = false := fun o => (HBS.out.alloc o).frozen 0
      have d1a : ∀ o, (W4.alloc o).cell? ⟨bs, 1, none⟩ = some (.slice none 0 0) := fun o => (HBS.out.alloc o).cell 1
      have e1a : ∀ o, (W4.alloc o).frozen? ⟨bs, 1, none⟩ = false := fun o => (HBS.out.alloc o).frozen 1
      have c0b : ∀ o, (W4.drew.alloc o).cell? ⟨p7, 0, none⟩ = some (.slice (some ⟨bs, 0, none⟩) 1 1) := fun o => (HBP.out.drew.alloc o).cell 0
      have d0b : ∀ o, (W4.drew.alloc o).cell? ⟨bs, 0, none⟩ = some (.int .i64 0) := fun o => (HBS.out.drew.alloc o).cell 0
      have e0b : ∀ o, (W4.drew.alloc o).frozen? ⟨bs, 0, none⟩ = false := fun o => (HBS.out.drew.alloc o).frozen 0
      have d1b : ∀ o, (W4.drew.alloc o).cell? ⟨bs, 1, none⟩ = some (.slice none 0 0) := fun o => (HBS.out.drew.alloc o).cell 1
      have e1b : ∀ o, (W4.drew.alloc o).frozen? ⟨bs, 1, none⟩ = false := fun o => (HBS.out.drew.alloc o).frozen 1
      go_wp2
      go_region
      all_goals
        go_wp2
        go_meet
        case rel =>
          have h3 := HP7.out
          have h2 := HBs.out
          have h1 := HBf.out
          have hd : (decide ((k4 : Int) ≤ 4) && decide ((10 : Nat) ≤ 16)) = decide (k4 ≤ 4) := by
            have : ((k4 : Int) ≤ 4) ↔ k4 ≤ 4 := by omega
            simp [this]
          have HD := make_two (w := w) (W := W4) (bi := bi) (bs := bs) (p7 := p7) (l := 10) (p := k4) (by omega) (by omega) (by omega) HBI.out HBS.out HBP.out HBW.out (by omega) (by omega) (by omega) hd
          exact ⟨k4, 4, p7, 1, 1, _, _, by rw [hk4], rfl, rfl, by omega, by omega, Lib.hid HD.drew⟩
    · obtain ⟨k4, hk4, hk5⟩ : ∃ k4 : Nat, (k : Int) % 40 = k4 ∧ k4 < 40 := ⟨((k : Int) % 40).toNat, by omega, by omega⟩
      have hmk : ∀ W : World, (Instr.makeSlice 40 (.int .i64 k4) (.int .i64 k4)).run Try.prog W = .ok (.slice (some ⟨W.heap.size, 0, none⟩) k4 k4) (W.alloc (.cells (madeCells #[.int .u8 0] k4) 44)) := fun W => run_make_row' _ _ _ 1 Try.underlying40 Try.info44 rfl .i64 .i64 k4 (by omega) (by omega) W
      have hlp : p7 < W4.heap.size := HBP.out.lt
      have hls : bs < W4.heap.size := HBS.out.lt
      have hne : p7 ≠ bs := by have := HP7.out; omega
      have c0 : W4.cell? ⟨p7, 0, none⟩ = some (.slice (some ⟨bs, 0, none⟩) 1 1) := HBP.out.cell 0
      have d0 : W4.cell? ⟨bs, 0, none⟩ = some (.int .i64 0) := HBS.out.cell 0
      have e0 : W4.frozen? ⟨bs, 0, none⟩ = false := HBS.out.frozen 0
      have d1 : W4.cell? ⟨bs, 1, none⟩ = some (.slice none 0 0) := HBS.out.cell 1
      have e1 : W4.frozen? ⟨bs, 1, none⟩ = false := HBS.out.frozen 1
      have c0a : ∀ o, (W4.alloc o).cell? ⟨p7, 0, none⟩ = some (.slice (some ⟨bs, 0, none⟩) 1 1) := fun o => (HBP.out.alloc o).cell 0
      have d0a : ∀ o, (W4.alloc o).cell? ⟨bs, 0, none⟩ = some (.int .i64 0) := fun o => (HBS.out.alloc o).cell 0
      have e0a : ∀ o, (W4.alloc o).frozen? ⟨bs, 0, none⟩ = false := fun o => (HBS.out.alloc o).frozen 0
      have d1a : ∀ o, (W4.alloc o).cell? ⟨bs, 1, none⟩ = some (.slice none 0 0) := fun o => (HBS.out.alloc o).cell 1
      have e1a : ∀ o, (W4.alloc o).frozen? ⟨bs, 1, none⟩ = false := fun o => (HBS.out.alloc o).frozen 1
      have c0b : ∀ o, (W4.drew.alloc o).cell? ⟨p7, 0, none⟩ = some (.slice (some ⟨bs, 0, none⟩) 1 1) := fun o => (HBP.out.drew.alloc o).cell 0
      have d0b : ∀ o, (W4.drew.alloc o).cell? ⟨bs, 0, none⟩ = some (.int .i64 0) := fun o => (HBS.out.drew.alloc o).cell 0
      have e0b : ∀ o, (W4.drew.alloc o).frozen? ⟨bs, 0, none⟩ = false := fun o => (HBS.out.drew.alloc o).frozen 0
      have d1b : ∀ o, (W4.drew.alloc o).cell? ⟨bs, 1, none⟩ = some (.slice none 0 0) := fun o => (HBS.out.drew.alloc o).cell 1
      have e1b : ∀ o, (W4.drew.alloc o).frozen? ⟨bs, 1, none⟩ = false := fun o => (HBS.out.drew.alloc o).frozen 1
      go_wp2
      go_region
      all_goals
        go_wp2
        go_meet
        case rel =>
          have h3 := HP7.out
          have h2 := HBs.out
          have h1 := HBf.out
          have hd : (decide ((0 : Int) ≤ 4) && decide (k4 ≤ 16)) = decide (k4 ≤ 16) := by simp
          have HD := make_one (w := w) (W := W4) (bi := bi) (bs := bs) (p7 := p7) (l := k4) (by omega) HBI.out HBS.out HBP.out HBW.out (by omega) (by omega) (by omega) hd
          exact ⟨k4, 16, p7, 1, 1, _, _, by rw [hk4], rfl, rfl, by omega, by omega, Lib.hid HD.drew⟩
    · have c0 : W4.cell? ⟨p7, 0, none⟩ = some (.slice (some ⟨bs, 0, none⟩) 1 1) := HBP.out.cell 0
      have d4 : W4.cell? ⟨bs, 4, none⟩ = some (.slice (some ⟨bi, 0, none⟩) 1 1) := HBS.out.cell 4
      have e4 : W4.frozen? ⟨bs, 4, none⟩ = false := HBS.out.frozen 4
      have HI0 : Hid (CdI w bs p7 W4.heap.size 0 none 0 (W4.setCell ⟨bs, 4, none⟩ (.slice none 0 0))) := ⟨HBS.out.set_ 4 _, HBP.out.far (p := ⟨bs, 4, none⟩) (by show p7 ≠ bs; have := HP7.out; omega) _, own_none _ _ _ _, HBW.out.setCell (p := ⟨bs, 4, none⟩) (by show w.heap.size ≤ bs; have := HBs.out; have := HBf.out; omega) _⟩
      go_wp2
      clear hz4
      go_loopg [] k (fun k' wr => ∃ (n c : Nat) (A : Option Addr), k' + n = k ∧ W4.heap.size ≤ wr.heap.size ∧ Hid (CdI w bs p7 W4.heap.size n A c wr))
      case atStart => exact ⟨0, 0, none, by omega, by simp [World.setCell], HI0⟩
      case round =>
        obtain ⟨n, c, A, hkn, hws, HI⟩ := hrel
        clear c0 d4 e4 HI0
        have c0 : wr.cell? ⟨p7, 0, none⟩ = some (.slice (some ⟨bs, 0, none⟩) 1 1) := HI.out.blk.cell 0
        have d4 : wr.cell? ⟨bs, 4, none⟩ = some (.slice A n c) := HI.out.fn.cell 4
        have c0a : ∀ o : Obj, (wr.alloc o).cell? ⟨p7, 0, none⟩ = some (.slice (some ⟨bs, 0, none⟩) 1 1) := fun o => (HI.out.blk.alloc o).cell 0
        have d4a : ∀ o : Obj, (wr.alloc o).cell? ⟨bs, 4, none⟩ = some (.slice A n c) := fun o => (HI.out.fn.alloc o).cell 4
        by_cases hlt : n < k
        · have hwb : w.heap.size ≤ bs := by have := HBs.out; have := HBf.out; omega
          have hwb4 : w.heap.size ≤ W4.heap.size := by have := HS4.out; omega
          go_wp2
          go_region_law (refine step_ins rfl _ _ rfl W4.heap.size (.slice A n c) n (insc (List.replicate n ⟨24, 0, 0⟩)) rfl (HI.out.own.alloc _) (wr.heap.size + 1) (some ⟨wr.heap.size, 0, none⟩) 1 1 (insOne ⟨24, 0, 0⟩) rfl (one_reads _ 48 (insOne ⟨24, 0, 0⟩) 3 rfl) (insOne_one _) (by omega) (by simp; omega) ?_
                         intro v' w2 hown hgr hor
                         obtain ⟨A2, c2, rfl, e0, e1, e2, hI2⟩ := HI.out.step hwb HP7.out hwb4 _ hown (grown_of_drew hgr)
                         have hw2 : W4.heap.size ≤ w2.heap.size := Nat.le_trans hws (Nat.le_trans (by simp) (grown_of_drew hgr).size)
                         clear hown hgr hor)
          all_goals
            go_wp2
            go_roundg (k - (n + 1))
            case measure => omega
            case rel => exact ⟨n + 1, c2, A2, by omega, by simpa [World.setCell] using hw2, hI2⟩
        · obtain rfl : n = k := by omega
          have HD := Lib.hid (HI.out.done (by omega))
          go_wp2
          go_meet
          case rel => exact ⟨n, 256, p7, 1, 1, _, _, rfl, rfl, rfl, by omega, by omega, HD⟩
  case rest =>
    obtain ⟨k, most, p7, m, c, A, rs, rfl, rfl, rfl, hk, hmo, HR⟩ := hcut
    have HX := Lib.hid HR.out.1
    have HP := Lib.hid HR.out.2.1
    have HOK := Lib.hid HR.out.2.2.1
    have HBN := Lib.hid HR.out.2.2.2.1
    have HW := Lib.hid HR.out.2.2.2.2
    clear HR
    have hzc := HW.out.size
    have x0 : wc.cell? ⟨p7, 0, none⟩ = some (.slice A m c) := HX.out.cell 0
    go_wp2_with (go_at_call 13; refine (encode_any wc.heap.size A m c rs _ HP.out (Nat.le_refl _)).mono ?_; rintro e w5 ⟨A5, k5, c5, rfl, hk5, ho5, hb5⟩; refine Hid.out ?_)
    have hq : encA (fns rs) = (enc (fns rs), 0) := by unfold encA; rw [HOK.out]; rfl
    rw [hq] at hk5 ho5
    rw [hq]
    simp only at hk5 ho5
    obtain ⟨L, HL⟩ : ∃ L, Hid (L = enc (fns rs)) := ⟨_, rfl⟩
    rw [← HL.out] at hk5 ho5
    obtain ⟨f1, f2, f3⟩ := own_form' ho5
    have F3 := Lib.hid f3
    have HR5 := Lib.hid (Reads.of_own ho5)
    have HK5 := Lib.hid hk5
    have HX5 := Lib.hid (HX.out.below hb5 HX.out.lt)
    have HP5 := Lib.hid (HP.out.below hb5)
    have HB5 := Lib.hid (HW.out.trans (hb5.mono hzc))
    have hz5 : wc.heap.size ≤ w5.heap.size := hb5.size
    have HLB : Hid (Byt L) := Lib.hid (by rw [HL.out]; exact byt_enc HOK.out)
    obtain ⟨bq, HBQ⟩ : ∃ b, Hid (b = bnd (fns rs)) := ⟨_, rfl⟩
    have HDA : Hid (decA L = if bq then (fns rs, 0) else ([], 31)) := Lib.hid (by rw [HL.out, decA_some (parse_enc HOK.out), HBQ.out])
    have HBK : Hid (bq = decide (k ≤ most)) := Lib.hid (by rw [HBQ.out, HBN.out])
    clear hq hk5 ho5 hb5 f3 x0
    refine Lib.hid ?_
    go_wp2_with (go_at_call 10; refine (decode_any w5.heap.size A5 k5 c5 L _ HR5.out HK5.out HLB.out (Nat.le_refl _) f1 f2 F3.out).mono ?_; rintro e w6 ⟨rs6, k6, A6, c6, hfn6, rfl, hrp6, hb6⟩; refine Hid.out ?_)
    have hz6 : w5.heap.size ≤ w6.heap.size := hb6.size
    have HX6 := Lib.hid ((HX5.out.below hb6 HX5.out.lt).alloc (.cells #[.slice A6 k6 c6] 26))
    have HV6 := Lib.hid (Blk.new w6 26 #[.slice A6 k6 c6])
    have HP6 := Lib.hid (((HP5.out.below (hb6.mono hz5)).alloc (by omega) (.cells #[.slice A6 k6 c6] 26)).more (show wc.heap.size ≤ w6.heap.size + 1 by omega))
    have HQ6 := Lib.hid ((hrp6.alloc (Nat.le_refl _) (.cells #[.slice A6 k6 c6] 26)).more (show w6.heap.size ≤ w6.heap.size + 1 by omega))
    have HB6 : Hid (Below w.heap.size w (w6.alloc (.cells #[.slice A6 k6 c6] 26))) := (HB5.out.trans (hb6.mono (by omega))).alloc (by omega) _
    have hs6 : (w6.alloc (.cells #[.slice A6 k6 c6] 26)).heap.size = w6.heap.size + 1 := by simp
    have d0 : (w6.alloc (.cells #[.slice A6 k6 c6] 26)).cell? ⟨p7, 0, none⟩ = some (.slice A m c) := HX6.out.cell 0
    have HFN6 := Lib.hid hfn6
    have HLN6 := Lib.hid hrp6.len
    clear hfn6 hrp6 hb6
    cases bq with
    | false =>
      have hd : decA L = ([], 31) := by rw [HDA.out]; rfl
      have HBF : Hid (bnd (fns rs) = false) := Lib.hid HBQ.out.symm
      have hkm : ¬ k ≤ most := fun h => by have := HBK.out; rw [decide_eq_true h] at this; cases this
      obtain rfl : k6 = 0 := by
        have := HFN6.out
        rw [hd] at this
        have h2 := congrArg List.length this
        rw [length_fns, HLN6.out] at h2
        exact h2
      rw [hd]
      clear hd
      have g1 : decide (k ≤ most) = false := by simpa using hkm
      have hmk : most < k := by omega
      refine Lib.hid ?_
      go_wp2_with (go_at_call 17; refine (bounded_any (w6.heap.size + 1) A m c rs _ HP6.out (by omega)).mono ?_; rintro e w7 ⟨rfl, hb7⟩; rw [HBF.out]; refine Hid.out ?_)
      have HB7 := Lib.hid (HB6.out.trans (hb7.mono (by omega)))
      have d4 : w7.cell? ⟨w6.heap.size, 0, none⟩ = some (.slice A6 0 c6) := (HV6.out.below hb7 HV6.out.lt).cell 0
      clear hb7 d0
      refine Lib.hid ?_
      go_wp2
      go_ret
      exact ⟨rfl, HB7.out⟩
    | true =>
      have hd : decA L = (fns rs, 0) := by rw [HDA.out]; rfl
      have HBF : Hid (bnd (fns rs) = true) := Lib.hid HBQ.out.symm
      have hkm : k ≤ most := by
        have := HBK.out
        simpa using this.symm
      have HSE : Hid (decide (fns rs = fns rs6) = true) := Lib.hid (by rw [HFN6.out, hd]; simp)
      rw [hd]
      clear hd
      have g1 : decide (k ≤ most) = true := by simpa using hkm
      refine Lib.hid ?_
      go_wp2_with (go_at_call 17; refine (bounded_any (w6.heap.size + 1) A m c rs _ HP6.out (by omega)).mono ?_; rintro e w7 ⟨rfl, hb7⟩; rw [HBF.out]; refine Hid.out ?_)
      have hz7 : w6.heap.size + 1 ≤ w7.heap.size := by have := hb7.size; omega
      have HB7 := Lib.hid (HB6.out.trans (hb7.mono (by omega)))
      have d3 : w7.cell? ⟨p7, 0, none⟩ = some (.slice A m c) := (HX6.out.below hb7 HX6.out.lt).cell 0
      have d4 : w7.cell? ⟨w6.heap.size, 0, none⟩ = some (.slice A6 k6 c6) := (HV6.out.below hb7 HV6.out.lt).cell 0
      have HP7 := Lib.hid ((HP6.out.below (hb7.mono (by omega))).more hz7)
      have HQ7 := Lib.hid ((HQ6.out.below (hb7.mono (by omega))).more hz7)
      clear hb7 d0
      refine Lib.hid ?_
      go_wp2_with (go_at_call 19; refine (same_any w7.heap.size A A6 m k6 c c6 rs rs6 _ HP7.out HQ7.out (Nat.le_refl _)).mono ?_; rintro e w8 ⟨rfl, hb8⟩; rw [HSE.out]; refine Hid.out ?_)
      have HB8 := Lib.hid (HB7.out.trans (hb8.mono HB7.out.size))
      clear hb8
      refine Lib.hid ?_
      go_wp2
      go_ret
      exact ⟨rfl, HB8.out⟩
end Go.Proofs.Ytklfppeecgkpnaa
