/-
  Package text: localsWord, putInstr.
-/
import Derived.Test.YtfadcoimeocjiaaGreatDoorTPut
import Derived.Test.YtfadcoimeocjiaaGreatDoorTOps
namespace Go.Proofs.YtfadcoimeocjiaaGreatDoor
set_option linter.unusedVariables false
open Go.ChangeShapes Go.WideShapes Go.ChangeAt Go.RowKit

theorem bf_weak {B B2 b : Nat} {l : List UInt8} {w : World} (h : BF B b l w) (hB : B2 ≤ B) : BF B2 b l w := by
  have key : ∀ p, Lib.BuilderAtF 50 5 B b p (Lib.byteCells l) w → Lib.BuilderAtF 50 5 B2 b p (Lib.byteCells l) w := fun p hp => by
    obtain ⟨h1, v, hk, hown, hne⟩ := hp
    refine ⟨by omega, v, hk, ⟨hown.1, ?_⟩, hne⟩
    rcases hown.2 with h2 | ⟨g, cap, cur, fz, rfl, hg, hr⟩
    · exact .inl h2
    · exact .inr ⟨g, cap, cur, fz, rfl, by omega, hr⟩
  exact h.elim (fun x => .inl (key _ x)) (fun x => .inr (key _ x))
theorem bf_fresh (w : World) : BF w.heap.size w.heap.size [] (w.alloc (.cells #[.pointer none, .slice none 0 0] 50)) := Lib.IsBuilderF.of (Lib.fresh_isBuilder 50 5 w)

set_option maxHeartbeats 2000000 in
theorem localsWord_any (ls : List Int) (B : Nat) (A : Option Addr) (n c : Nat) (w : World) (h : Reads w B 1 A n (u8c ls)) (hB : B ≤ w.heap.size) (hl : ls.length = n) (hk : ∀ k ∈ ls, kindB k = true) (hn : n ≤ 255) :
    Calls Tryz.prog 14 #[.slice A n c] w fun e w' => e = .returned (.string (str (localsW ls))) ∧ Below w.heap.size w w' := by
  by_cases h0 : n = 0
  · subst h0
    obtain rfl : ls = [] := List.eq_nil_of_length_eq_zero hl
    clear h hl hk
    go_enter Tryz.func14, Tryz.ntmps14
    go_wp2
    go_ret
    exact ⟨rfl, Below.refl _ _⟩
  · have hn0 : ((n : Int) == 0) = false := by simp; omega
    have HR := Lib.hid h
    have HL := Lib.hid hl
    have HK := Lib.hid hk
    have HW : Hid (localsW ls = ls.map letterW) := Lib.hid (by unfold localsW; rw [if_neg]; rintro rfl; simp at hl; omega)
    clear h hl hk
    go_enter Tryz.func14, Tryz.ntmps14
    go_wp2
    go_loopw [11] (fun i wr => ∃ j : Nat, j ≤ n ∧ i = .int .i64 j ∧ Hid (BF w.heap.size w.heap.size ((ls.take j).map letterW) wr) ∧ Hid (Below w.heap.size w wr)) (fun i _ => n - (intOf i).toNat)
    case atStart => exact ⟨0, by omega, rfl, bf_fresh w, (Below.refl _ _).alloc (Nat.le_refl _) _⟩
    case round =>
      obtain ⟨j, hj, rfl, HB, HW1⟩ := hrel
      have hz := HW1.out.size
      by_cases hlt : j < n
      · obtain ⟨b, off, x, rfl, hb, HX, cx⟩ := (HR.out.below (HW1.out.mono hB)).byte hlt
        have hx01 := kindB_iff.1 (HK.out x (List.mem_of_getElem? HX.out))
        have HS : Hid ((ls.take (j + 1)).map letterW = (ls.take j).map letterW ++ [letterW x]) := Lib.hid (by rw [List.take_add_one, HX.out, List.map_append]; rfl)
        have hlen : ((ls.take j).map letterW).length ≤ 255 := by rw [List.length_map, List.length_take]; omega
        rcases hx01 with rfl | rfl
        all_goals
          go_wp2_with (go_at_call 31; refine (wb_any w.heap.size w.heap.size ((ls.take j).map letterW) _ _ rfl _ HB.out (by omega) (by omega)).mono ?_; rintro e w2 ⟨rfl, h2, k2⟩; refine Hid.out ?_)
          have H2 : Hid (BF w.heap.size w.heap.size ((ls.take (j + 1)).map letterW) w2) := Lib.hid (by rw [HS.out]; exact h2)
          have K2 := Lib.hid (HW1.out.trans k2.1)
          clear h2 k2
          refine Lib.hid ?_
          go_wp2
          go_roundw
          case rel => exact ⟨j + 1, by omega, by go_num, H2, K2⟩
          case measure => simp [intOf]; omega
      · obtain rfl : j = n := by omega
        have htl : ls.take j = ls := List.take_of_length_le (by have := HL.out; omega)
        rw [htl, ← HW.out] at HB
        clear htl
        go_wp2_with (go_at_call 18; refine (Tryz.Builder_String_any_k w.heap.size w.heap.size (localsW ls) _ HB.out (by omega)).mono ?_; rintro e w4 ⟨rfl, _, hb4, _⟩)
        go_ret
        exact ⟨rfl, HW1.out.trans hb4⟩

theorem nm_at (w : World) (hV : Vars w) (op : Nat) (h1 : 1 ≤ op) (h2 : op ≤ 32) : w.cell? ⟨0, op, none⟩ = some (.string (str (nmOf op))) := by
  rw [hV.nm op (by omega)]
  obtain ⟨k, rfl⟩ : ∃ k, op = k + 1 := ⟨op - 1, by omega⟩
  unfold nmOf
  simp [List.getD]

set_option maxRecDepth 100000 in
set_option maxHeartbeats 4000000 in
theorem putInstr_any (B b : Nat) (l : List UInt8) (i : Ins) (hi : okI i = true) (w : World) (hB : BF B b l w) (hBw : B ≤ w.heap.size) (hlen : l.length ≤ 1099511627776) (hE : Env B w) :
    Calls Tryz.prog 17 #[.pointer (some ⟨b, 0, none⟩), .agg #[.int .u8 i.op, .int .i64 i.arg, .int .u64 i.imm]] w fun e w' => e = .returned (.tuple #[]) ∧ BF B b (l ++ insW i ++ [10]) w' ∧ WK B b w w' := by
  obtain ⟨op, v, h1, h2, h3, h4, rfl, h5⟩ := okI_form hi
  have hbl := (bf_lt hB).2
  rw [insW_form]
  simp only
  obtain ⟨N, HN⟩ : ∃ N, Hid (N = nmOf op) := ⟨_, rfl⟩
  obtain ⟨Y, HY⟩ : ∃ Y, Hid (Y = str N) := ⟨_, rfl⟩
  have HG := Lib.hid (greatest_any op (by omega))
  have HNm : Hid (∀ W, Below B w W → W.cell? ⟨0, op, none⟩ = some (.string Y)) := Lib.hid fun W hW => by rw [HY.out, HN.out]; exact nm_at W (hE W hW) op h1 h2
  have hNl : N.length ≤ 7 := by rw [HN.out]; exact (nm_form op h1 h2).2.2.2.2.2
  rw [← HN.out]
  have HBF := Lib.hid hB
  have HEE := Lib.hid hE
  have H4 := Lib.hid h4
  have hdl := nDigits_le v h4
  clear hB hE hi h4
  by_cases hg0 : gOp op = 0
  · have ho : op ≠ 1 := by rintro rfl; cases hg0
    rw [if_pos hg0, if_neg ho, if_neg ho]
    rw [hg0] at HG
    have ba : Below w.heap.size w (w.alloc (.cells #[.int .u8 op, .int .i64 v, .int .u64 0] 45)) := (Below.refl _ _).alloc (Nat.le_refl _) _
    have cn := HNm.out _ (ba.mono hBw)
    have HBa := Lib.hid (bf_below HBF.out ba)
    have HBB := Lib.hid ba
    clear ba ho hg0 h3 h5
    go_enter Tryz.func17, Tryz.ntmps17
    go_wp2_with (first
      | (go_at_call 33; refine (HG.out _).mono ?_; rintro e w2 ⟨rfl, rfl⟩)
      | (go_at_call 12; refine (putLine_any B b 0 l N [] none 0 0 Y HY.out _ HBa.out (by simp; omega) rfl (.inl rfl) (by simp [blankW]; omega)).mono ?_; rintro e w3 ⟨rfl, h3, k3⟩; refine Hid.out ?_))
    have H3 := Lib.hid h3
    have K3 := Lib.hid k3
    clear h3 k3
    refine Lib.hid ?_
    go_wp2
    go_end0
    exact ⟨rfl, by have := H3.out; simpa [blankW] using this, (WK.below HBB.out hBw).trans K3.out⟩
  · obtain ⟨D, HD⟩ : ∃ D, Hid (D = str (Lib.decDigits v)) := ⟨_, rfl⟩
    obtain ⟨g, hg⟩ : ∃ g, gOp op = g := ⟨_, rfl⟩
    rw [if_neg hg0]
    rw [hg] at HG hg0 h3
    have q0 : ((g : Int) == 0) = false := by simp; omega
    have HGN : Hid (op ≠ 1 → g ≤ 65535) := Lib.hid (fun h => by rw [← hg]; unfold gOp; rw [if_neg h]; split <;> (try split) <;> omega)
    have hv := H4.out
    have hvz : (v : Int) ≤ 18446744073709551615 := by omega
    clear hg h5 hg0
    by_cases ho : op = 1
    · subst ho
      rw [if_pos rfl, if_pos rfl]
      clear hv
      have HPr : Hid (∀ W, Below w.heap.size w W → Calls Tryz.prog 13 #[.int .u64 v] W fun e W2 => e = .returned (.string D) ∧ Below W.heap.size W W2) := Lib.hid fun W hW => by
        rw [HD.out]
        exact printed_any v H4.out W (HEE.out.on (hW.mono hBw)).here
      have HIc : Hid (∀ W2, Below (w.alloc (.cells #[.int .u8 1, .int .i64 0, .int .u64 v] 45)).drew.heap.size (w.alloc (.cells #[.int .u8 1, .int .i64 0, .int .u64 v] 45)).drew W2 → (W2.cell? ⟨w.heap.size, 0, none⟩ = some (.int .u8 1) ∧ W2.cell? ⟨w.heap.size, 2, none⟩ = some (.int .u64 v) ∧ W2.cell? ⟨0, 1, none⟩ = some (.string Y)) ∧ Below w.heap.size w W2) := Lib.hid fun W2 hb => by
        have hx : Blk W2 w.heap.size 45 #[.int .u8 1, .int .i64 0, .int .u64 v] := (Blk.new w 45 #[.int .u8 1, .int .i64 0, .int .u64 v]).drew.below hb (by simp)
        have hbw : Below w.heap.size w W2 := ((Below.refl _ _).alloc (Nat.le_refl _) _).drew.trans (hb.mono (by simp))
        exact ⟨⟨hx.cell 0, hx.cell 2, HNm.out _ (hbw.mono hBw)⟩, hbw⟩
      have HPL : Hid (∀ W2, Below (w.alloc (.cells #[.int .u8 1, .int .i64 0, .int .u64 v] 45)).drew.heap.size (w.alloc (.cells #[.int .u8 1, .int .i64 0, .int .u64 v] 45)).drew W2 → Calls Tryz.prog 12 #[.pointer (some ⟨b, 0, none⟩), .string Y, .slice (some ⟨W2.heap.size, 0, none⟩) 1 1] (W2.alloc (.cells #[.string D] 9)) fun e W3 =>
          e = .returned (.tuple #[]) ∧ Hid (BF B b (l ++ (N ++ 32 :: Lib.decDigits v) ++ [10]) W3) ∧ Hid (WK B b w W3) ∧ (W3.cell? ⟨w.heap.size, 0, none⟩ = some (.int .u8 1) ∧ W3.cell? ⟨w.heap.size, 2, none⟩ = some (.int .u64 v) ∧ W3.cell? ⟨0, 1, none⟩ = some (.string Y))) := Lib.hid fun W2 hb => by
        have hx : Blk W2 w.heap.size 45 #[.int .u8 1, .int .i64 0, .int .u64 v] := (Blk.new w 45 #[.int .u8 1, .int .i64 0, .int .u64 v]).drew.below hb (by simp)
        have hbw : Below w.heap.size w W2 := ((Below.refl _ _).alloc (Nat.le_refl _) _).drew.trans (hb.mono (by simp))
        have hz := hbw.size
        refine (putLine_any B b W2.heap.size l N [Lib.decDigits v] (some ⟨W2.heap.size, 0, none⟩) 1 1 Y HY.out _ (bf_below HBF.out (hbw.trans ((Below.refl _ _).alloc hz _))) (by simp; omega) rfl (.inr ⟨rfl, ?_, by omega⟩) (by simp [blankW]; omega)).mono ?_
        · have h := Blk.new W2 9 #[.string D]
          rw [HD.out] at h ⊢
          exact h
        · rintro e W3 ⟨rfl, h3, k3⟩
          have hx3 := k3.blk (hx.alloc (.cells #[.string D] 9)) (by omega) (by decide)
          have hk := ((WK.below hbw hBw).trans (WK.below ((Below.refl _ W2).alloc (Nat.le_refl _) (.cells #[.string D] 9)) (by omega))).trans k3
          exact ⟨rfl, Lib.hid (by simpa [blankW] using h3), Lib.hid hk, hx3.cell 0, hx3.cell 2, HNm.out _ hk.1⟩
      obtain ⟨⟨c0, c1, c2⟩, _⟩ := HIc.out _ (Below.refl _ _)
      have d0 : (w.alloc (.cells #[.int .u8 1, .int .i64 0, .int .u64 v] 45)).cell? ⟨w.heap.size, 0, none⟩ = some (.int .u8 1) := c0
      have d1 : (w.alloc (.cells #[.int .u8 1, .int .i64 0, .int .u64 v] 45)).cell? ⟨w.heap.size, 2, none⟩ = some (.int .u64 v) := c1
      have d2 : (w.alloc (.cells #[.int .u8 1, .int .i64 0, .int .u64 v] 45)).cell? ⟨0, 1, none⟩ = some (.string Y) := c2
      skip
      clear c0 c1 hdl
      go_enter Tryz.func17, Tryz.ntmps17
      go_wp2_with (go_at_call 33; refine (HG.out _).mono ?_; rintro e w2 ⟨rfl, rfl⟩)
      go_region_held3 (fun W => W.cell? ⟨w.heap.size, 0, none⟩ = some (.int .u8 1) ∧ W.cell? ⟨w.heap.size, 2, none⟩ = some (.int .u64 v) ∧ W.cell? ⟨0, 1, none⟩ = some (.string Y))
        (first | go_keep | exact hS2 | exact hS3 | exact ⟨d0, d1, d2⟩ | exact d2 | exact c2 | assumption)
        (first
          | (go_at_call 13; refine (HPr.out _ (by exact ((Below.refl _ _).alloc (Nat.le_refl _) _).drew)).mono ?_; rintro e W2 ⟨rfl, hb2⟩; have hS2 := (HIc.out W2 hb2).1)
          | (go_at_call 12; refine (HPL.out _ hb2).mono ?_; rintro e W3 ⟨rfl, HF3, HK3, hS3⟩))
      go_wp2
      go_end0
      exact ⟨rfl, HF3.out, HK3.out⟩
    · rw [if_neg ho, if_neg ho]
      have hvs : (v : Int) ≤ 65535 := by have := HGN.out ho; omega
      clear hvz
      have HPr : Hid (∀ W, Below w.heap.size w W → Calls Tryz.prog 13 #[.int .u64 v] W fun e W2 => e = .returned (.string D) ∧ Below W.heap.size W W2) := Lib.hid fun W hW => by
        rw [HD.out]
        exact printed_any v H4.out W (HEE.out.on (hW.mono hBw)).here
      have HIc : Hid (∀ W2, Below (w.alloc (.cells #[.int .u8 op, .int .i64 v, .int .u64 0] 45)).drew.heap.size (w.alloc (.cells #[.int .u8 op, .int .i64 v, .int .u64 0] 45)).drew W2 → (W2.cell? ⟨w.heap.size, 0, none⟩ = some (.int .u8 op) ∧ W2.cell? ⟨w.heap.size, 1, none⟩ = some (.int .i64 v) ∧ W2.cell? ⟨0, op, none⟩ = some (.string Y)) ∧ Below w.heap.size w W2) := Lib.hid fun W2 hb => by
        have hx : Blk W2 w.heap.size 45 #[.int .u8 op, .int .i64 v, .int .u64 0] := (Blk.new w 45 #[.int .u8 op, .int .i64 v, .int .u64 0]).drew.below hb (by simp)
        have hbw : Below w.heap.size w W2 := ((Below.refl _ _).alloc (Nat.le_refl _) _).drew.trans (hb.mono (by simp))
        exact ⟨⟨hx.cell 0, hx.cell 1, HNm.out _ (hbw.mono hBw)⟩, hbw⟩
      have HPL : Hid (∀ W2, Below (w.alloc (.cells #[.int .u8 op, .int .i64 v, .int .u64 0] 45)).drew.heap.size (w.alloc (.cells #[.int .u8 op, .int .i64 v, .int .u64 0] 45)).drew W2 → Calls Tryz.prog 12 #[.pointer (some ⟨b, 0, none⟩), .string Y, .slice (some ⟨W2.heap.size, 0, none⟩) 1 1] (W2.alloc (.cells #[.string D] 9)) fun e W3 =>
          e = .returned (.tuple #[]) ∧ Hid (BF B b (l ++ (N ++ 32 :: Lib.decDigits v) ++ [10]) W3) ∧ Hid (WK B b w W3) ∧ (W3.cell? ⟨w.heap.size, 0, none⟩ = some (.int .u8 op) ∧ W3.cell? ⟨w.heap.size, 1, none⟩ = some (.int .i64 v) ∧ W3.cell? ⟨0, op, none⟩ = some (.string Y))) := Lib.hid fun W2 hb => by
        have hx : Blk W2 w.heap.size 45 #[.int .u8 op, .int .i64 v, .int .u64 0] := (Blk.new w 45 #[.int .u8 op, .int .i64 v, .int .u64 0]).drew.below hb (by simp)
        have hbw : Below w.heap.size w W2 := ((Below.refl _ _).alloc (Nat.le_refl _) _).drew.trans (hb.mono (by simp))
        have hz := hbw.size
        refine (putLine_any B b W2.heap.size l N [Lib.decDigits v] (some ⟨W2.heap.size, 0, none⟩) 1 1 Y HY.out _ (bf_below HBF.out (hbw.trans ((Below.refl _ _).alloc hz _))) (by simp; omega) rfl (.inr ⟨rfl, ?_, by omega⟩) (by simp [blankW]; omega)).mono ?_
        · have h := Blk.new W2 9 #[.string D]
          rw [HD.out] at h ⊢
          exact h
        · rintro e W3 ⟨rfl, h3, k3⟩
          have hx3 := k3.blk (hx.alloc (.cells #[.string D] 9)) (by omega) (by decide)
          have hk := ((WK.below hbw hBw).trans (WK.below ((Below.refl _ W2).alloc (Nat.le_refl _) (.cells #[.string D] 9)) (by omega))).trans k3
          exact ⟨rfl, Lib.hid (by simpa [blankW] using h3), Lib.hid hk, hx3.cell 0, hx3.cell 1, HNm.out _ hk.1⟩
      obtain ⟨⟨c0, c1, c2⟩, _⟩ := HIc.out _ (Below.refl _ _)
      have d0 : (w.alloc (.cells #[.int .u8 op, .int .i64 v, .int .u64 0] 45)).cell? ⟨w.heap.size, 0, none⟩ = some (.int .u8 op) := c0
      have d1 : (w.alloc (.cells #[.int .u8 op, .int .i64 v, .int .u64 0] 45)).cell? ⟨w.heap.size, 1, none⟩ = some (.int .i64 v) := c1
      have d2 : (w.alloc (.cells #[.int .u8 op, .int .i64 v, .int .u64 0] 45)).cell? ⟨0, op, none⟩ = some (.string Y) := c2
      have q1 : ((op : Int) == 1) = false := by simp; omega
      have ho0 : (0 : Int) ≤ (op : Int) := by omega
      have ho1 : (op : Int) ≤ 32 := by omega
      have ho2 : (op : Int) < 33 := by omega
      have hwv : IntKind.u64.wrap (v : Int) = (v : Int) := by rw [IntKind.wrap_u64]; omega
      clear c0 c1 hdl
      go_enter Tryz.func17, Tryz.ntmps17
      go_wp2_with (go_at_call 33; refine (HG.out _).mono ?_; rintro e w2 ⟨rfl, rfl⟩)
      go_region_held3 (fun W => W.cell? ⟨w.heap.size, 0, none⟩ = some (.int .u8 op) ∧ W.cell? ⟨w.heap.size, 1, none⟩ = some (.int .i64 v) ∧ W.cell? ⟨0, op, none⟩ = some (.string Y))
        (first | go_keep | exact hS2 | exact hS3 | exact ⟨d0, d1, d2⟩ | exact d2 | exact c2 | assumption)
        (first
          | (go_at_call 13; refine (HPr.out _ (by exact ((Below.refl _ _).alloc (Nat.le_refl _) _).drew)).mono ?_; rintro e W2 ⟨rfl, hb2⟩; have hS2 := (HIc.out W2 hb2).1)
          | (go_at_call 12; refine (HPL.out _ hb2).mono ?_; rintro e W3 ⟨rfl, HF3, HK3, hS3⟩))
      go_wp2
      go_end0
      exact ⟨rfl, HF3.out, HK3.out⟩
end Go.Proofs.YtfadcoimeocjiaaGreatDoor
