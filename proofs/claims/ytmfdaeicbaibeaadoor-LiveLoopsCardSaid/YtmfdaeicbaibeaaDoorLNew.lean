/-
  Package live: newSets.
-/
import Derived.Test.YtmfdaeicbaibeaaDoorLList
namespace Go.Proofs.YtmfdaeicbaibeaaDoor
set_option linter.unusedVariables false
set_option linter.unusedSimpArgs false
open Go.ChangeShapes Go.WideShapes Go.ChangeAt Go.RowKit

theorem info_pset : (Tryd.prog.info? 94).map (fun i => (i.zero, i.size, i.bytes)) = some (some (.pointer none), 1, 8) := by kernel_rfl
theorem info_sint : (Tryd.prog.info? 33).map (fun i => (i.zero, i.size, i.bytes)) = some (some (.slice none 0 0), 1, 24) := by kernel_rfl
theorem made_words (q : Nat) : madeCells #[.int .u64 0] q = (u64n (List.replicate q 0)).toArray := by
  apply Array.ext
  · simp [madeCells, u64n]
  · intro i h1 h2
    simp [madeCells, u64n, Nat.mod_one]
/-- sets being made: k of n -/
structure NewSI (W : World) (R n q m k : Nat) (cs : Array Value) (wr : World) : Prop where
  gr : Blk wr W.heap.size 37 cs
  row : Blk wr R 94 (rowA n fun i => if i < k then .pointer (some ⟨R + 2 + 2 * i, 0, none⟩) else .pointer none)
  box : ∀ i, i < k → Blk wr (R + 2 + 2 * i) 117 #[.int .i64 m, .slice (some ⟨R + 1 + 2 * i, 0, none⟩) q q]
  words : ∀ i, i < k → Blk wr (R + 1 + 2 * i) 40 (u64n (List.replicate q 0)).toArray
  size : wr.heap.size = R + 1 + 2 * k
  below : Below W.heap.size W wr
  at_ : R = W.heap.size + 1
section
variable {W wr : World} {R n q m k : Nat} {cs : Array Value}
theorem NewSI.start (W : World) (n q m : Nat) (cs : Array Value) : NewSI W (W.heap.size + 1) n q m 0 cs ((W.alloc (.cells cs 37)).alloc (.cells (madeCells #[.pointer none] n) 94)) := by
  have h := Blk.new (W.alloc (.cells cs 37)) 94 (madeCells #[.pointer none] n)
  rw [show (W.alloc (.cells cs 37)).heap.size = W.heap.size + 1 by simp] at h
  refine ⟨(Blk.new W _ _).alloc _, ?_, fun i hi => absurd hi (by omega), fun i hi => absurd hi (by omega), by simp, ((Below.refl _ _).alloc (Nat.le_refl _) _).alloc (by simp) _, rfl⟩
  rw [rowA_congr (g := fun _ => .pointer none) (fun i _ => if_neg (Nat.not_lt_zero i)), ← rowA_made]
  exact h
theorem NewSI.step (h : NewSI W R n q m k cs wr) (hk : k < n) : NewSI W R n q m (k + 1) cs ((newW wr m q).setCell ⟨R, k, none⟩ (.pointer (some ⟨wr.heap.size + 1, 0, none⟩))) := by
  have hs := h.size
  have ha := h.at_
  have hb := Blk.new (wr.alloc (.cells (madeCells #[.int .u64 0] q) 40)) 117 #[.int .i64 m, .slice (some ⟨wr.heap.size, 0, none⟩) q q]
  rw [show (wr.alloc (.cells (madeCells #[.int .u64 0] q) 40)).heap.size = wr.heap.size + 1 by simp] at hb
  have hw : Blk (newW wr m q) wr.heap.size 40 (u64n (List.replicate q 0)).toArray := by
    rw [← made_words]
    exact (Blk.new wr 40 (madeCells #[.int .u64 0] q)).alloc (.cells #[.int .i64 m, .slice (some ⟨wr.heap.size, 0, none⟩) q q] 117)
  refine ⟨((h.gr.alloc _).alloc _).far (p := ⟨R, k, none⟩) (by show W.heap.size ≠ R; omega) _, ?_, fun i hi => ?_, fun i hi => ?_, by simp [newW, World.setCell]; omega, ((h.below.alloc h.below.size _).alloc (by have := h.below.size; simp; omega) _).setCell (p := ⟨R, k, none⟩) (by show W.heap.size ≤ R; omega) _, ha⟩
  · have h1 := ((h.row.alloc (.cells (madeCells #[.int .u64 0] q) 40)).alloc (.cells #[.int .i64 m, .slice (some ⟨wr.heap.size, 0, none⟩) q q] 117)).set_ k (.pointer (some ⟨wr.heap.size + 1, 0, none⟩))
    rw [rowA_set] at h1
    rw [rowA_congr (g := upd (fun i => if i < k then .pointer (some ⟨R + 2 + 2 * i, 0, none⟩) else .pointer none) k (.pointer (some ⟨wr.heap.size + 1, 0, none⟩))) (fun i hi => by
      unfold upd
      show _ = if i = k then _ else if i < k then _ else _
      by_cases e : i = k
      · subst e
        rw [if_pos (by omega), if_pos rfl, show wr.heap.size + 1 = R + 2 + 2 * i by omega]
      · rw [if_neg e]
        by_cases e2 : i < k
        · rw [if_pos (by omega), if_pos e2]
        · rw [if_neg (by omega), if_neg e2])]
    exact h1
  · by_cases e : i = k
    · subst e
      rw [show R + 2 + 2 * i = wr.heap.size + 1 by omega, show R + 1 + 2 * i = wr.heap.size by omega]
      exact hb.far (p := ⟨R, i, none⟩) (by show wr.heap.size + 1 ≠ R; omega) (.pointer (some ⟨wr.heap.size + 1, 0, none⟩))
    · exact (((h.box i (by omega)).alloc _).alloc _).far (p := ⟨R, k, none⟩) (by show R + 2 + 2 * i ≠ R; omega) _
  · by_cases e : i = k
    · subst e
      rw [show R + 1 + 2 * i = wr.heap.size by omega]
      exact hw.far (p := ⟨R, i, none⟩) (by show wr.heap.size ≠ R; omega) (.pointer (some ⟨wr.heap.size + 1, 0, none⟩))
    · exact (((h.words i (by omega)).alloc _).alloc _).far (p := ⟨R, k, none⟩) (by show R + 1 + 2 * i ≠ R; omega) _
theorem NewSI.done (h : NewSI W R n q m n cs wr) (hq : q = (m + 63) / 64) (hm : m ≤ 1024) : SetsI wr R n q m (List.replicate n (List.replicate q 0)) := by
  refine ⟨?_, h.box, fun i hi => ?_, zeroS_wf n q m, hq, hm⟩
  · rw [rowA_congr (g := fun i => if i < n then .pointer (some ⟨R + 2 + 2 * i, 0, none⟩) else .pointer none) (fun i hi => by rw [if_pos hi])]
    exact h.row
  · rw [List.getD_eq_getElem?_getD, List.getElem?_replicate, if_pos hi, Option.getD_some]
    exact h.words i hi
end
set_option maxRecDepth 100000 in
set_option maxHeartbeats 1600000 in
theorem newSets_any (po ko io no : Option Addr) (nP pc nK kc nI ic n nc q : Nat) (cells keep entry : Int) (res : Bool) (w : World) (hn : n ≤ 4096) (hK : nK ≤ 1024) (hq : q = (nK + 63) / 64) :
    Calls Tryd.prog 43 #[.agg #[.slice po nP pc, .slice ko nK kc, .int .i64 cells, .slice io nI ic, .bool res, .int .i64 keep, .slice no n nc, .int .i64 entry]] w fun e w' => e = .returned (.slice (some ⟨w.heap.size + 1, 0, none⟩) n n) ∧ SetsI w' (w.heap.size + 1) n q nK (List.replicate n (List.replicate q 0)) ∧ Below w.heap.size w w' ∧ w'.heap.size = w.heap.size + 2 + 2 * n := by
  have hmk : ∀ W : World, (Instr.makeSlice 68 (.int .i64 n) (.int .i64 n)).run Tryd.prog W = .ok (.slice (some ⟨W.heap.size, 0, none⟩) n n) (W.alloc (.cells (madeCells #[.pointer none] n) 94)) := fun W => run_make_row' _ _ _ 8 Tryd.underlying68 info_pset rfl .i64 .i64 n (by omega) (by omega) W
  have HS := Lib.hid (NewSI.start w n q nK #[.slice po nP pc, .slice ko nK kc, .int .i64 cells, .slice io nI ic, .bool res, .int .i64 keep, .slice no n nc, .int .i64 entry])
  have HQ := Lib.hid hq
  clear hq
  go_enter Tryd.func43, Tryd.ntmps43
  go_wp2
  obtain ⟨R, hR⟩ : ∃ R, R = w.heap.size + 1 := ⟨_, rfl⟩
  rw [← hR] at HS ⊢
  have HR := Lib.hid hR
  clear hR
  go_loopw [11] (fun i wr => ∃ k : Nat, k ≤ n ∧ i = .int .i64 k ∧ Hid (NewSI w R n q nK k #[.slice po nP pc, .slice ko nK kc, .int .i64 cells, .slice io nI ic, .bool res, .int .i64 keep, .slice no n nc, .int .i64 entry] wr)) (fun i _ => n - (intOf i).toNat)
  case atStart => exact ⟨0, by omega, rfl, HS⟩
  case round =>
    obtain ⟨k, hk, rfl, HI⟩ := hrel
    by_cases hlt : k < n
    · have g1 : wr.cell? ⟨w.heap.size, 1, none⟩ = some (.slice ko nK kc) := HI.out.gr.cell 1
      have f1 : (newW wr nK q).frozen? ⟨R, k, none⟩ = false := ((HI.out.row.alloc _).alloc _).frozen k
      have y1 : ∃ y, (newW wr nK q).cell? ⟨R, k, none⟩ = some y := ⟨_, (((HI.out.row.alloc _).alloc _).cell k).trans (rowA_at _ hlt)⟩
      obtain ⟨y, hy⟩ := y1
      go_wp2_with (go_at_call 64; refine (new_any nK nK q (by omega) (by omega) (by rw [if_neg (by omega)]) HQ.out _).mono ?_; rintro e w2 ⟨rfl, hw2⟩; rw [hw2]; clear hw2)
      go_roundw
      case rel => exact ⟨k + 1, by omega, by go_num, Lib.hid (HI.out.step hlt)⟩
      case measure => simp [intOf]; omega
    · obtain rfl : k = n := by omega
      have HD := Lib.hid (HI.out.done HQ.out hK)
      have HZ := Lib.hid HI.out.size
      have HBL := Lib.hid HI.out.below
      go_wp2
      go_ret
      have hR := HR.out
      subst hR
      exact ⟨rfl, HD.out, HBL.out, by rw [HZ.out]⟩
end Go.Proofs.YtmfdaeicbaibeaaDoor
