/-
  Package bits, any set: List.
-/
import Derived.Test.YtmfdaeicbaibeaaDoorLBit
namespace Go.Proofs.YtmfdaeicbaibeaaDoor
set_option linter.unusedVariables false
set_option linter.unusedSimpArgs false
open Go.ChangeShapes Go.WideShapes Go.ChangeAt Go.RowKit

theorem lmake_room (r : Nat) (hr : r ≤ 5000) (W : World) : (Instr.makeSlice 33 (.int .i64 0) (.int .i64 r)).run Tryd.prog W = .ok (.slice (some ⟨W.heap.size, 0, none⟩) 0 r) (W.alloc (.cells (madeCells #[.int .i64 0] r) 3)) := by
  obtain ⟨i0, hi, hz0, hz1, hz2⟩ := info_parts Tryd.info3
  have h := run_make (P := Tryd.prog) W 33 3 i0 (.int .i64 0) Tryd.underlying33 hi hz0 .i64 .i64 0 r (by omega) (by omega) (by rw [hz2]; omega) (by omega)
  simpa [hz1, Value.cells] using h
theorem mul64 {k : Nat} (c : Nat) : (k : Int) * 64 + (c : Int) = ((64 * k + c : Nat) : Int) := by omega
set_option maxRecDepth 100000 in
set_option maxHeartbeats 1600000 in
theorem llist_any (p b q : Nat) (ws : List Nat) (w : World) (h1 : w.cell? ⟨p, 1, none⟩ = some (.slice (some ⟨b, 0, none⟩) q q)) (hw : Blk w b 40 (u64n ws).toArray) (hl : ws.length = q) (hlt : ∀ x ∈ ws, x < 18446744073709551616) (hq : q ≤ 16) (hT : TzTab w) :
    Calls Tryd.prog 39 #[.pointer (some ⟨p, 0, none⟩)] w fun e w' => ∃ A c, e = .returned (.slice A (listK ws q).length c) ∧ w'.ownsRow w.heap.size 3 1 (.slice A (listK ws q).length c) (listK ws q).length (i64c (listK ws q)) ∧ Below w.heap.size w w' := by
  have HLE := Lib.hid (llen_any p b q ws w h1 hw hl hq)
  have HA : Hid (∀ o, Calls Tryd.prog 58 #[.pointer (some ⟨p, 0, none⟩)] (w.alloc o) fun e w' => e = .returned (.slice (some ⟨b, 0, none⟩) q q) ∧ w' = w.alloc o) := Lib.hid fun o => lall_some p _ _ _ _ ((World.cell?_alloc_lt w o ⟨p, 1, none⟩ (cell_lt h1)).trans h1)
  have HW := Lib.hid hw
  have HL := Lib.hid hl
  have HLT := Lib.hid hlt
  have HT := Lib.hid hT
  clear h1 hw hl hlt hT
  go_enter Tryd.func39, Tryd.ntmps39
  go_upto_region 1 with fail
  go_wp2_with (first
    | (go_at_call 57; go_loud (refine HLE.out.mono ?_); rintro e w1 ⟨r, hr, rfl, hw1⟩; rw [hw1]; clear hw1; go_loud (have hmk := lmake_room r (by omega) w); go_loud (have hme : Hid ((w.alloc (.cells (madeCells #[.int .i64 0] r) 3)).ownsRow w.heap.size 3 1 (.slice (some ⟨w.heap.size, 0, none⟩) 0 r) 0 []) := Lib.hid (World.ownsRow_made w _ r (Nat.le_refl _) (by unfold maxLen; omega) (by simp [size_madeCells]))))
    | (go_at_call 58; refine (HA.out _).mono ?_; rintro e w2 ⟨rfl, hw2⟩; rw [hw2]; clear hw2))
  go_loopw [3, 12] (fun v i wr => ∃ k : Nat, k ≤ q ∧ i = .int .i64 k ∧ Hid (wr.ownsRow w.heap.size 3 1 v (listK ws k).length (i64c (listK ws k))) ∧ Hid (Below w.heap.size w wr)) (fun _ i _ => q - (intOf i).toNat)
  case atStart => exact ⟨0, by omega, rfl, hme, Lib.hid ((Below.refl _ _).alloc (Nat.le_refl _) _)⟩
  case round =>
    obtain ⟨k, hk, rfl, HO, HB⟩ := hrel
    obtain ⟨A, c, rfl⟩ := own_slice HO.out
    by_cases hlt : k < q
    · have hb : Blk wr b 40 (u64n ws).toArray := HW.out.below HB.out HW.out.lt
      have hx : wr.cell? ⟨b, k, none⟩ = some (.int .u64 ((ws.getD k 0 : Nat) : Int)) := by
        rw [hb.cell, List.getElem?_toArray]
        exact u64n_at (by rw [HL.out]; exact hlt)
      have HVL := Lib.hid (getD_lt HLT.out k)
      have HS := Lib.hid (listK_succ ws k)
      have HLK := Lib.hid (listK_len ws k)
      obtain ⟨V, hV⟩ : ∃ V : Nat, V = ws.getD k 0 := ⟨_, rfl⟩
      rw [← hV] at hx HVL HS
      clear hV hb
      obtain ⟨wo, hwo⟩ : ∃ wo, wo = wr := ⟨_, rfl⟩
      rw [← hwo] at HO HB hx ⊢
      clear hwo
      go_wp2
      go_loopw [3, 5] (fun v x wr => ∃ (X t : Nat), x = .int .u64 X ∧ Hid (RestW V X t) ∧ Hid (wr.ownsRow w.heap.size 3 1 v ((listK ws k).length + (bitsL V t).length) (i64c (listK ws k ++ (bitsL V t).map fun (c : Nat) => ((64 * k + c : Nat) : Int)))) ∧ Hid (Below w.heap.size w wr)) (fun _ x _ => (intOf x).toNat)
      case atStart => exact ⟨V, 0, rfl, Lib.hid (RestW.start V), by simpa [bitsL] using HO, HB⟩
      case round =>
        obtain ⟨X, t, rfl, HR, HOi, HBi⟩ := hrel
        obtain ⟨A2, c2, rfl⟩ := own_slice HOi.out
        have hXl := HR.out.lt HVL.out
        by_cases hX : X = 0
        · subst hX
          have HD := Lib.hid (HR.out.done HVL.out)
          go_wp2
          go_roundw
          case rel =>
            refine ⟨k + 1, by omega, by go_num, ?_, HBi⟩
            rw [HS.out, HD.out, List.length_append, List.length_map]
            exact HOi
          case measure => simp [intOf]; omega
        · have gx : ((X : Int) != 0) = true := bne_iff_ne.2 (by omega)
          have gs : IntKind.u64.wrap ((X : Int) - 1) = ((X - 1 : Nat) : Int) := by
            rw [IntKind.wrap_u64]
            omega
          have ga : bits BinOp.and IntKind.u64 (X : Int) ((X - 1 : Nat) : Int) = ((X &&& (X - 1) : Nat) : Int) := u64_and_nat _ _ hXl (by omega)
          have HST := Lib.hid (HR.out.step hX hXl)
          have HZ : Hid (∀ W, Below w.heap.size w W → Calls Tryd.prog 59 #[.int .u64 X] W fun e w' => e = .returned (.int .i64 (Lib.ctz 64 X)) ∧ w' = W) := Lib.hid fun W hb => ltz_any X W hX hXl (HT.out.below hb)
          obtain ⟨m, hm⟩ : ∃ m, m = Lib.ctz 64 X := ⟨_, rfl⟩
          rw [← hm] at HZ HST
          have hmb : m < 64 := by rw [hm]; exact (ctz_spec X hX hXl).choose_spec.2
          have HLT2 := Lib.hid (low_lt X hX)
          have hbl := bitsL_len V t
          have ht := HR.out.1
          have hlk := HLK.out
          have g2 := mul64 (k := k) m
          obtain ⟨K, hK⟩ : ∃ K : Int, K = ((64 * k + m : Nat) : Int) := ⟨_, rfl⟩
          rw [← hK] at g2
          have HK := Lib.hid hK
          obtain ⟨Y, hY⟩ : ∃ Y : Nat, Y = X &&& (X - 1) := ⟨_, rfl⟩
          rw [← hY] at HST HLT2 ga
          clear hm hK hY hX hXl HR
          go_wp2_with (first
            | (go_at_call 59; refine (HZ.out _ HBi.out).mono ?_; rintro e w3 ⟨rfl, hw3⟩; rw [hw3]; clear hw3)
            | (at_builtin; refine app_int rfl (.tmp 23) (.tmp 29) rfl w.heap.size _ _ _ rfl (own_alloc HOi.out _) (wr.heap.size + 1) (some ⟨wr.heap.size, 0, none⟩) 1 1 [.int .i64 K] rfl (one_reads wr _ _ 1 rfl) (ints_oneCell .i64 [K]) (by omega) (by have := HBi.out.size; simp; omega) ?_; intro v' w4 hown hgr hor; have HO4 := Lib.hid hown; have HB4 : Hid (Below w.heap.size w w4) := Lib.hid ((HBi.out.alloc HBi.out.size _).grown hgr (by have := HBi.out.size; simp; omega) fun g hg => (own_block_le HOi.out hg).1); clear hown hgr hor))
          go_roundw
          case rel =>
            refine ⟨Y, m + 1, rfl, Lib.hid HST.out.1, ?_, HB4⟩
            have h := HO4.out
            rw [HST.out.2, List.length_append, List.map_append]
            rw [HK.out] at h
            simp only [List.length_singleton, List.map_cons, List.map_nil]
            rw [← List.append_assoc, i64c_append]
            exact Lib.hid h
          case measure =>
            have := HLT2.out
            simp [intOf]
            omega
    · obtain rfl : k = q := by omega
      go_wp2
      go_ret
      exact ⟨A, c, rfl, HO.out, HB.out⟩
end Go.Proofs.YtmfdaeicbaibeaaDoor
