/-
  Package bits, any sets: Or.
-/
import Derived.Test.YtmfdaeicbaibeaaDoorLList
namespace Go.Proofs.YtmfdaeicbaibeaaDoor
set_option linter.unusedVariables false
set_option linter.unusedSimpArgs false
open Go.ChangeShapes Go.WideShapes Go.ChangeAt Go.RowKit

/-- one block may have turned -/
structure KpB (w w' : World) (b : Nat) : Prop where
  os : w'.os = w.os
  tape : w'.tape = w.tape
  output : w'.output = w.output
  size : w.heap.size ≤ w'.heap.size
  block : ∀ i, i < w.heap.size → i ≠ b → w'.heap[i]? = w.heap[i]?
theorem KpB.refl (w : World) (b : Nat) : KpB w w b := ⟨rfl, rfl, rfl, Nat.le_refl _, fun _ _ _ => rfl⟩
theorem KpB.drewN {w w' : World} {b : Nat} (h : KpB w w' b) (n : Nat) : KpB w (w'.drewN n) b := ⟨h.os, h.tape, h.output, h.size, h.block⟩
theorem KpB.set {w w' : World} {b : Nat} (h : KpB w w' b) (k : Nat) (u : Value) : KpB w (w'.setCell ⟨b, k, none⟩ u) b :=
  ⟨h.os, h.tape, h.output, by simpa [World.setCell] using h.size, fun i hi hne => (Below.heap_setCell w' ⟨b, k, none⟩ u i hne).trans (h.block i hi hne)⟩
theorem KpB.blk {w w' : World} {b g : Nat} {t : TypeId} {cs : Array Value} (h : KpB w w' b) (hb : Blk w g t cs) (hne : g ≠ b) : Blk w' g t cs := (h.block g hb.lt hne).trans hb
theorem KpB.out {w w' : World} {b : Nat} (h : KpB w w' b) (B : Nat) (hB : B ≤ w.heap.size) (hb : B ≤ b) : Below B w w' := ⟨h.os, h.tape, h.output, h.size, fun i hi => h.block i (by omega) (by omega)⟩
theorem shl_below (s : Nat) (h : s ≤ 64) : IntKind.u64.wrap (IntKind.u64.wrap ((2 : Int) ^ s) - 1) = ((2 ^ s - 1 : Nat) : Int) := by
  rw [pow_int, wrap_u64_eq, wrap_u64_eq]
  have hp : 0 < 2 ^ s := Nat.pow_pos (by decide)
  have hle : 2 ^ s ≤ 2 ^ 64 := Nat.pow_le_pow_right (by decide) h
  by_cases e : s = 64
  · subst e
    decide
  · have hlt : 2 ^ s < 2 ^ 64 := Nat.pow_lt_pow_right (by decide) (by omega)
    omega
theorem below_any (p k m : Nat) (s : Nat) (w : World) (h0 : w.cell? ⟨p, 0, none⟩ = some (.int .i64 m)) (hk : 64 * k < m) (hm : m ≤ 1024) (hs : s = min (m - 64 * k) 64) : Calls Tryd.prog 67 #[.pointer (some ⟨p, 0, none⟩), .int .i64 k] w fun e w' => e = .returned (.int .u64 ((2 ^ s - 1 : Nat) : Int)) ∧ w' = w := by
  have hsb := shl_below s (by omega)
  have hms : min (m - 64 * k) 64 = s := hs.symm
  obtain ⟨c, hc⟩ : ∃ c : Nat, c = m - 64 * k := ⟨_, rfl⟩
  rw [← hc] at hms
  have g1 : (m : Int) - (k : Int) * 64 = (c : Int) := by omega
  have g0 : decide ((c : Int) < 0) = false := by simp
  clear hs hc
  go_enter Tryd.func67, Tryd.ntmps67
  go_wp2
  go_ret
  refine ⟨?_, rfl⟩
  simp [hms]
  try exact hsb
theorem shared_any (p1 b1 p2 b2 q : Nat) (w : World) (h1 : w.cell? ⟨p1, 1, none⟩ = some (.slice (some ⟨b1, 0, none⟩) q q)) (h2 : w.cell? ⟨p2, 1, none⟩ = some (.slice (some ⟨b2, 0, none⟩) q q)) (hq : q ≤ 16) :
    Calls Tryd.prog 66 #[.pointer (some ⟨p1, 0, none⟩), .pointer (some ⟨p2, 0, none⟩)] w fun e w' => e = .returned (.slice (some ⟨b2, 0, none⟩) q q) ∧ w' = w := by
  have HA := Lib.hid (lall_some p1 _ _ _ w h1)
  have HB := Lib.hid (lall_some p2 _ _ _ w h2)
  clear h1 h2
  go_enter Tryd.func66, Tryd.ntmps66
  go_wp2_with (first
    | (go_at_call 58; with_reducible refine HA.out.mono ?_; rintro e w1 ⟨rfl, hw1⟩; rw [hw1]; clear hw1)
    | (go_at_call 58; with_reducible refine HB.out.mono ?_; rintro e w1 ⟨rfl, hw1⟩; rw [hw1]; clear hw1))
  go_ret
  exact ⟨rfl, rfl⟩
set_option maxRecDepth 100000 in
set_option maxHeartbeats 1600000 in
theorem lor_any (p1 b1 p2 b2 m q : Nat) (ws vs : List Nat) (w : World) (hp1 : Blk w p1 117 #[.int .i64 m, .slice (some ⟨b1, 0, none⟩) q q]) (hw1 : Blk w b1 40 (u64n ws).toArray) (hp2 : Blk w p2 117 #[.int .i64 m, .slice (some ⟨b2, 0, none⟩) q q]) (hw2 : Blk w b2 40 (u64n vs).toArray)
    (hl1 : ws.length = q) (hl2 : vs.length = q) (hlt1 : ∀ x ∈ ws, x < 18446744073709551616) (hlt2 : ∀ x ∈ vs, x < 18446744073709551616) (hm : m ≤ 1024) (hq : q = (m + 63) / 64) (hmost : ∀ j, hasW vs j = true → j < m) (hne : b2 ≠ b1) :
    Calls Tryd.prog 45 #[.pointer (some ⟨p1, 0, none⟩), .pointer (some ⟨p2, 0, none⟩)] w fun e w' => (∃ bo, e = .returned (.bool bo)) ∧ Blk w' b1 40 (u64n (orK ws vs q)).toArray ∧ KpB w w' b1 := by
  have HSH := Lib.hid (shared_any p1 b1 p2 b2 q w (hp1.cell 1) (hp2.cell 1) (by omega))
  have HP1 := Lib.hid hp1
  have HW1 := Lib.hid hw1
  have HW2 := Lib.hid hw2
  have HL1 := Lib.hid hl1
  have HL2 := Lib.hid hl2
  have HLT1 := Lib.hid hlt1
  have HLT2 := Lib.hid hlt2
  have HM := Lib.hid hmost
  have HQ := Lib.hid hq
  have HPB : Hid (p1 ≠ b1) := Lib.hid (Blk.ne_ hp1 hw1 (by decide))
  have HNE := Lib.hid hne
  have hq16 : q ≤ 16 := by omega
  clear hp1 hw1 hp2 hw2 hl1 hl2 hlt1 hlt2 hmost hq hne
  go_enter Tryd.func45, Tryd.ntmps45
  go_wp2_with (go_at_call 66; refine HSH.out.mono ?_; rintro e w1 ⟨rfl, hw1⟩; rw [hw1]; clear hw1)
  go_loopw [5, 13] (fun v i wr => ∃ (k : Nat) (bo : Bool), k ≤ q ∧ v = .bool bo ∧ i = .int .i64 k ∧ Hid (Blk wr b1 40 (u64n (orK ws vs k)).toArray) ∧ Hid (KpB w wr b1)) (fun _ i _ => q - (intOf i).toNat)
  case atStart => exact ⟨0, false, by omega, rfl, rfl, by rw [orK_zero]; exact HW1, Lib.hid (KpB.refl w b1)⟩
  case round =>
    obtain ⟨k, bo, hk, rfl, rfl, HW, HK⟩ := hrel
    by_cases hlt : k < q
    · have hkm : 64 * k < m := by have := HQ.out; omega
      obtain ⟨T, hT⟩ : ∃ T : Nat, T = vs.getD k 0 := ⟨_, rfl⟩
      obtain ⟨X, hX⟩ : ∃ X : Nat, X = ws.getD k 0 := ⟨_, rfl⟩
      have hTl : T < 18446744073709551616 := by rw [hT]; exact getD_lt HLT2.out k
      have hXl : X < 18446744073709551616 := by rw [hX]; exact getD_lt HLT1.out k
      have hXk : (orK ws vs k).getD k 0 = X := by rw [orK_at, if_neg (fun h => by omega), hX]
      have x2 : wr.cell? ⟨b2, k, none⟩ = some (.int .u64 T) := by
        rw [(HK.out.blk HW2.out HNE.out).cell, List.getElem?_toArray, hT]
        exact u64n_at (by rw [HL2.out]; exact hlt)
      have x1 : wr.cell? ⟨b1, k, none⟩ = some (.int .u64 X) := by
        rw [HW.out.cell, List.getElem?_toArray, ← hXk]
        exact u64n_at (by rw [orK_len, HL1.out]; exact hlt)
      have c0 : wr.cell? ⟨p1, 1, none⟩ = some (.slice (some ⟨b1, 0, none⟩) q q) := (HK.out.blk HP1.out HPB.out).cell 1
      have c9 : wr.cell? ⟨p1, 0, none⟩ = some (.int .i64 m) := (HK.out.blk HP1.out HPB.out).cell 0
      have f1 : wr.frozen? ⟨b1, k, none⟩ = false := HW.out.frozen k
      obtain ⟨s, hs⟩ : ∃ s, s = min (m - 64 * k) 64 := ⟨_, rfl⟩
      have HBE := Lib.hid (fun W (h : W.cell? ⟨p1, 0, none⟩ = some (.int .i64 m)) => below_any p1 k m s W h hkm hm hs)
      obtain ⟨D, hD⟩ : ∃ D : Nat, D = 2 ^ s - 1 := ⟨_, rfl⟩
      rw [← hD] at HBE
      have hDl : D < 18446744073709551616 := by
        have : 2 ^ s ≤ 2 ^ 64 := Nat.pow_le_pow_right (by decide) (by omega)
        omega
      obtain ⟨Y, hY⟩ : ∃ Y : Nat, Y = T &&& (18446744073709551615 - X) := ⟨_, rfl⟩
      have hYl : Y < 18446744073709551616 := by rw [hY]; exact Nat.lt_of_le_of_lt Nat.and_le_left hTl
      have ga : bits BinOp.andNot IntKind.u64 (T : Int) (X : Int) = (Y : Int) := by rw [u64_andNot_nat _ _ hTl hXl, hY]
      obtain ⟨Z, hZ⟩ : ∃ Z : Nat, Z = Y &&& D := ⟨_, rfl⟩
      have hZl : Z < 18446744073709551616 := by rw [hZ]; exact Nat.lt_of_le_of_lt Nat.and_le_left hYl
      have gb : bits BinOp.and IntKind.u64 (Y : Int) (D : Int) = (Z : Int) := by rw [u64_and_nat _ _ hYl hDl, hZ]
      obtain ⟨V, hV⟩ : ∃ V : Nat, V = X ||| T := ⟨_, rfl⟩
      have gor : bits BinOp.or IntKind.u64 (X : Int) (Z : Int) = (V : Int) := by
        rw [u64_or_nat _ _ hXl hZl, hZ, hY, hD, or_added X T s hXl hTl (fun i hi => ?_) (by omega), hV]
        have hi64 : i < 64 := by
          rcases Nat.lt_or_ge i 64 with h | h
          · exact h
          · rw [Nat.testBit_lt_two_pow (Nat.lt_of_lt_of_le (show T < 2 ^ 64 from hTl) (Nat.pow_le_pow_right (by decide) h))] at hi
            cases hi
        have h2 := HM.out (64 * k + i) (by
          unfold hasW
          rw [show (64 * k + i) / 64 = k by omega, show (64 * k + i) % 64 = i by omega, ← hT]
          exact hi)
        omega
      obtain ⟨rz, hrz⟩ : ∃ rz : Bool, ((Z : Int) != 0) = rz := ⟨_, rfl⟩
      have HSTEP : Hid (u64n (orK ws vs (k + 1)) = (u64n (orK ws vs k)).set k (.int .u64 (V : Int))) := Lib.hid (by
        rw [orK_succ ws vs k (by rw [HL1.out]; exact hlt), u64n_set, ← hT, ← hX, ← hV])
      clear hT hX hTl hXl hXk hkm hs hD hDl hY hYl hZ hZl hV
      cases bo
      · go_wp2
        go_quiet ((go_at_call 67; exact Calls.quiet_of_same (HBE.out _ c9)))
        go_wp2
        go_roundw
        case rel =>
          refine ⟨k + 1, rz, by omega, rfl, by go_num, ?_, Lib.hid ((HK.out.drewN nq).set k _)⟩
          have h1 := (HW.out.drewN nq).set_ k (.int .u64 (V : Int))
          rw [List.setIfInBounds_toArray, ← HSTEP.out] at h1
          exact Lib.hid h1
        case measure => simp [intOf]; omega
      · go_wp2
        go_quiet ((go_at_call 67; exact Calls.quiet_of_same (HBE.out _ c9)))
        go_wp2
        go_roundw
        case rel =>
          refine ⟨k + 1, true, by omega, rfl, by go_num, ?_, Lib.hid ((HK.out.drewN nq).set k _)⟩
          have h1 := (HW.out.drewN nq).set_ k (.int .u64 (V : Int))
          rw [List.setIfInBounds_toArray, ← HSTEP.out] at h1
          exact Lib.hid h1
        case measure => simp [intOf]; omega
    · have hkq : k = q := by omega
      rw [hkq] at HW
      go_wp2
      go_ret
      exact ⟨⟨bo, rfl⟩, HW.out, HK.out⟩
end Go.Proofs.YtmfdaeicbaibeaaDoor
