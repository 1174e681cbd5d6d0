/-
  The walk through CodeWrites.
-/
import Derived.Test.YtklfppeecgkpnaaCopies
import Derived.Test.YtklfppeecgkpnaaRefBytes
import Derived.Test.YtklfppeecgkpnaaRefBnd
namespace Go.Proofs.Ytklfppeecgkpnaa
set_option linter.unusedVariables false
open Go.ChangeShapes Go.WideShapes Go.ChangeAt Go.RowKit

theorem conv_reads {w : World} {B n c : Nat} {A : Option Addr} {l : List Int} (h : Reads w B 1 A n (u8c l)) : (convert 22 9 (.slice A n c)).run Try.prog w = .ok (.string (strOfNums l)) w := by
  have hl : l.length = n := by have := h.1; rw [length_u8c] at this; omega
  rcases Nat.eq_zero_or_pos n with h0 | h0
  · subst h0
    have : l = [] := List.eq_nil_of_length_eq_zero hl
    subst this
    rw [show (strOfNums []) = ByteArray.empty from rfl]
    rcases A with _ | ad
    · exact run_convert_bytes_nil w 22 5 Try.underlying22 Try.underlying5 0 c 9 Try.underlying9
    · rw [run_convert_bytes_string w 22 9 5 _ 0 c Try.underlying22 Try.underlying5 Try.underlying9, run_bytesToString w ad 0 c [] rfl]
      rfl
  · obtain ⟨b, off, rfl, hb, hc⟩ := h.lit h0 (by omega)
    refine run_convert_bytes_arg w 22 5 Try.underlying22 Try.underlying5 b off n c l hl (fun i hi => ?_) 9 Try.underlying9
    have hil : i < l.length := by omega
    rw [hc i _ (u8c_at (List.getElem?_eq_getElem hil))]
    simp [List.getD, hil]
theorem own_form {w : World} {base n c : Nat} {A : Option Addr} {xs : List Value} (h : w.ownsRow base 5 1 (.slice A n c) n xs) : n ≤ c ∧ c ≤ maxLen ∧ (A = none → c = 0) := by
  rcases h.2 with ⟨e, h0⟩ | ⟨g, cap, cur, e, _, _, hnc, hcm, _⟩
  · injection e with e1 e2 e3
    exact ⟨by omega, by unfold maxLen; omega, fun _ => e3⟩
  · injection e with e1 e2 e3
    subst e1
    exact ⟨by omega, by omega, fun h => by cases h⟩

set_option maxRecDepth 100000 in
set_option maxHeartbeats 32000000 in
theorem writes_walk (A : Option Addr) (n c : Nat) (rs : List Raw) (w : World) (h : RdP w w.heap.size A n rs) :
    Calls Try.prog 4 #[.agg #[.slice A n c]] w fun e w' => e = .returned (.bool true) ∧ Below w.heap.size w w' := by
  have H := Lib.hid h
  have HB0 : Hid (Below w.heap.size w (w.alloc (.cells #[.slice A n c] 26))) := (Below.refl _ _).alloc (Nat.le_refl _) _
  have HX0 : Hid (Blk (w.alloc (.cells #[.slice A n c] 26)) w.heap.size 26 #[.slice A n c]) := Blk.new w _ _
  clear h
  go_enter Try.func4, Try.ntmps4
  go_wp2_with (go_at_call 9; refine (first_any _).mono ?_; rintro e w1 ⟨rfl, hb1⟩; refine Hid.out ?_)
  have hx1 := HX0.out.below hb1 HX0.out.lt
  have HX1 := Lib.hid hx1
  have HB1 := Lib.hid (HB0.out.trans (hb1.mono (by simp)))
  have HP1 := Lib.hid (H.out.below HB1.out)
  have x0 : w1.cell? ⟨w.heap.size, 0, none⟩ = some (.slice A n c) := hx1.cell 0
  have hz1 : w.heap.size + 1 ≤ w1.heap.size := HX1.out.lt
  clear hb1 hx1
  refine Lib.hid ?_
  go_wp2_with (go_at_call 15; refine (rcopy_any w.heap.size A n c rs _ HP1.out (by omega)).mono ?_; rintro e w2 ⟨A2, c2, rs2, rfl, hcp2⟩; refine Hid.out ?_)
  clear x0
  have hz2 : w1.heap.size ≤ w2.heap.size := hcp2.below.size
  have HX2 := Lib.hid ((HX1.out.below hcp2.below HX1.out.lt).alloc (.cells #[.slice A2 n c2] 26))
  have HB2 : Hid (Below w.heap.size w (w2.alloc (.cells #[.slice A2 n c2] 26))) := (HB1.out.trans (hcp2.below.mono (by omega))).alloc (by omega) _
  have HP2 := Lib.hid (H.out.below HB2.out)
  have HC2 := Lib.hid ((hcp2.rdP HP1.out).alloc (Nat.le_refl _) (.cells #[.slice A2 n c2] 26))
  have HE2 := Lib.hid hcp2.eq
  have HZ2 := Lib.hid (Blk.new w2 26 #[.slice A2 n c2])
  have hs2 : (w2.alloc (.cells #[.slice A2 n c2] 26)).heap.size = w2.heap.size + 1 := by simp
  have x0 : (w2.alloc (.cells #[.slice A2 n c2] 26)).cell? ⟨w.heap.size, 0, none⟩ = some (.slice A n c) := HX2.out.cell 0
  clear hcp2
  obtain ⟨fs, HFS⟩ : ∃ fs, Hid (fs = fns rs) := ⟨_, rfl⟩
  refine Lib.hid ?_
  go_wp2_with (go_at_call 13; refine (encode_any w.heap.size A n c rs _ HP2.out (by omega)).mono ?_; rintro e w3 ⟨A3, k3, c3, rfl, hk3, ho3, hb3⟩; refine Hid.out ?_)
  rw [← HFS.out] at hk3 ho3
  rw [← HFS.out]
  clear x0
  have hz3 : w2.heap.size + 1 ≤ w3.heap.size := by have := hb3.size; omega
  have HX3 := Lib.hid (HX2.out.below hb3 HX2.out.lt)
  have HZ3 := Lib.hid (HZ2.out.below hb3 HZ2.out.lt)
  have HB3 := Lib.hid (HB2.out.trans (hb3.mono (by omega)))
  have HC3 := Lib.hid (HC2.out.below (hb3.mono (by omega)))
  have HO3 := Lib.hid ho3
  have HK3 := Lib.hid hk3
  have x0 : w3.cell? ⟨w2.heap.size, 0, none⟩ = some (.slice A2 n c2) := HZ3.out.cell 0
  clear ho3 hk3 hb3
  refine Lib.hid ?_
  go_wp2_with (go_at_call 16; refine (bytes_any w2.heap.size A2 n c2 rs2 _ HC3.out (by omega)).mono ?_; rintro e w4 ⟨A4, k4, c4, rfl, hk4, ho4, hb4⟩; refine Hid.out ?_)
  rw [HE2.out, ← HFS.out] at hk4 ho4
  rw [HE2.out, ← HFS.out]
  clear x0
  have hz4 : w3.heap.size ≤ w4.heap.size := hb4.size
  have HX4 := Lib.hid (HX3.out.below hb4 HX3.out.lt)
  have HZ4 := Lib.hid (HZ3.out.below hb4 HZ3.out.lt)
  have HB4 := Lib.hid (HB3.out.trans (hb4.mono (by omega)))
  have HO34 := Lib.hid (own_under HO3.out hb4)
  have HO4 := Lib.hid ho4
  have HK4 := Lib.hid hk4
  have HP4 := Lib.hid ((H.out.below HB4.out).more (show w.heap.size ≤ w4.heap.size by omega))
  have HC4 := Lib.hid ((HC3.out.below (hb4.mono (by omega))).more (show w2.heap.size ≤ w4.heap.size by omega))
  have e0 : w4.cell? ⟨w.heap.size, 0, none⟩ = some (.slice A n c) := HX4.out.cell 0
  have e2 : w4.cell? ⟨w2.heap.size, 0, none⟩ = some (.slice A2 n c2) := HZ4.out.cell 0
  clear ho4 hk4 hb4 HX1 HB0 HX0 HB1 HP1 HX2 HB2 HP2 HC2 HZ2 HX3 HZ3 HB3 HC3 HO3
  have keepS : ∀ W W' : World, Below w4.heap.size w4 W → Below W.heap.size W W' → (W'.cell? ⟨w.heap.size, 0, none⟩ = some (.slice A n c) ∧ W'.cell? ⟨w2.heap.size, 0, none⟩ = some (.slice A2 n c2) ∧ Below w4.heap.size w4 W') := fun W W' h1 h2 => by
    have h3 : Below w4.heap.size w4 W' := h1.trans (h2.mono h1.size)
    exact ⟨(h3.cell (p := ⟨w.heap.size, 0, none⟩) (by show w.heap.size < _; omega)).trans e0, (h3.cell (p := ⟨w2.heap.size, 0, none⟩) (by show w2.heap.size < _; omega)).trans e2, h3⟩
  have HS1 : Hid (∀ W : World, (W.cell? ⟨w.heap.size, 0, none⟩ = some (.slice A n c) ∧ W.cell? ⟨w2.heap.size, 0, none⟩ = some (.slice A2 n c2) ∧ Below w4.heap.size w4 W) →
      Calls Try.prog 14 #[.agg #[.slice A n c], .agg #[.slice A2 n c2]] W fun e W' => e = .returned (.bool true) ∧ (W'.cell? ⟨w.heap.size, 0, none⟩ = some (.slice A n c) ∧ W'.cell? ⟨w2.heap.size, 0, none⟩ = some (.slice A2 n c2) ∧ Below w4.heap.size w4 W')) := fun W hS =>
    (rsame_any w4.heap.size A A2 n n c c2 rs rs2 W (HP4.out.below hS.2.2) (HC4.out.below hS.2.2) hS.2.2.size).mono fun e W' ⟨he, hb⟩ => ⟨by rw [he, HE2.out]; simp, keepS W W' hS.2.2 hb⟩
  have HS2 : Hid (∀ W : World, (W.cell? ⟨w.heap.size, 0, none⟩ = some (.slice A n c) ∧ W.cell? ⟨w2.heap.size, 0, none⟩ = some (.slice A2 n c2) ∧ Below w4.heap.size w4 W) →
      Calls Try.prog 17 #[.agg #[.slice A n c]] W fun e W' => e = .returned (.bool (bnd fs)) ∧ (W'.cell? ⟨w.heap.size, 0, none⟩ = some (.slice A n c) ∧ W'.cell? ⟨w2.heap.size, 0, none⟩ = some (.slice A2 n c2) ∧ Below w4.heap.size w4 W')) := fun W hS =>
    (bounded_any w4.heap.size A n c rs W (HP4.out.below hS.2.2) hS.2.2.size).mono fun e W' ⟨he, hb⟩ => ⟨by rw [he, HFS.out], keepS W W' hS.2.2 hb⟩
  have HS3 : Hid (∀ W : World, (W.cell? ⟨w.heap.size, 0, none⟩ = some (.slice A n c) ∧ W.cell? ⟨w2.heap.size, 0, none⟩ = some (.slice A2 n c2) ∧ Below w4.heap.size w4 W) →
      Calls Try.prog 12 #[.agg #[.slice A2 n c2]] W fun e W' => e = .returned (.bool (bnd fs)) ∧ (W'.cell? ⟨w.heap.size, 0, none⟩ = some (.slice A n c) ∧ W'.cell? ⟨w2.heap.size, 0, none⟩ = some (.slice A2 n c2) ∧ Below w4.heap.size w4 W')) := fun W hS =>
    (rbounded_any w4.heap.size A2 n c2 rs2 W (HC4.out.below hS.2.2) hS.2.2.size).mono fun e W' ⟨he, hb⟩ => ⟨by rw [he, HE2.out, HFS.out], keepS W W' hS.2.2 hb⟩
  obtain ⟨bq, HBQ⟩ : ∃ b, Hid (b = bnd fs) := ⟨_, rfl⟩
  rw [← HBQ.out] at HS2 HS3
  have hb44 : Below w4.heap.size w4 w4.drew := (Below.refl _ _).drew
  clear keepS
  refine Lib.hid ?_
  go_wp2
  go_region_held3 (fun W => W.cell? ⟨w.heap.size, 0, none⟩ = some (.slice A n c) ∧ W.cell? ⟨w2.heap.size, 0, none⟩ = some (.slice A2 n c2) ∧ Below w4.heap.size w4 W)
    ((first | assumption | (refine ⟨?_, ?_, ?_⟩ <;> assumption)))
    (first
      | (go_at_call 14; with_reducible refine (HS1.out _ (by first | assumption | (refine ⟨?_, ?_, ?_⟩ <;> assumption))).mono ?_; rintro e W' ⟨rfl, hS⟩)
      | (go_at_call 17; with_reducible refine (HS2.out _ (by first | assumption | (refine ⟨?_, ?_, ?_⟩ <;> assumption))).mono ?_; rintro e W' ⟨rfl, hS⟩)
      | (go_at_call 12; with_reducible refine (HS3.out _ (by first | assumption | (refine ⟨?_, ?_, ?_⟩ <;> assumption))).mono ?_; rintro e W' ⟨rfl, hS⟩))
  obtain ⟨g0, g2, hW⟩ := hS
  have HBW : Hid (Below w.heap.size w W') := HB4.out.trans (hW.mono (by omega))
  have HO3W := Lib.hid (own_under HO34.out hW)
  have HO4W := Lib.hid (own_under HO4.out hW)
  have HCW := Lib.hid (HC4.out.below hW)
  have HZW := Lib.hid (HZ4.out.below hW HZ4.out.lt)
  have hzW : w4.heap.size ≤ W'.heap.size := hW.size
  clear hW e0 e2 hb44 HS1 HS2 HS3 g0 HX4 HZ4 HB4 HO34 HO4 HP4 HC4
  cases hok : okP fs with
  | false =>
    have hq : encA fs = ([], 30) := by unfold encA; rw [hok]; rfl
    obtain rfl : k3 = 0 := by have := HK3.out; rw [hq] at this; exact this.symm
    rw [hq]
    clear hq hok
    refine Lib.hid ?_
    go_wp2
    go_ret
    exact ⟨rfl, HBW.out⟩
  | true =>
    have hq : encA fs = (enc fs, 0) := by unfold encA; rw [hok]; rfl
    rw [hq] at HK3 HK4 HO3W HO4W
    simp only at HK3 HK4 HO3W HO4W
    rw [hq]
    obtain ⟨L, HL⟩ : ∃ L, Hid (L = enc fs) := ⟨_, rfl⟩
    rw [← HL.out] at HK3 HK4 HO3W HO4W
    have HLB : Hid (Byt L) := Lib.hid (by rw [HL.out]; exact byt_enc hok)
    have HDA : Hid (decA L = if bq then (fs, 0) else ([], 31)) := Lib.hid (by rw [HL.out, decA_some (parse_enc hok), HBQ.out])
    obtain ⟨f1, f2, f3⟩ := own_form HO3W.out
    have F3 := Lib.hid f3
    have HR3 := Lib.hid (Reads.of_own HO3W.out)
    clear hq hok f3
    refine Lib.hid ?_
    go_wp2_with (go_at_call 10; refine (decode_any W'.heap.size A3 k3 c3 L _ HR3.out HK3.out HLB.out (Nat.le_refl _) f1 f2 F3.out).mono ?_; rintro e w6 ⟨rs6, k6, A6, c6, hfn6, rfl, hrp6, hb6⟩; refine Hid.out ?_)
    have hz6 : W'.heap.size ≤ w6.heap.size := hb6.size
    have HB6 : Hid (Below w.heap.size w (w6.alloc (.cells #[.slice A6 k6 c6] 26))) := (HBW.out.trans (hb6.mono (by omega))).alloc (by omega) _
    have HC6 := Lib.hid ((HCW.out.below (hb6.mono (by omega))).alloc (by omega) (.cells #[.slice A6 k6 c6] 26))
    have HQ6 := Lib.hid (hrp6.alloc (Nat.le_refl _) (.cells #[.slice A6 k6 c6] 26))
    have HZ6 := Lib.hid ((HZW.out.below hb6 HZW.out.lt).alloc (.cells #[.slice A6 k6 c6] 26))
    have HV6 := Lib.hid (Blk.new w6 26 #[.slice A6 k6 c6])
    have HFN6 := Lib.hid hfn6
    obtain ⟨S, HS⟩ : ∃ S, Hid (S = strOfNums L) := ⟨_, rfl⟩
    have hcv1 : (convert 22 9 (.slice A3 k3 c3)).run Try.prog (w6.alloc (.cells #[.slice A6 k6 c6] 26)) = .ok (.string S) (w6.alloc (.cells #[.slice A6 k6 c6] 26)) := by
      rw [HS.out]; exact conv_reads (own_alloc' (own_under HO3W.out hb6) _ |> Reads.of_own)
    have hcv2 : (convert 22 9 (.slice A4 k4 c4)).run Try.prog (w6.alloc (.cells #[.slice A6 k6 c6] 26)) = .ok (.string S) (w6.alloc (.cells #[.slice A6 k6 c6] 26)) := by
      rw [HS.out]; exact conv_reads (own_alloc' (own_under HO4W.out hb6) _ |> Reads.of_own)
    have d2 : (w6.alloc (.cells #[.slice A6 k6 c6] 26)).cell? ⟨w2.heap.size, 0, none⟩ = some (.slice A2 n c2) := HZ6.out.cell 0
    have hs6 : (w6.alloc (.cells #[.slice A6 k6 c6] 26)).heap.size = w6.heap.size + 1 := by simp
    clear hfn6 hrp6 hb6 g2
    cases bq with
    | false =>
      have hd : (decA L).2 = 31 := by rw [HDA.out]; rfl
      have HBF : Hid (bnd (fns rs2) = false) := Lib.hid (by rw [HE2.out, ← HFS.out, ← HBQ.out])
      rw [hd]
      clear hd
      refine Lib.hid ?_
      go_wp2_with (go_at_call 12; refine (rbounded_any w4.heap.size A2 n c2 rs2 _ HC6.out (by omega)).mono ?_; rintro e w7 ⟨rfl, hb7⟩; rw [HBF.out]; refine Hid.out ?_)
      have HB7 := Lib.hid (HB6.out.trans (hb7.mono (by omega)))
      clear hb7 hcv1 hcv2
      refine Lib.hid ?_
      go_wp2
      go_ret
      exact ⟨rfl, HB7.out⟩
    | true =>
      have hd : decA L = (fs, 0) := by rw [HDA.out]; rfl
      have HBF : Hid (bnd (fns rs2) = true) := Lib.hid (by rw [HE2.out, ← HFS.out, ← HBQ.out])
      have HSE : Hid (decide (fns rs6 = fns rs2) = true) := Lib.hid (by rw [HFN6.out, hd, HE2.out, HFS.out]; simp)
      rw [hd]
      clear hd
      refine Lib.hid ?_
      go_wp2_with (go_at_call 12; refine (rbounded_any w4.heap.size A2 n c2 rs2 _ HC6.out (by omega)).mono ?_; rintro e w7 ⟨rfl, hb7⟩; rw [HBF.out]; refine Hid.out ?_)
      have HB7 := Lib.hid (HB6.out.trans (hb7.mono (by omega)))
      have HC7 := Lib.hid ((HC6.out.below (hb7.mono (by omega))).more (show w4.heap.size ≤ w7.heap.size by have := hb7.size; omega))
      have HQ7 := Lib.hid ((HQ6.out.below (hb7.mono (by omega))).more (show w6.heap.size ≤ w7.heap.size by have := hb7.size; omega))
      have d3 : w7.cell? ⟨w2.heap.size, 0, none⟩ = some (.slice A2 n c2) := (HZ6.out.below hb7 HZ6.out.lt).cell 0
      have d4 : w7.cell? ⟨w6.heap.size, 0, none⟩ = some (.slice A6 k6 c6) := (HV6.out.below hb7 HV6.out.lt).cell 0
      clear hb7 hcv1 hcv2 d2
      refine Lib.hid ?_
      go_wp2_with (go_at_call 14; refine (rsame_any w7.heap.size A6 A2 k6 n c6 c2 rs6 rs2 _ HQ7.out HC7.out (Nat.le_refl _)).mono ?_; rintro e w8 ⟨rfl, hb8⟩; rw [HSE.out]; refine Hid.out ?_)
      have HB8 := Lib.hid (HB7.out.trans (hb8.mono HB7.out.size))
      clear hb8
      refine Lib.hid ?_
      go_wp2
      go_ret
      exact ⟨rfl, HB8.out⟩
end Go.Proofs.Ytklfppeecgkpnaa
