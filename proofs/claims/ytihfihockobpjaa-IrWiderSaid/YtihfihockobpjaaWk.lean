/-
  The walk through IrWider.
-/
import Derived.Test.YtihfihockobpjaaWj
import Derived.Test.YtihfihockobpjaaSh
namespace Go.Proofs.Ytihfihockobpjaa
set_option linter.unusedVariables false
set_option linter.unusedSimpArgs false
open Go.ChangeShapes Go.WideShapes Go.ChangeAt Go.RowKit

set_option maxRecDepth 100000 in
set_option maxHeartbeats 12800000 in
theorem wider_walk (A : Option Addr) (n c : Nat) (rs : List RG) (x : Int) (w : World) (h : RdP w w.heap.size A n rs) :
    Calls Try.prog 6 #[.agg #[.slice A n c], .int .i64 x] w fun e w' => e = .returned (.bool true) ∧ Below w.heap.size w w' := by
  have hsz := h.sz
  have H := Lib.hid h
  obtain ⟨kk, HKK, hkk⟩ : ∃ kk : Nat, Hid (wrap64 ((IntKind.u64.wrap x).tmod 20) = (kk : Int)) ∧ kk ≤ 19 := by
    refine ⟨(x % 18446744073709551616 % 20).toNat, Lib.hid ?_, by omega⟩
    rw [IntKind.wrap_u64, Int.tmod_eq_emod_of_nonneg (Int.emod_nonneg _ (by decide)), IntWalk.wrap64_in _ (by omega)]
    omega
  have HB0 : Hid (Below w.heap.size w (w.alloc (.cells #[.slice A n c] 24))) := (Below.refl _ _).alloc (Nat.le_refl _) _
  have HX0 : Hid (Blk (w.alloc (.cells #[.slice A n c] 24)) w.heap.size 24 #[.slice A n c]) := Blk.new w _ _
  clear h
  go_enter Try.func6, Try.ntmps6
  go_wp2_with (go_at_call 7; refine (first_any _).mono ?_; rintro e w1 ⟨rfl, hb1⟩; refine Hid.out ?_)
  have hx1 := HX0.out.below hb1 HX0.out.lt
  have HX1 := Lib.hid hx1
  have HB1 := Lib.hid (HB0.out.trans (hb1.mono (by simp)))
  have HP1 := Lib.hid (H.out.below HB1.out)
  have x0 : w1.cell? ⟨w.heap.size, 0, none⟩ = some (.slice A n c) := hx1.cell 0
  have hz1 : w.heap.size < w1.heap.size := hx1.lt
  have HCK := Lib.hid (check_any w.heap.size A n c rs false w1 HP1.out (by omega))
  clear hb1 hx1
  refine Lib.hid ?_
  by_cases hv : valid (grs rs) false
  rotate_left
  · rw [if_neg hv] at HCK
    clear hv
    go_wp2_with (go_at_call 9; refine HCK.out.mono ?_; rintro e w2 ⟨rfl, hb2⟩; have HB2 := Lib.hid (HB1.out.trans (hb2.mono (by omega))); clear hb2)
    go_ret
    exact ⟨rfl, HB2.out⟩
  rw [if_pos hv] at HCK
  have HV := Lib.hid hv
  clear hv
  by_cases hn : 15 < n
  · have g15 : decide ((n : Int) > 15) = true := by simp; omega
    go_wp2_with (go_at_call 9; refine HCK.out.mono ?_; rintro e w2 ⟨rfl, hb2⟩; have HB2 := Lib.hid (HB1.out.trans (hb2.mono (by omega))); have x2 : w2.cell? ⟨w.heap.size, 0, none⟩ = some (.slice A n c) := (HX1.out.below hb2 HX1.out.lt).cell 0; clear hb2)
    go_ret
    exact ⟨rfl, HB2.out⟩
  have g15 : decide ((n : Int) > 15) = false := by simp; omega
  have hn15 : n ≤ 15 := by omega
  clear hn
  go_wp2_with (first
    | (go_at_call 9; refine HCK.out.mono ?_; rintro e w2 ⟨rfl, hb2⟩; have HX2 := Lib.hid (HX1.out.below hb2 HX1.out.lt); have HB2 := Lib.hid (HB1.out.trans (hb2.mono (by omega))); have x2 : w2.cell? ⟨w.heap.size, 0, none⟩ = some (.slice A n c) := HX2.out.cell 0; have hz2 : w.heap.size < w2.heap.size := HX2.out.lt; clear hb2)
    | (go_at_call 19; refine (copy_any w.heap.size A n c rs _ (H.out.below HB2.out) (by omega)).mono ?_; rintro e w3 ⟨A3, c3, rs3, rfl, hcp3⟩; refine Hid.out ?_))
  have hz3 : w2.heap.size ≤ w3.heap.size := hcp3.below.size
  have HWF3 : Hid (∀ r ∈ rs3, WfG r.gr) := Lib.hid fun r hr => by
    have : r.gr ∈ grs rs := by rw [← hcp3.eq]; exact List.mem_map_of_mem hr
    obtain ⟨r0, h1, h2⟩ := List.mem_map.1 this
    rw [← h2]
    exact H.out.wf r0 h1
  have HWI0 : Hid (WI w2 w2.heap.size w.heap.size w3.heap.size n c A A3 c3 (grs rs) rs3 (w3.alloc (.cells #[.slice A3 n c3] 24))) := Lib.hid ⟨own_alloc hcp3.own _, fun r hr => (hcp3.each r hr).alloc _, hcp3.sep, by
      rw [hcp3.eq]
      refine ⟨rfl, fun j a b ha hb => ?_⟩
      rw [ha] at hb
      injection hb with hb
      subst hb
      have hh := HV.out.2.2.1 a (List.mem_of_getElem? ha)
      exact Wide.refl hh.1.1 hh.2.2.1, HWF3.out, (HX2.out.below hcp3.below HX2.out.lt).alloc _, Blk.new w3 _ _, hcp3.below.alloc hcp3.below.size _, Nat.le_refl _⟩
  have HLEN : Hid (rs3.length = n) := Lib.hid (by rw [← length_grs, hcp3.eq, length_grs, H.out.len])
  clear hcp3 x0 x2
  refine Lib.hid ?_
  go_wp2
  rw [HKK.out]
  obtain ⟨v3, hv3⟩ : ∃ W, W = (w3.alloc (.cells #[.slice A3 n c3] 24)) := ⟨_, rfl⟩
  rw [← hv3] at HWI0 ⊢
  clear hv3
  go_loopw [30] (fun i wr => ∃ (k : Nat) (rs2 : List RG), k ≤ n ∧ i = .int .i64 k ∧ Hid (rs2.length = n) ∧ Hid (WI w2 w2.heap.size w.heap.size w3.heap.size n c A A3 c3 (grs rs) rs2 wr)) (fun i _ => n - (intOf i).toNat)
  case atStart => exact ⟨0, rs3, Nat.zero_le _, rfl, HLEN, HWI0⟩
  case round =>
    clear HWI0 HLEN
    obtain ⟨k, rs2, hk, rfl, HLEN, HI⟩ := hrel
    have hbz := HI.out.below.size
    by_cases hlt : k < n
    · obtain ⟨r0, hr0⟩ : ∃ r, rs2[k]? = some r := ⟨_, List.getElem?_eq_getElem (by rw [HLEN.out]; exact hlt)⟩
      obtain ⟨g, hA3, hgb, hgl, y1, y1f⟩ := own_at HI.out.own (rgc_at hr0).1
      have HA3 := Lib.hid hA3
      have d0 : wr.cell? ⟨w3.heap.size, 0, none⟩ = some (.slice A3 n c3) := HI.out.bC.cell 0
      rw [hA3] at d0
      clear y1 y1f hr0 hA3
      go_wp2
      obtain ⟨wo, rfl⟩ : ∃ wo : World, wo = wr := ⟨_, rfl⟩
      clear d0
      go_loopw [9] (fun i wr => ∃ (t : Nat) (rs2 : List RG), t ≤ kk ∧ i = .int .i64 t ∧ Hid (rs2.length = n) ∧ Hid (WI w2 w2.heap.size w.heap.size w3.heap.size n c A A3 c3 (grs rs) rs2 wr)) (fun i _ => kk - (intOf i).toNat)
      case atStart => exact ⟨0, rs2, Nat.zero_le _, rfl, HLEN, HI⟩
      case round =>
        clear HI HLEN
        obtain ⟨t, rs2, ht, rfl, HLEN, HI⟩ := hrel
        have hbz := HI.out.below.size
        obtain ⟨r, hr⟩ : ∃ r, rs2[k]? = some r := ⟨_, List.getElem?_eq_getElem (by rw [HLEN.out]; exact hlt)⟩
        have HR := Lib.hid hr
        obtain ⟨g1, hA31, hgb1, hgl1, y1, y1f⟩ := own_at HI.out.own (rgc_at hr).2.1
        obtain ⟨g2, hA32, _, _, y2, y2f⟩ := own_at HI.out.own (rgc_at hr).2.2.1
        rw [HA3.out] at hA31 hA32
        obtain rfl : g = g1 := by injection hA31 with h; injection h
        obtain rfl : g = g2 := by injection hA32 with h; injection h
        obtain ⟨a, ha, hw⟩ := HI.out.wideAt hr
        have HW := Lib.hid hw
        have hkl := hw.kl
        have hc0 : 0 ≤ r.gr.cells := Int.le_trans (HV.out.2.2.1 a (List.mem_of_getElem? ha)).2.1 hw.c0
        have hc1 := hw.c1
        obtain ⟨nk, hnk⟩ : ∃ x, x = r.gr.kinds.length := ⟨_, rfl⟩
        rw [← hnk] at y1 hkl
        have HNK := Lib.hid hnk
        obtain ⟨cs, hcs⟩ : ∃ x, x = r.gr.cells := ⟨_, rfl⟩
        rw [← hcs] at y2 hc0 hc1
        have HCS := Lib.hid hcs
        clear hA31 hA32 hr ha hw hnk hcs
        by_cases htk : t < kk
        · by_cases hnk : nk < 1024
          · obtain ⟨z, hz, hz01⟩ : ∃ z : Int, (t : Int).tmod 2 = z ∧ (z = 0 ∨ z = 1) := ⟨_, rfl, by rw [Int.tmod_eq_emod_of_nonneg (by omega)]; omega⟩
            have hz0 : 0 ≤ z := by omega
            have hz1 : z ≤ 1 := by omega
            have HOWN : Hid ((wr.alloc (.cells #[.int .u8 z] 46)).ownsRow w2.heap.size 46 1 (.slice r.ko nk r.kc) nk (u8c r.gr.kinds)) := Lib.hid (by rw [HNK.out]; exact own_alloc (HI.out.each r (List.mem_of_getElem? HR.out)).kinds _)
            have HRD : Hid (Reads (wr.alloc (.cells #[.int .u8 z] 46)) (wr.heap.size + 1) 1 (some ⟨wr.heap.size, 0, none⟩) 1 [.int .u8 z]) := Lib.hid (one_reads wr 46 [.int .u8 z] 1 rfl)
            have hs2 : w2.heap.size ≤ (wr.alloc (.cells #[.int .u8 z] 46)).heap.size := by simp; omega
            go_wp2_with (at_builtin; refine app_kind rfl _ _ rfl w2.heap.size (.slice r.ko nk r.kc) nk (u8c r.gr.kinds) rfl HOWN.out (wr.heap.size + 1) (some ⟨wr.heap.size, 0, none⟩) 1 1 [.int .u8 z] rfl HRD.out (u8c_one [z]) (by omega) hs2 ?_; intro v4 w4 hown hgr hor; refine Hid.out ?_)
            have key := HI.out.kind (.cells #[.int .u8 z] 46) HA3.out HR.out (by rw [← HNK.out]; exact hnk) hz01 (by rw [← HNK.out]; exact hown) (by rw [← HNK.out]; exact hgr) (by rw [← HNK.out]; exact hor)
            rw [← HNK.out] at key
            obtain ⟨A4, c4, rfl, e4, f4, hI4⟩ := key
            have HI4 := Lib.hid hI4
            clear hown hgr hor hI4 y1 y2
            refine Lib.hid ?_
            go_wp2
            go_roundw
            case rel => exact ⟨t + 1, rs2.set k ⟨{ r.gr with kinds := r.gr.kinds ++ [z] }, r.po, r.pc, A4, c4, r.io, r.ic, r.no, r.nc, r.ns⟩, by omega, by go_num, Lib.hid (by rw [List.length_set]; exact HLEN.out), HI4⟩
            case measure => simp [intOf]; omega
          · have hnk2 : nk = 1024 := by omega
            subst hnk2
            clear hnk
            have HZC : Hid (r.gr.cells ≤ (if cs + (kk : Int) < 64 then cs + (kk : Int) else 64)) := Lib.hid (by rw [← HCS.out]; split <;> omega)
            have HZD : Hid ((if cs + (kk : Int) < 64 then cs + (kk : Int) else 64) ≤ 64) := Lib.hid (by split <;> omega)
            have HI5 := Lib.hid (HI.out.cell HA3.out HR.out HZC.out HZD.out)
            go_wp2
            go_roundw
            case rel => exact ⟨k + 1, rs2.set k ⟨{ r.gr with cells := (if cs + (kk : Int) < 64 then cs + (kk : Int) else 64) }, r.po, r.pc, r.ko, r.kc, r.io, r.ic, r.no, r.nc, r.ns⟩, by omega, by go_num, Lib.hid (by rw [List.length_set]; exact HLEN.out), HI5⟩
            case measure => simp [intOf]; omega
        · obtain rfl : kk = t := by omega
          clear htk ht
          have HZC : Hid (r.gr.cells ≤ (if cs + (kk : Int) < 64 then cs + (kk : Int) else 64)) := Lib.hid (by rw [← HCS.out]; split <;> omega)
          have HZD : Hid ((if cs + (kk : Int) < 64 then cs + (kk : Int) else 64) ≤ 64) := Lib.hid (by split <;> omega)
          have HI5 := Lib.hid (HI.out.cell HA3.out HR.out HZC.out HZD.out)
          go_wp2
          go_roundw
          case rel => exact ⟨k + 1, rs2.set k ⟨{ r.gr with cells := (if cs + (kk : Int) < 64 then cs + (kk : Int) else 64) }, r.po, r.pc, r.ko, r.kc, r.io, r.ic, r.no, r.nc, r.ns⟩, by omega, by go_num, Lib.hid (by rw [List.length_set]; exact HLEN.out), HI5⟩
          case measure => simp [intOf]; omega
    · obtain rfl : n = k := by omega
      clear hlt hk
      have d0 : wr.cell? ⟨w3.heap.size, 0, none⟩ = some (.slice A3 n c3) := HI.out.bC.cell 0
      have hpl := HI.out.bC.lt
      have HOWN : Hid (((wr.alloc (.cells #[.int .u8 12, .int .u8 0, .int .i64 0, .int .i64 0, .int .i64 (-1), .int .i64 0, .int .i64 0, .int .i64 0, .int .u64 0, .slice none 0 0, .int .i64 0, .int .i64 0] 38)).alloc (.cells #[.slice none 0 0, .slice none 0 0, .int .i64 0, .slice none 0 0, .bool false, .int .i64 (-1), .slice (some ⟨wr.heap.size, 0, none⟩) 1 1, .int .i64 0] 45)).ownsRow w2.heap.size 45 8 (.slice A3 n c3) n (rgc rs2)) := Lib.hid (own_alloc (own_alloc HI.out.own _) _)
      have HRD : Hid (Reads ((wr.alloc (.cells #[.int .u8 12, .int .u8 0, .int .i64 0, .int .i64 0, .int .i64 (-1), .int .i64 0, .int .i64 0, .int .i64 0, .int .u64 0, .slice none 0 0, .int .i64 0, .int .i64 0] 38)).alloc (.cells #[.slice none 0 0, .slice none 0 0, .int .i64 0, .slice none 0 0, .bool false, .int .i64 (-1), .slice (some ⟨wr.heap.size, 0, none⟩) 1 1, .int .i64 0] 45)) (wr.heap.size + 1 + 1) 8 (some ⟨wr.heap.size + 1, 0, none⟩) 1 (rgOne (rg0 wr.heap.size))) := Lib.hid (by
        have h2 := one_reads (wr.alloc (.cells #[.int .u8 12, .int .u8 0, .int .i64 0, .int .i64 0, .int .i64 (-1), .int .i64 0, .int .i64 0, .int .i64 0, .int .u64 0, .slice none 0 0, .int .i64 0, .int .i64 0] 38)) 45 (rgOne (rg0 wr.heap.size)) 8 rfl
        rw [show (wr.alloc (.cells #[.int .u8 12, .int .u8 0, .int .i64 0, .int .i64 0, .int .i64 (-1), .int .i64 0, .int .i64 0, .int .i64 0, .int .u64 0, .slice none 0 0, .int .i64 0, .int .i64 0] 38)).heap.size = wr.heap.size + 1 by simp] at h2
        exact h2)
      have hs2 : w2.heap.size ≤ ((wr.alloc (.cells #[.int .u8 12, .int .u8 0, .int .i64 0, .int .i64 0, .int .i64 (-1), .int .i64 0, .int .i64 0, .int .i64 0, .int .u64 0, .slice none 0 0, .int .i64 0, .int .i64 0] 38)).alloc (.cells #[.slice none 0 0, .slice none 0 0, .int .i64 0, .slice none 0 0, .bool false, .int .i64 (-1), .slice (some ⟨wr.heap.size, 0, none⟩) 1 1, .int .i64 0] 45)).heap.size := by simp; omega
      go_wp2_with (at_builtin; refine app_graph rfl _ _ rfl w2.heap.size (.slice A3 n c3) n (rgc rs2) rfl HOWN.out (wr.heap.size + 1 + 1) (some ⟨wr.heap.size + 1, 0, none⟩) 1 1 (rgOne (rg0 wr.heap.size)) rfl HRD.out (rgOne_one _) (by omega) hs2 ?_; intro v4 w4 hown hgr hor; refine Hid.out ?_)
      obtain ⟨A4, c4, rfl, e4, f4, hrd, hbl, hb0, hbC⟩ := HI.out.last hn15 (by omega) (by omega) hown hgr
      obtain ⟨w5, HW5⟩ : ∃ W, Hid (W = w4.setCell ⟨w3.heap.size, 0, none⟩ (.slice A4 (n + 1) c4)) := ⟨_, Lib.hid rfl⟩
      rw [← HW5.out] at hrd hbl hb0 hbC
      have HRD5 := Lib.hid hrd
      have HB5 : Hid (Below w.heap.size w w5) := Lib.hid (HB2.out.trans (hbl.mono (by omega)))
      have HV5 : Hid (valid (grs (rs2 ++ [rg0 wr.heap.size])) false) := Lib.hid (by rw [grs_append]; exact valid_wider HV.out (by rw [length_grs, H.out.len]; exact hn15) HI.out.wide)
      have HNE : Hid (decide (grs rs = grs (rs2 ++ [rg0 wr.heap.size])) = false) := Lib.hid (eq_len (by rw [length_grs, H.out.len, length_grs, List.length_append, HLEN.out]; simp))
      have q0 : w5.cell? ⟨w.heap.size, 0, none⟩ = some (.slice A n c) := hb0.cell 0
      have qC : w5.cell? ⟨w3.heap.size, 0, none⟩ = some (.slice A4 (n + 1) c4) := hbC.cell 0
      have HX5 := Lib.hid hb0
      have HXC5 := Lib.hid hbC
      have HCK5 := Lib.hid (check_any w5.heap.size A4 (n + 1) c4 (rs2 ++ [rg0 wr.heap.size]) false w5 HRD5.out (Nat.le_refl _))
      rw [if_pos HV5.out] at HCK5
      clear hown hgr hor hrd hbl hb0 hbC HRD HOWN d0
      refine Lib.hid ?_
      by_cases hk0 : kk = 0
      · subst hk0
        go_wp2_with (go_at_call 9; rw [← HW5.out]; refine HCK5.out.mono ?_; rintro e w6 ⟨rfl, hb6⟩; have HB6 := Lib.hid (HB5.out.trans (hb6.mono HB5.out.size)); clear hb6)
        go_ret
        exact ⟨rfl, HB6.out⟩
      · have gk : ((kk : Int) == 0) = false := by simp; omega
        clear hk0
        go_wp2_with (first
          | (go_at_call 9; rw [← HW5.out]; refine HCK5.out.mono ?_; rintro e w6 ⟨rfl, hb6⟩; have q6 : w6.cell? ⟨w.heap.size, 0, none⟩ = some (.slice A n c) := (HX5.out.below hb6 HX5.out.lt).cell 0; have qC6 : w6.cell? ⟨w3.heap.size, 0, none⟩ = some (.slice A4 (n + 1) c4) := (HXC5.out.below hb6 HXC5.out.lt).cell 0; have HB6 := Lib.hid (HB5.out.trans (hb6.mono HB5.out.size)); have HRD6 := Lib.hid (HRD5.out.below hb6); have hz6 : w5.heap.size ≤ w6.heap.size := hb6.size; have hz5 : w.heap.size ≤ w5.heap.size := HB5.out.size; clear hb6)
          | (go_at_call 20; refine (csame_any w6.heap.size A A4 n (n + 1) c c4 rs (rs2 ++ [rg0 wr.heap.size]) w6 ((H.out.below HB6.out).more (by omega)) (HRD6.out.more hz6) (Nat.le_refl _)).mono ?_; rintro e w7 ⟨rfl, hb7⟩; rw [HNE.out]; have HB7 := Lib.hid (HB6.out.trans (hb7.mono HB6.out.size)); clear hb7))
        go_ret
        exact ⟨rfl, HB7.out⟩
end Go.Proofs.Ytihfihockobpjaa
