/-
  The walk through CodeReads.
-/
import Derived.Test.YtklfppeecgkpnaaRefRead
import Derived.Test.YtklfppeecgkpnaaSameB
import Derived.Test.YtklfppeecgkpnaaRefBnd
import Derived.Test.YtklfppeecgkpnaaFirst
import Derived.Test.YtklfppeecgkpnaaWrites
import Derived.Lib.SmallJoins
import Derived.Lib.ConvBytes
namespace Go.Proofs.Ytklfppeecgkpnaa
set_option linter.unusedVariables false
open Go.ChangeShapes Go.WideShapes Go.ChangeAt Go.RowKit

theorem reads_bytes (w : World) (l : List Int) (hby : Byt l) : Reads (Lib.bytesWorld w 5 (strOfNums l)) (Lib.bytesWorld w 5 (strOfNums l)).heap.size 1 (some ⟨w.heap.size, 0, none⟩) l.length (u8c l) := by
  refine ⟨by rw [length_u8c]; omega, fun hn => ⟨_, rfl, by rw [Lib.bytesWorld_size]; show w.heap.size < _; omega, fun j u hj => ?_⟩⟩
  have hjl : j < l.length := by have := (List.getElem?_eq_some_iff.1 hj).1; rwa [length_u8c] at this
  have ea : (⟨w.heap.size, 0, none⟩ : Addr).add j = ⟨w.heap.size, j, none⟩ := by simp [Addr.add]; exact Eq.symm
  rw [ea, Lib.bytesWorld_cell w _ _ j (by rw [strOfNums_size]; exact hjl), ← hj]
  rw [u8c_at (List.getElem?_eq_getElem hjl), strOfNums_data]
  have hb := hby _ (List.getElem_mem hjl)
  simp only [List.getD, List.getElem?_map, List.getElem?_eq_getElem hjl, Option.map_some, Option.getD_some]
  congr 2
  rw [UInt8.toNat_ofNat']
  omega
theorem RrR.cases {w w' : World} {L : List Int} {e : Ending} (h : RrR w L e w') : ∃ (ok : Bool) (A : Option Addr) (k c : Nat), e = .returned (.tuple #[.agg #[.slice A k c], .bool ok]) ∧ Below w.heap.size w w' ∧
    Hid ((ok = false ∧ parse L = none) ∨ (ok = true ∧ ∃ rs, parse L = some (fns rs) ∧ RdP w' w'.heap.size A k rs)) := by
  rcases h with ⟨hb, ⟨h1, rfl⟩ | ⟨rs, k, A, c, h1, rfl, h2⟩⟩
  · exact ⟨false, none, 0, 0, rfl, hb, .inl ⟨rfl, h1⟩⟩
  · exact ⟨true, A, k, c, rfl, hb, .inr ⟨rfl, rs, h1, h2⟩⟩

set_option maxRecDepth 100000 in
set_option maxHeartbeats 32000000 in
theorem reads_walk (A : Option Addr) (n c : Nat) (l : List Int) (w : World) (h : Reads w w.heap.size 1 A n (u8c l)) (hl : l.length = n) (hby : Byt l) (hnc : n ≤ c) (hcm : c ≤ 140737488351232) (hnil : A = none → c = 0) :
    Calls Try.prog 3 #[.slice A n c] w fun e w' => e = .returned (.bool true) ∧ Below w.heap.size w w' := by
  have H := Lib.hid h
  have HL := Lib.hid hl
  have HY := Lib.hid hby
  have HNL := Lib.hid hnil
  obtain ⟨S, HS⟩ : ∃ S, Hid (S = strOfNums l) := ⟨_, rfl⟩
  have HSS : Hid (S.size = n) := Lib.hid (by rw [HS.out, strOfNums_size, HL.out])
  have HCV : Hid (∀ W : World, Below w.heap.size w W → (convert 22 9 (.slice A n c)).run Try.prog W = .ok (.string S) W) := Lib.hid (fun W hW => by rw [HS.out]; exact conv_reads (H.out.below hW))
  clear h hl hby hnil
  go_enter Try.func3, Try.ntmps3
  go_wp2_with (go_at_call 9; refine (first_any _).mono ?_; rintro e w1 ⟨rfl, hb1⟩; refine Hid.out ?_)
  have hcv1 := HCV.out w1 hb1
  have HB1 := Lib.hid hb1
  have hz1 := hb1.size
  clear hb1
  refine Lib.hid ?_
  go_wp2_with (go_at_call 10; refine (decode_any w.heap.size A n c l _ (H.out.below HB1.out) HL.out HY.out hz1 hnc (by unfold maxLen; omega) HNL.out).mono ?_; rintro e w2 ⟨rs2, k2, A2, c2, hfn2, rfl, hrp2, hb2⟩; refine Hid.out ?_)
  have hz2 : w1.heap.size ≤ w2.heap.size := hb2.size
  have HB2 : Hid (Below w.heap.size w (w2.alloc (.cells #[.slice A2 k2 c2] 26))) := (HB1.out.trans (hb2.mono hz1)).alloc (by omega) _
  have HP2 := Lib.hid (hrp2.alloc (Nat.le_refl _) (.cells #[.slice A2 k2 c2] 26))
  have HX2 := Lib.hid (Blk.new w2 26 #[.slice A2 k2 c2])
  have HF2 := Lib.hid hfn2
  have HLN2 := Lib.hid hrp2.len
  obtain ⟨W, HW⟩ : ∃ W, Hid (W = Lib.bytesWorld (w2.alloc (.cells #[.slice A2 k2 c2] 26)) 5 S) := ⟨_, rfl⟩
  obtain ⟨cp, HCP⟩ : ∃ x, Hid (x = grownCap (w2.alloc (.cells #[.slice A2 k2 c2] 26)) n 0 5) := ⟨_, rfl⟩
  have hcb : (convert 9 22 (.string S)).run Try.prog (w2.alloc (.cells #[.slice A2 k2 c2] 26)) = .ok (.slice (some ⟨w2.heap.size + 1, 0, none⟩) n cp) W := by
    rw [Lib.run_convert_string_bytes (P := Try.prog) _ _ _ 5 S Try.underlying9 Try.underlying22 Try.underlying5, HSS.out, HW.out, HCP.out]
    simp
  have hbw : Below (w2.alloc (.cells #[.slice A2 k2 c2] 26)).heap.size (w2.alloc (.cells #[.slice A2 k2 c2] 26)) W := by rw [HW.out]; exact Go.Joins.below_bytesWorld _ _ _ _ (Nat.le_refl _)
  have hsz3 : (w2.alloc (.cells #[.slice A2 k2 c2] 26)).heap.size = w2.heap.size + 1 := by simp
  have HRW : Hid (Reads W W.heap.size 1 (some ⟨w2.heap.size + 1, 0, none⟩) n (u8c l)) := Lib.hid (by
    have := reads_bytes (w2.alloc (.cells #[.slice A2 k2 c2] 26)) l HY.out
    rw [← HS.out, ← HW.out, HL.out, hsz3] at this
    exact this)
  rw [hsz3] at hbw
  have HB3 := Lib.hid (HB2.out.trans (hbw.mono (by omega)))
  have HP3 := Lib.hid (HP2.out.below (hbw.mono (by omega)))
  have HX3 := Lib.hid (HX2.out.below hbw (by omega))
  have hz3 : w2.heap.size + 1 ≤ W.heap.size := by have := hbw.size; omega
  clear hfn2 hrp2 hb2 hbw hcv1 hsz3
  refine Lib.hid ?_
  go_wp2_with (go_at_call 11; refine (read_any _ n _ l _ HRW.out HL.out HY.out (by omega)).mono ?_; intro e w5 hr; obtain ⟨ok, A5, k5, c5, rfl, hb5, HOK⟩ := hr.cases; refine Hid.out ?_)
  have hz5 : W.heap.size ≤ w5.heap.size := hb5.size
  have HB5 : Hid (Below w.heap.size w (w5.alloc (.cells #[.slice A5 k5 c5] 26))) := (HB3.out.trans (hb5.mono (by omega))).alloc (by omega) _
  have HP5 := Lib.hid ((HP3.out.below (hb5.mono (by omega))).alloc (by omega) (.cells #[.slice A5 k5 c5] 26))
  have HX5 := Lib.hid ((HX3.out.below hb5 (by omega)).alloc (.cells #[.slice A5 k5 c5] 26))
  have HY5 := Lib.hid (Blk.new w5 26 #[.slice A5 k5 c5])
  have hcv5 := HCV.out _ HB5.out
  have x5 : (w5.alloc (.cells #[.slice A5 k5 c5] 26)).cell? ⟨w2.heap.size, 0, none⟩ = some (.slice A2 k2 c2) := HX5.out.cell 0
  have hs5 : (w5.alloc (.cells #[.slice A5 k5 c5] 26)).heap.size = w5.heap.size + 1 := by simp
  clear hb5 hcb hr
  rcases HOK.out with ⟨rfl, hpn⟩ | ⟨rfl, rs5, hps, hrd5⟩
  · have hd := decA_none hpn
    obtain rfl : k2 = 0 := by
      have := HF2.out
      rw [hd] at this
      have h2 := congrArg List.length this
      rw [length_fns, HLN2.out] at h2
      exact h2
    rw [hd]
    clear hd hpn HOK
    refine Lib.hid ?_
    go_wp2
    go_ret
    exact ⟨rfl, HB5.out⟩
  · have hrd := Lib.hid (hrd5.alloc (Nat.le_refl _) (.cells #[.slice A5 k5 c5] 26))
    have HPS := Lib.hid hps
    obtain ⟨hbk, hok⟩ := parse_back HY.out hps
    have HBK := Lib.hid hbk
    have HOK2 := Lib.hid hok
    have hd := decA_some hps
    clear HOK hps hrd5 hbk hok
    cases hbq : bnd (fns rs5) with
    | false =>
      have HBF := Lib.hid hbq
      rw [hbq] at hd
      obtain rfl : k2 = 0 := by
        have := HF2.out
        rw [hd] at this
        have h2 := congrArg List.length this
        rw [length_fns, HLN2.out] at h2
        exact h2
      rw [hd]
      clear hd hbq
      refine Lib.hid ?_
      go_wp2_with (go_at_call 12; refine (rbounded_any w5.heap.size A5 k5 c5 rs5 _ hrd.out (by omega)).mono ?_; rintro e w6 ⟨rfl, hb6⟩; rw [HBF.out]; refine Hid.out ?_)
      have HB6 := Lib.hid (HB5.out.trans (hb6.mono (by omega)))
      have x6 : w6.cell? ⟨w2.heap.size, 0, none⟩ = some (.slice A2 0 c2) := (HX5.out.below hb6 HX5.out.lt).cell 0
      clear hb6 hcv5 x5
      refine Lib.hid ?_
      go_wp2
      go_ret
      exact ⟨rfl, HB6.out⟩
    | true =>
      have HBF := Lib.hid hbq
      rw [hbq] at hd
      have hd' : decA l = (fns rs5, 0) := by rw [hd]; rfl
      have HEF : Hid (fns rs2 = fns rs5) := Lib.hid (by rw [HF2.out, hd'])
      rw [hd']
      clear hd hd' hbq
      refine Lib.hid ?_
      go_wp2_with (go_at_call 12; refine (rbounded_any w5.heap.size A5 k5 c5 rs5 _ hrd.out (by omega)).mono ?_; rintro e w6 ⟨rfl, hb6⟩; rw [HBF.out]; refine Hid.out ?_)
      have hz6 : w5.heap.size + 1 ≤ w6.heap.size := by have := hb6.size; omega
      have HB6 := Lib.hid (HB5.out.trans (hb6.mono (by omega)))
      have HX6 := Lib.hid (HX5.out.below hb6 HX5.out.lt)
      have HY6 := Lib.hid (HY5.out.below hb6 HY5.out.lt)
      have HP6 := Lib.hid (HP5.out.below (hb6.mono (by omega)))
      have HR6 := Lib.hid (hrd.out.below (hb6.mono (by omega)))
      have x6 : w6.cell? ⟨w2.heap.size, 0, none⟩ = some (.slice A2 k2 c2) := HX6.out.cell 0
      clear hb6 hcv5 x5
      refine Lib.hid ?_
      go_wp2_with (go_at_call 13; refine (encode_any w2.heap.size A2 k2 c2 rs2 _ HP6.out (by omega)).mono ?_; rintro e w7 ⟨A7, k7, c7, rfl, hk7, ho7, hb7⟩; refine Hid.out ?_)
      have hq : encA (fns rs2) = (l, 0) := by unfold encA; rw [HEF.out, HOK2.out, HBK.out]; rfl
      rw [hq] at hk7 ho7
      rw [hq]
      simp only at hk7 ho7
      have hz7 : w6.heap.size ≤ w7.heap.size := hb7.size
      have HB7 := Lib.hid (HB6.out.trans (hb7.mono (by omega)))
      have x7 : w7.cell? ⟨w2.heap.size, 0, none⟩ = some (.slice A2 k2 c2) := (HX6.out.below hb7 HX6.out.lt).cell 0
      have y7 : w7.cell? ⟨w5.heap.size, 0, none⟩ = some (.slice A5 k5 c5) := (HY6.out.below hb7 HY6.out.lt).cell 0
      have HP7 := Lib.hid ((HP6.out.below (hb7.mono (by omega))).more (show w2.heap.size ≤ w7.heap.size by omega))
      have HR7 := Lib.hid ((HR6.out.below (hb7.mono (by omega))).more (show w5.heap.size ≤ w7.heap.size by omega))
      have HO7 := Lib.hid ho7
      have HSE : Hid (decide (fns rs2 = fns rs5) = true) := Lib.hid (by rw [HEF.out]; simp)
      clear hq hk7 ho7 hb7 x6
      refine Lib.hid ?_
      go_wp2_with (go_at_call 14; refine (rsame_any w7.heap.size A2 A5 k2 k5 c2 c5 rs2 rs5 _ HP7.out HR7.out (Nat.le_refl _)).mono ?_; rintro e w8 ⟨rfl, hb8⟩; rw [HSE.out]; refine Hid.out ?_)
      have HB8 := Lib.hid (HB7.out.trans (hb8.mono HB7.out.size))
      have hcv8 : (convert 22 9 (.slice A7 k7 c7)).run Try.prog w8 = .ok (.string S) w8 := by
        rw [HS.out]; exact conv_reads (Reads.of_own (own_under HO7.out hb8))
      clear hb8 x7 y7
      refine Lib.hid ?_
      go_wp2
      go_ret
      exact ⟨rfl, HB8.out⟩
end Go.Proofs.Ytklfppeecgkpnaa
