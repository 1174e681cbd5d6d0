/-
  Package kinds: Check, the walk.
-/
import Derived.Test.YtcgoanfhabjpfaaKCheck
namespace Go.Proofs.Ytcgoanfhabjpfaa
set_option linter.unusedVariables false
open Go.ChangeShapes Go.WideShapes Go.ChangeAt Go.RowKit

set_option maxRecDepth 100000 in
set_option maxHeartbeats 6400000 in
theorem check_any (B : Nat) (A : Option Addr) (n c : Nat) (rs : List Raw) (w : World) (h : RdP w B A n rs) (hB : B ≤ w.heap.size) :
    Calls Try.prog 10 #[.agg #[.slice A n c]] w (CheckPost w B n rs) := by
  have hlen := h.len
  have HX0 : Hid (Blk (w.alloc (.cells #[.slice A n c] 24)) w.heap.size 24 #[.slice A n c]) := Lib.hid (Blk.new w _ _)
  have HB0 : Hid (Below w.heap.size w (w.alloc (.cells #[.slice A n c] 24))) := Lib.hid ((Below.refl _ _).alloc (Nat.le_refl _) _)
  have H1 : Hid (RdP (w.alloc (.cells #[.slice A n c] 24)) B A n rs) := Lib.hid (h.alloc hB _)
  have HLEN := Lib.hid hlen
  obtain ⟨v, HV⟩ : ∃ v, Hid (v = verd (fns rs)) := ⟨_, Lib.hid rfl⟩
  have HE := Lib.hid (encode_any B A n c rs _ H1.out (by simp; omega))
  have H := Lib.hid h
  clear h hlen
  cases hok : okP (fns rs) with
  | false =>
    have HVF := Lib.hid (verd_form hok)
    have HEE : Hid ((encA (fns rs)).2 = 30) := Lib.hid (by unfold encA; rw [hok]; rfl)
    clear hok
    go_enter Try.func10, Try.ntmps10
    go_wp2_with (go_at_call 14; refine HE.out.mono ?_; rintro e w2 ⟨A2, k2, c2, rfl, _, _, hb2⟩; rw [HEE.out]; have HB2 := Lib.hid hb2; clear hb2)
    go_ret2
    exact ⟨HB0.out.trans (HB2.out.mono (by simp)), .inl ⟨by rw [HVF.out]; decide, by rw [HVF.out]; rfl⟩⟩
  | true =>
    have HEE : Hid ((encA (fns rs)).2 = 0) := Lib.hid (by unfold encA; rw [hok]; rfl)
    have HOK := Lib.hid hok
    clear hok
    obtain ⟨bb, HBB⟩ : ∃ bb, Hid (bnd (fns rs) = bb) := ⟨_, Lib.hid rfl⟩
    cases bb with
    | false =>
      have HVF := Lib.hid (verd_big HOK.out HBB.out)
      go_enter Try.func10, Try.ntmps10
      go_wp2_with (go_at_call 14; refine HE.out.mono ?_; rintro e w2 ⟨A2, k2, c2, rfl, _, _, hb2⟩; rw [HEE.out]; have HB2 := Lib.hid hb2; have x2 : w2.cell? ⟨w.heap.size, 0, none⟩ = some (.slice A n c) := (HX0.out.below hb2 (by simp)).cell 0; clear hb2; refine Hid.out ?_)
      have HR2 := Lib.hid (H1.out.below (HB2.out.mono (by simp; omega)))
      have hz2 : w.heap.size < w2.heap.size := by have := HB2.out.size; simp at this; omega
      have HBN := Lib.hid (bounded_any B A n c rs w2 HR2.out (by omega))
      rw [HBB.out] at HBN
      refine Lib.hid ?_
      go_wp2_with (go_at_call 15; refine HBN.out.mono ?_; rintro e w3 ⟨rfl, hb3⟩; have HB3 := Lib.hid hb3; clear hb3)
      go_ret2
      exact ⟨HB0.out.trans ((HB2.out.mono (by simp)).trans (HB3.out.mono (by omega))), .inl ⟨by rw [HVF.out]; decide, by rw [HVF.out]; rfl⟩⟩
    | true =>
      obtain ⟨rb, HRB⟩ : ∃ rb, Hid (refB (fns rs) = rb) := ⟨_, Lib.hid rfl⟩
      go_enter Try.func10, Try.ntmps10
      go_wp2_with (go_at_call 14; refine HE.out.mono ?_; rintro e w2 ⟨A2, k2, c2, rfl, _, _, hb2⟩; rw [HEE.out]; have HB2 := Lib.hid hb2; have x2 : w2.cell? ⟨w.heap.size, 0, none⟩ = some (.slice A n c) := (HX0.out.below hb2 (by simp)).cell 0; clear hb2; refine Hid.out ?_)
      have HR2 := Lib.hid (H1.out.below (HB2.out.mono (by simp; omega)))
      have hz2 : w.heap.size < w2.heap.size := by have := HB2.out.size; simp at this; omega
      have HBN := Lib.hid (bounded_any B A n c rs w2 HR2.out (by omega))
      rw [HBB.out] at HBN
      refine Lib.hid ?_
      go_wp2_with (go_at_call 15; refine HBN.out.mono ?_; rintro e w3 ⟨rfl, hb3⟩; have HB3 := Lib.hid hb3; clear hb3; refine Hid.out ?_)
      have hz3 : w.heap.size < w3.heap.size := by have := HB3.out.size; omega
      have HW3 : Hid (Below w.heap.size w w3) := Lib.hid (HB0.out.trans ((HB2.out.mono (by simp)).trans (HB3.out.mono (by omega))))
      have hx3 : Blk w3 w.heap.size 24 #[.slice A n c] := (HX0.out.below HB2.out (by simp)).below HB3.out hz2
      have x3 : w3.cell? ⟨w.heap.size, 0, none⟩ = some (.slice A n c) := hx3.cell 0
      have HX3 := Lib.hid hx3
      have HR3 := Lib.hid (H.out.below (HW3.out.mono hB))
      have HRF := Lib.hid (refers_any B A n c rs w3 HR3.out (by omega) HOK.out)
      rw [HRB.out] at HRF
      clear x2 hx3
      cases rb with
      | false =>
        have HVF := Lib.hid (verd_ref HOK.out HBB.out HRB.out)
        refine Lib.hid ?_
        go_wp2_with (go_at_call 16; refine HRF.out.mono ?_; rintro e w4 ⟨rfl, hb4⟩; have HB4 := Lib.hid hb4; clear hb4)
        go_ret2
        exact ⟨HW3.out.trans (HB4.out.mono (by omega)), .inl ⟨by rw [HVF.out]; decide, by rw [HVF.out]; rfl⟩⟩
      | true =>
        refine Lib.hid ?_
        go_wp2_with (go_at_call 16; refine HRF.out.mono ?_; rintro e w4 ⟨rfl, hb4⟩; have HB4 := Lib.hid hb4; clear hb4; refine Hid.out ?_)
        have hz4 : w.heap.size < w4.heap.size := by have := HB4.out.size; omega
        have HW4 : Hid (Below w.heap.size w w4) := Lib.hid (HW3.out.trans (HB4.out.mono (by omega)))
        have x4 : w4.cell? ⟨w.heap.size, 0, none⟩ = some (.slice A n c) := (HX3.out.below HB4.out hz3).cell 0
        have HR4 := Lib.hid (H.out.below (HW4.out.mono hB))
        have HWA := Lib.hid (walkAll_any B A n c rs w4 HR4.out (by omega) HOK.out (bnd_code HBB.out) (ref_ins HRB.out))
        have HWB : Hid (Calls Try.prog 17 #[.slice A n c] w4 fun e w' => ∃ p ok, e = .returned (.tuple #[.pointer p, .bool ok]) ∧ Below w4.heap.size w4 w' ∧ ((p = none ∧ ok = false ∧ ∃ f ∈ fns rs, ¬ Fine (fns rs) f) ∨ ∃ tb ls rvs svs RA rc SA sc, p = some ⟨tb, 0, none⟩ ∧ ok = true ∧ TI w4 B tb rs n ls rvs svs RA rc SA sc w')) := Lib.hid (HWA.out.mono fun e w' ⟨hb, hc⟩ => by
          rcases hc with ⟨rfl, hnf⟩ | ⟨tb, ls, rvs, svs, RA, rc, SA, sc, rfl, hti⟩
          · exact ⟨_, _, rfl, hb, .inl ⟨rfl, rfl, hnf⟩⟩
          · exact ⟨_, _, rfl, hb, .inr ⟨tb, ls, rvs, svs, RA, rc, SA, sc, rfl, rfl, hti⟩⟩)
        clear x3
        refine Lib.hid ?_
        go_wp2_with (go_at_call 17; refine HWB.out.mono ?_; rintro e w5 ⟨p, ok, rfl, hb5, hcase⟩; have HB5 := Lib.hid hb5; have HCS := Lib.hid hcase; clear hb5 hcase; refine Hid.out ?_)
        have hz5 := HB5.out.size
        have HW5 : Hid (Below w.heap.size w w5) := Lib.hid (HW4.out.trans (HB5.out.mono (by omega)))
        rcases HCS.out with ⟨rfl, rfl, f, hf, hnf⟩ | ⟨tb, ls, rvs, svs, RA, rc, SA, sc, rfl, rfl, hti⟩
        · have HVF := Lib.hid (verd_fine HOK.out HBB.out HRB.out hf hnf)
          clear hf hnf x4
          refine Lib.hid ?_
          go_wp2
          go_ret2
          exact ⟨HW5.out, .inl ⟨by rw [HVF.out]; decide, by rw [HVF.out]; rfl⟩⟩
        · have hn255 : n ≤ 255 := by have := (okP_iff.1 HOK.out).2.1; rw [length_fns, HLEN.out] at this; exact this
          have HDP := Lib.hid (deep_any w4 B tb n rc sc rs ls rvs svs RA SA w5 hti hn255)
          have HS := Lib.hid (hti.allSols HLEN.out)
          have HTI := Lib.hid hti
          obtain ⟨d, HDD⟩ : ∃ d, Hid ((ls.any fun l => l.any deepO) = d) := ⟨_, Lib.hid rfl⟩
          rw [HDD.out] at HDP
          clear hti x4
          cases d with
          | true =>
            have HVF := Lib.hid (verd_deep HOK.out HBB.out HRB.out HS.out HDD.out)
            refine Lib.hid ?_
            go_wp2_with (go_at_call 18; refine HDP.out.mono ?_; rintro e w6 ⟨rfl, rfl⟩)
            go_ret2
            exact ⟨HW5.out, .inl ⟨by rw [HVF.out]; decide, by rw [HVF.out]; rfl⟩⟩
          | false =>
            have HVF := Lib.hid (verd_ok HOK.out HBB.out HRB.out HS.out HDD.out)
            refine Lib.hid ?_
            go_wp2_with (go_at_call 18; refine HDP.out.mono ?_; rintro e w6 ⟨rfl, rfl⟩)
            go_ret2
            exact ⟨HW5.out, .inr ⟨HVF.out, w4, tb, ls, rvs, svs, RA, rc, SA, sc, rfl, HTI.out, HS.out⟩⟩
end Go.Proofs.Ytcgoanfhabjpfaa
