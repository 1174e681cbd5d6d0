/-
  The line through every graph and the intervals of its places are those that the document says.
-/
import Derived.Test.YtcljjacanomggaaDoorCards
import Derived.Test.YtcljjacanomggaaDoorTie
import Derived.WalkKit
import Derived.ProofKit
import Derived.OpenShut
import Derived.ShutString
import Derived.ChangeOld
import Derived.Below
import Derived.Deep.DeepHandedRow
import Derived.Lib.LaidTab
import Derived.LaidMore
import Derived.Deep.DeepWitnessRowRef
import Derived.SevenTiedAt
import Derived.SizedLaws
import Derived.Test.YtcljjacanomggaaDoorMA14
import Derived.Test.YtcljjacanomggaaDoorMA19
import Derived.Test.YtcljjacanomggaaDoorMA28
import Derived.Test.YtcljjacanomggaaDoorMA15

/-
  OrderLines: the walk.
-/
namespace Go.Proofs.YtcljjacanomggaaDoor
set_option linter.unusedVariables false
set_option linter.unusedSimpArgs false
open Go.ChangeShapes Go.WideShapes Go.ChangeAt Go.RowKit

def DrV (w wr : World) : Prop := ∃ q, wr = w.drewN q
theorem DrV.refl (w : World) : DrV w w := ⟨0, rfl⟩
theorem DrV.more {w wr : World} (h : DrV w wr) (n : Nat) : DrV w (wr.drewN n) := by
  obtain ⟨q, rfl⟩ := h
  exact ⟨q + n, by simp [World.drewN]; omega⟩
theorem DrV.cell {w wr : World} (h : DrV w wr) (a : Addr) : wr.cell? a = w.cell? a := by
  obtain ⟨q, rfl⟩ := h
  rfl
theorem DrV.below {w wr : World} (h : DrV w wr) : Below w.heap.size w wr := by
  obtain ⟨q, rfl⟩ := h
  exact below_drewN (Below.refl _ _) q
theorem ivCs_at : ∀ {l : List Iv} {j : Nat} {s : Iv}, l[j]? = some s → (ivCs l)[j * 4]? = some (.int .i64 s.p) ∧ (ivCs l)[j * 4 + 1]? = some (.int .i64 s.f) ∧ (ivCs l)[j * 4 + 2]? = some (.int .i64 s.t) ∧ (ivCs l)[j * 4 + 3]? = some (.bool s.h)
  | [], j, s, h => by simp at h
  | a :: r, 0, s, h => by
    simp at h
    subst h
    exact ⟨rfl, rfl, rfl, rfl⟩
  | a :: r, j + 1, s, h => by
    have h1 := ivCs_at (l := r) (j := j) (s := s) (by simpa using h)
    have e : ivCs (a :: r) = .int .i64 a.p :: .int .i64 a.f :: .int .i64 a.t :: .bool a.h :: ivCs r := rfl
    rw [e, show (j + 1) * 4 = j * 4 + 1 + 1 + 1 + 1 by omega]
    simp only [List.getElem?_cons_succ]
    exact ⟨h1.1, h1.2.1, h1.2.2.1, h1.2.2.2⟩
set_option maxRecDepth 100000 in
set_option maxHeartbeats 12800000 in
theorem lines_walk (fo : Option Addr) (nF cF : Nat) (rs : List RG) (f : Int) (w : World) (h : RdP w w.heap.size fo nF rs) (hT : TzTab w) :
    Calls Tryd.prog 3 #[.agg #[.slice fo nF cF], .int .i64 f] w fun e w' => e = .returned (.bool true) ∧ Below w.heap.size w w' := by
  have hb0 : Below w.heap.size w (w.alloc (.cells #[.slice fo nF cF] 24)) := (Below.refl _ _).alloc (Nat.le_refl _) _
  have HG0 := Lib.hid (Blk.new w 24 #[.slice fo nF cF])
  have HF := Lib.hid (ofirst_any (w.alloc (.cells #[.slice fo nF cF] 24)) (hT.below hb0))
  have HB0 := Lib.hid hb0
  have H := Lib.hid h
  have HLN : Hid (∀ W, Below w.heap.size w W → Calls Tryd.prog 7 #[.agg #[.slice fo nF cF], .int .i64 f] W (LnPost (grs rs) f W)) := Lib.hid fun W hb => line_any w.heap.size fo nF cF rs f W (h.below hb) hb.size
  have HSP : Hid (∀ W, Below w.heap.size w W → Calls Tryd.prog 8 #[.agg #[.slice fo nF cF], .int .i64 f] W (SpPost (grs rs) f W)) := Lib.hid fun W hb => spans_any w.heap.size fo nF cF rs f W (h.below hb) hb.size (hT.below hb)
  have HRI : Hid (∀ W, Below w.heap.size w W → Calls Tryd.prog 9 #[.agg #[.slice fo nF cF], .bool false] W fun e w' => e = .returned (.bool (decide (valid (grs rs) false))) ∧ Below W.heap.size W w') := Lib.hid fun W hb => rright_any w.heap.size fo nF cF rs false W (h.below hb) hb.size
  clear h hT hb0
  have HG : Hid (∀ W, Below (w.heap.size + 1) (w.alloc (.cells #[.slice fo nF cF] 24)) W → W.cell? ⟨w.heap.size, 0, none⟩ = some (.slice fo nF cF)) := Lib.hid fun W hb => (HG0.out.below hb (by omega)).cell 0
  have HZ0 : Hid ((w.alloc (.cells #[.slice fo nF cF] 24)).heap.size = w.heap.size + 1) := Lib.hid (by simp)
  by_cases hv : valid (grs rs) false
  · have HD : Hid (decide (valid (grs rs) false) = true) := Lib.hid (decide_eq_true hv)
    rw [HD.out] at HRI
    by_cases hr : f < 0 ∨ (nF : Int) ≤ f
    · have HC : Hid (chkL (grs rs) f = 2) := Lib.hid (by
        unfold chkL
        rw [if_pos hv, if_pos]
        rw [length_grs, H.out.len]
        exact hr)
      clear hv
      have hcase : decide (f < 0) = true ∨ (decide (f < 0) = false ∧ decide (f ≥ (nF : Int)) = true ∧ decide ((nF : Int) ≤ f) = true) := by
        by_cases h0 : f < 0
        · exact .inl (decide_eq_true h0)
        · exact .inr ⟨decide_eq_false h0, decide_eq_true (by omega), decide_eq_true (by omega)⟩
      clear hr
      rcases hcase with g0 | ⟨g0, g1, g2⟩
      all_goals
        go_enter Tryd.func3, Tryd.ntmps3
        go_wp2_with (first
          | (go_at_call 6; refine HF.out.mono ?_; rintro e w1 ⟨rfl, hb1⟩; rw [HZ0.out] at hb1; have HB1 := Lib.hid hb1; have HW1 := Lib.hid (HB0.out.trans (hb1.mono (by omega))); have x1 := HG.out _ hb1; clear hb1)
          | (go_at_call 7; refine (HLN.out _ HW1.out).mono ?_; rintro e w2 hl; obtain ⟨hb2, rfl⟩ := hl.bad HC.out (by decide); have hb2' := HB1.out.trans (hb2.mono (by have := HB1.out.size; rw [HZ0.out] at this; exact this)); have HB2 := Lib.hid hb2'; have HW2 := Lib.hid (HW1.out.trans (hb2.mono HW1.out.size)); have x2 := HG.out _ hb2'; clear hl hb2 hb2')
          | (go_at_call 8; refine (HSP.out _ HW2.out).mono ?_; rintro e w3 hl; obtain ⟨hb3, rfl⟩ := hl.bad HC.out (by decide); have hb3' := HB2.out.trans (hb3.mono (by have := HB2.out.size; rw [HZ0.out] at this; exact this)); have HB3 := Lib.hid hb3'; have HW3 := Lib.hid (HW2.out.trans (hb3.mono HW2.out.size)); have x3 := HG.out _ hb3'; clear hl hb3 hb3')
          | (go_at_call 9; refine (HRI.out _ HW3.out).mono ?_; rintro e w4 ⟨rfl, hb4⟩; have hb4' := HB3.out.trans (hb4.mono (by have := HB3.out.size; rw [HZ0.out] at this; exact this)); have HW4 := Lib.hid (HW3.out.trans (hb4.mono HW3.out.size)); have x4 := HG.out _ hb4'; clear hb4 hb4'))
        go_ret
        exact ⟨rfl, HW4.out⟩
    · obtain ⟨k, rfl⟩ : ∃ k : Nat, f = (k : Int) := ⟨f.toNat, by omega⟩
      have hkF : k < nF := by omega
      obtain ⟨b, off, r, hfe, hb, HX, HRG, HWG, x0, x1, x2, x3, x4, x5, x6, x7⟩ := H.out.gr hkF
      have HXG : Hid ((grs rs)[k]? = some r.gr) := Lib.hid (by unfold grs; rw [List.getElem?_map, HX.out]; rfl)
      have hmem : r.gr ∈ grs rs := List.mem_of_getElem? HXG.out
      have hsz := valid_sizes hv hmem
      have hnin := valid_next hv hmem
      have hpin := valid_params hv hmem
      have hlin := lineG_in hv hmem
      obtain ⟨en, hent, hen⟩ := valid_entry hv hmem
      rw [← HRG.out.nd] at hnin
      rw [hent] at x7
      have HLL : Hid (lineK r.gr.nodes en = lineG r.gr) := Lib.hid (by unfold lineG; rw [hent, Int.toNat_natCast])
      have HRS : Hid (∀ W, Below w.heap.size w W → Calls Tryd.prog 10 #[.agg #[.slice r.po r.gr.params.length r.pc, .slice r.ko r.gr.kinds.length r.kc, .int .i64 r.gr.cells, .slice r.io r.gr.init.length r.ic, .bool r.gr.result, .int .i64 r.gr.keep, .slice r.no r.gr.nodes.length r.nc, .int .i64 en]] W fun e w' => ∃ (A : Option Addr) (k c : Nat), e = .returned (.slice A k c) ∧ k = (spansG r.gr).length ∧ w'.ownsRow W.heap.size 42 4 (.slice A k c) k (ivCs (spansG r.gr)) ∧ Below W.heap.size W w') := Lib.hid fun W hbw => by
        have h := rspans_any w.heap.size r.po r.ko r.io r.no r.gr.params.length r.pc r.gr.kinds.length r.kc r.gr.init.length r.ic r.gr.nodes.length r.nc en r.gr.cells r.gr.keep r.gr.result r.ns r.gr.params W (HRG.out.nodes.below hbw) (HRG.out.params.below hbw) rfl hpin.2 hbw.size hsz.2 hsz.1 hnin hen
        rw [HRG.out.nd, HLL.out] at h
        exact h
      have HRL : Hid (∀ W, Below w.heap.size w W → Calls Tryd.prog 12 #[.agg #[.slice r.po r.gr.params.length r.pc, .slice r.ko r.gr.kinds.length r.kc, .int .i64 r.gr.cells, .slice r.io r.gr.init.length r.ic, .bool r.gr.result, .int .i64 r.gr.keep, .slice r.no r.gr.nodes.length r.nc, .int .i64 en]] W (NewO W (lineG r.gr))) := Lib.hid fun W hbw => by
        have h := rline_any w.heap.size r.po r.ko r.io r.no r.gr.params.length r.pc r.gr.kinds.length r.kc r.gr.init.length r.ic r.gr.nodes.length r.nc en r.gr.cells r.gr.keep r.gr.result r.ns W (HRG.out.nodes.below hbw) hbw.size hsz.2 hnin hen
        rw [HRG.out.nd, HLL.out] at h
        exact h
      have HV := Lib.hid hv
      have g0 : decide ((k : Int) < 0) = false := decide_eq_false (by omega)
      have g1 : decide ((k : Int) ≥ (nF : Int)) = false := decide_eq_false (by omega)
      have g2 : decide ((nF : Int) ≤ (k : Int)) = false := decide_eq_false (by omega)
      have g3 : decide (nF ≤ k) = false := decide_eq_false (by omega)
      have HCE : Hid (∀ W, Below w.heap.size w W → W.cell? ⟨b, off + k * 8, none⟩ = some (.slice r.po r.gr.params.length r.pc) ∧ W.cell? ⟨b, off + k * 8 + 1, none⟩ = some (.slice r.ko r.gr.kinds.length r.kc) ∧ W.cell? ⟨b, off + k * 8 + 2, none⟩ = some (.int .i64 r.gr.cells) ∧ W.cell? ⟨b, off + k * 8 + 3, none⟩ = some (.slice r.io r.gr.init.length r.ic) ∧ W.cell? ⟨b, off + k * 8 + 4, none⟩ = some (.bool r.gr.result) ∧ W.cell? ⟨b, off + k * 8 + 5, none⟩ = some (.int .i64 r.gr.keep) ∧ W.cell? ⟨b, off + k * 8 + 6, none⟩ = some (.slice r.no r.gr.nodes.length r.nc) ∧ W.cell? ⟨b, off + k * 8 + 7, none⟩ = some (.int .i64 en)) := Lib.hid fun W hbw => ⟨(hbw.cell (p := ⟨b, _, none⟩) hb).trans x0, (hbw.cell (p := ⟨b, _, none⟩) hb).trans x1, (hbw.cell (p := ⟨b, _, none⟩) hb).trans x2, (hbw.cell (p := ⟨b, _, none⟩) hb).trans x3, (hbw.cell (p := ⟨b, _, none⟩) hb).trans x4, (hbw.cell (p := ⟨b, _, none⟩) hb).trans x5, (hbw.cell (p := ⟨b, _, none⟩) hb).trans x6, (hbw.cell (p := ⟨b, _, none⟩) hb).trans x7⟩
      have hnl4 : (lineG r.gr).length ≤ 4096 := hlin.2.1
      have hsl4 : (spansG r.gr).length ≤ 1024 := Nat.le_trans (spansL_len _ _ _ _) hsz.1
      have hsm : (spansG r.gr).length ≤ r.gr.kinds.length := spansL_len _ _ _ _
      rw [hfe] at HG0 HF HB0 HLN HSP HRI HG HZ0 H ⊢
      clear hfe x0 x1 x2 x3 x4 x5 x6 x7 hsz hnin hlin hpin hr hv hmem hent hen
      obtain ⟨l, hl⟩ : ∃ l, l = lineG r.gr := ⟨_, rfl⟩
      obtain ⟨sp, hsp⟩ : ∃ sp, sp = spansG r.gr := ⟨_, rfl⟩
      have HLE := Lib.hid hl.symm
      have HSE := Lib.hid hsp.symm
      rw [← hl] at HRL hnl4
      rw [← hsp] at HRS hsl4 hsm
      clear hl hsp
      go_enter Tryd.func3, Tryd.ntmps3
      go_wp2_with (first
        | (go_at_call 6; refine HF.out.mono ?_; rintro e w1 ⟨rfl, hb1⟩; rw [HZ0.out] at hb1; have HB1 := Lib.hid hb1; have HW1 := Lib.hid (HB0.out.trans (hb1.mono (by omega))); have x1 := HG.out _ hb1; clear hb1)
        | (go_at_call 7; refine (HLN.out _ HW1.out).mono ?_; rintro e w2 hl; obtain ⟨hb2, A2, c2, rfl, ho2⟩ := hl.ok HV.out HXG.out; rw [HLE.out] at ho2 ⊢; have hb2' := HB1.out.trans (hb2.mono (by have := HB1.out.size; rw [HZ0.out] at this; exact this)); have HB2 := Lib.hid hb2'; have HW2 := Lib.hid (HW1.out.trans (hb2.mono HW1.out.size)); have HO2 := Lib.hid ho2; have x2 := HG.out _ hb2'; clear hl hb2 hb2' ho2)
        | (go_at_call 8; refine (HSP.out _ HW2.out).mono ?_; rintro e w3 hl; obtain ⟨hb3, R1, G1, rfl, hR1, hr3, hg3⟩ := hl.ok HV.out HXG.out; rw [HSE.out] at hg3 ⊢; have hb3' := HB2.out.trans (hb3.mono (by have := HB2.out.size; rw [HZ0.out] at this; exact this)); have HB3 := Lib.hid hb3'; have HW3 := Lib.hid (HW2.out.trans (hb3.mono HW2.out.size)); have HO3 := Lib.hid (own_kept HO2.out fun g hg => hb3.block g (own_block_le HO2.out hg).2); have HR3 := Lib.hid hr3; have HG3 := Lib.hid hg3; have x3 := HG.out _ hb3'; clear hl hb3 hb3' hr3 hg3)
        | (go_at_call 9; refine (HRI.out _ HW3.out).mono ?_; rintro e w4 ⟨rfl, hb4⟩; have hb4' := HB3.out.trans (hb4.mono (by have := HB3.out.size; rw [HZ0.out] at this; exact this)); have HB4 := Lib.hid hb4'; have HW4 := Lib.hid (HW3.out.trans (hb4.mono HW3.out.size)); have HO4 := Lib.hid (own_kept HO3.out fun g hg => hb4.block g (own_block_le HO3.out hg).2); have HR4 := Lib.hid (HR3.out.below hb4 HR3.out.lt); have x4 := HG.out _ hb4'; obtain ⟨y0, y1, y2, y3, y4, y5, y6, y7⟩ := HCE.out _ HW4.out; clear hb4 hb4')
        | (go_at_call 10; refine (HRS.out _ HW4.out).mono ?_; rintro e w5 ⟨A5, n5, c5, rfl, hn5, ho5, hb5⟩; have hb5' := HB4.out.trans (hb5.mono (by have := HB4.out.size; rw [HZ0.out] at this; exact this)); have HB5 := Lib.hid hb5'; have HW5 := Lib.hid (HW4.out.trans (hb5.mono HW4.out.size)); have HO5 := Lib.hid (own_kept HO4.out fun g hg => hb5.block g (own_block_le HO4.out hg).2); have HR5 := Lib.hid (HR4.out.below hb5 HR4.out.lt); have HS5 := Lib.hid ho5; have x5 := HG.out _ hb5'; obtain ⟨z0, z1, z2, z3, z4, z5, z6, z7⟩ := HCE.out _ HW5.out; rw [hn5] at HS5 ⊢; clear hb5 hb5' ho5 hn5)
        | (go_at_call 12; refine (HRL.out _ HW5.out).mono ?_; rintro e w6 ⟨A6, c6, rfl, ho6, hc6, hb6⟩; have HW6 := Lib.hid (HW5.out.trans (hb6.mono HW5.out.size)); have HO6 := Lib.hid (own_kept HO5.out fun g hg => hb6.block g (own_block_le HO5.out hg).2); have HR6 := Lib.hid (HR5.out.below hb6 HR5.out.lt); have HS6 := Lib.hid (own_kept HS5.out fun g hg => hb6.block g (own_block_le HS5.out hg).2); have HSI := Lib.hid (rsi_any w6.heap.size A2 A6 l.length l.length c2 c6 l l w6 (Reads.of_own HO6.out) (Reads.of_own ho6) rfl rfl (by omega) (by omega)); rw [show decide (l = l) = true by simp] at HSI; clear hb6 ho6)
        | (go_at_call 11; refine HSI.out.mono ?_; rintro e w7 ⟨rfl, nq, hw7⟩; have HD7 : Hid (DrV w6 w7) := Lib.hid ⟨nq, hw7⟩; clear hw7))
      have HB67 := Lib.hid HD7.out.below
      clear x1 x2 x3 x4 x5 y0 y1 y2 y3 y4 y5 y6 y7 z0 z1 z2 z3 z4 z5 z6 z7 HF HLN HSP HRI HRS HRL HG HCE g0 g1 g2 g3
      obtain ⟨ns, hns⟩ : ∃ n, n = sp.length := ⟨_, rfl⟩
      have HNS := Lib.hid hns
      rw [← hns] at HS6 HG3 hsl4 hsm ⊢
      clear hns
      go_loopw [99] (fun s wr => ∃ j : Nat, j ≤ ns ∧ s = .int .i64 j ∧ Hid (DrV w6 wr)) (fun s _ => ns - (intOf s).toNat)
      case atStart => exact ⟨0, by omega, rfl, HD7⟩
      case round =>
        clear HD7
        obtain ⟨j, hj, rfl, HQ⟩ := hrel
        by_cases hjn : j < ns
        · obtain ⟨b9, o9, h9, hb9, hc9⟩ := (Reads.of_own HS6.out).lit (by omega) (by decide)
          have hse := HG3.out j hjn
          obtain ⟨k0, k1, k2, k3⟩ := ivCs_at hse
          have m0 : wr.cell? ⟨b9, o9 + j * 4, none⟩ = some (.int .i64 (G1 j).p) := by rw [HQ.out.cell]; exact hc9 _ _ k0
          have m1 : wr.cell? ⟨b9, o9 + j * 4 + 1, none⟩ = some (.int .i64 (G1 j).f) := by rw [HQ.out.cell, Nat.add_assoc]; exact hc9 _ _ k1
          have m2 : wr.cell? ⟨b9, o9 + j * 4 + 2, none⟩ = some (.int .i64 (G1 j).t) := by rw [HQ.out.cell, Nat.add_assoc]; exact hc9 _ _ k2
          have m3 : wr.cell? ⟨b9, o9 + j * 4 + 3, none⟩ = some (.bool (G1 j).h) := by rw [HQ.out.cell, Nat.add_assoc]; exact hc9 _ _ k3
          have hjm : j < r.gr.kinds.length := by omega
          have r0 : wr.cell? ⟨R1, j * 4, none⟩ = some (.int .i64 (G1 j).p) := by rw [HQ.out.cell, HR6.out.cell]; exact ivA_at (j := 0) _ hjm (by decide)
          have r1 : wr.cell? ⟨R1, j * 4 + 1, none⟩ = some (.int .i64 (G1 j).f) := by rw [HQ.out.cell, HR6.out.cell, ivA_at _ hjm (by decide)]; rfl
          have r2 : wr.cell? ⟨R1, j * 4 + 2, none⟩ = some (.int .i64 (G1 j).t) := by rw [HQ.out.cell, HR6.out.cell, ivA_at _ hjm (by decide)]; rfl
          have r3 : wr.cell? ⟨R1, j * 4 + 3, none⟩ = some (.bool (G1 j).h) := by rw [HQ.out.cell, HR6.out.cell, ivA_at _ hjm (by decide)]; rfl
          obtain ⟨sp0, hsp0⟩ : ∃ x, x = (G1 j).p := ⟨_, rfl⟩
          obtain ⟨sf0, hsf0⟩ : ∃ x, x = (G1 j).f := ⟨_, rfl⟩
          obtain ⟨st0, hst0⟩ : ∃ x, x = (G1 j).t := ⟨_, rfl⟩
          obtain ⟨sh0, hsh0⟩ : ∃ x, x = (G1 j).h := ⟨_, rfl⟩
          rw [← hsp0] at m0 r0
          rw [← hsf0] at m1 r1
          rw [← hst0] at m2 r2
          rw [← hsh0] at m3 r3
          rw [h9]
          clear hse k0 k1 k2 k3 hc9 hsp0 hsf0 hst0 hsh0 h9
          go_wp2
          go_quiet (fail)
          go_wp2
          go_roundw
          case rel => exact ⟨j + 1, by omega, by go_num, Lib.hid (HQ.out.more _)⟩
          case measure => simp [intOf]; omega
        · go_wp2
          go_ret
          exact ⟨rfl, HW6.out.trans (HQ.out.below.mono HW6.out.size)⟩
  · have HD : Hid (decide (valid (grs rs) false) = false) := Lib.hid (decide_eq_false hv)
    rw [HD.out] at HRI
    have HC : Hid (chkL (grs rs) f = 70) := Lib.hid (by
      unfold chkL
      rw [if_neg hv])
    clear hv
    go_enter Tryd.func3, Tryd.ntmps3
    go_wp2_with (first
      | (go_at_call 6; refine HF.out.mono ?_; rintro e w1 ⟨rfl, hb1⟩; rw [HZ0.out] at hb1; have HB1 := Lib.hid hb1; have HW1 := Lib.hid (HB0.out.trans (hb1.mono (by omega))); have x1 := HG.out _ hb1; clear hb1)
      | (go_at_call 7; refine (HLN.out _ HW1.out).mono ?_; rintro e w2 hl; obtain ⟨hb2, rfl⟩ := hl.bad HC.out (by decide); have hb2' := HB1.out.trans (hb2.mono (by have := HB1.out.size; rw [HZ0.out] at this; exact this)); have HB2 := Lib.hid hb2'; have HW2 := Lib.hid (HW1.out.trans (hb2.mono HW1.out.size)); have x2 := HG.out _ hb2'; clear hl hb2 hb2')
      | (go_at_call 8; refine (HSP.out _ HW2.out).mono ?_; rintro e w3 hl; obtain ⟨hb3, rfl⟩ := hl.bad HC.out (by decide); have hb3' := HB2.out.trans (hb3.mono (by have := HB2.out.size; rw [HZ0.out] at this; exact this)); have HW3 := Lib.hid (HW2.out.trans (hb3.mono HW2.out.size)); have x3 := HG.out _ hb3'; clear hl hb3 hb3')
      | (go_at_call 9; refine (HRI.out _ HW3.out).mono ?_; rintro e w4 ⟨rfl, hb4⟩; have HW4 := Lib.hid (HW3.out.trans (hb4.mono HW3.out.size)); clear hb4))
    go_ret
    exact ⟨rfl, HW4.out⟩
end Go.Proofs.YtcljjacanomggaaDoor

/-
  The line through every graph and the intervals of its places are those that the document says.
-/
namespace Go.Proofs.YtcljjacanomggaaDoor.orderLines
open Go.ChangeShapes Go.WideShapes Go.ChangeAt Go.RowKit
open Go.ChangeMaps (open_string shut_string)
set_option linter.unusedVariables false

theorem own : ownKnob Tryd.prog.godebug = none := by kernel_rfl
theorem laidOut : laidOutB Tryd.prog = true := by kernel_rfl

set_option maxRecDepth 100000 in
theorem door_met (os : Os) (args : Array Value) : laidMetH Tryd.prog Rows.orderLinesRow.laid ((World.doorLaid Tryd.prog 14 os).forCall (fun _ _ => 0) ⟨#[], args, []⟩).memory :=
  laidMet_of_run' 8 (by kernel_rfl) (by kernel_rfl)

set_option maxRecDepth 100000 in
theorem reads (os : Os) {H : Type} (enc : TypeId × Value → H) : ∃ places, DataW.whole enc Tryd.prog ((World.doorLaid Tryd.prog 14 os).forCall (fun _ _ => 0) ⟨#[], #[.agg #[.slice none 0 0], .int .i64 0], []⟩).memory Tryd.f3.params.toList Rows.orderLinesSpec.vars false #[.agg #[.slice none 0 0], .int .i64 0].toList 8 = some ([.agg [.nil], .lit (.int .i64 0)], [], places) :=
  ⟨[], by kernel_rfl⟩

set_option maxRecDepth 100000 in
theorem lifted (os : Os) (started : os.Started) (H : Type) (enc : TypeId × Value → H) (F : Stop.Interp) :
    ReturnsInHanded {} Tryd.checked os 3 .any ((OpenSpec.ofChange Rows.orderLinesSpec).preRow enc Tryd.prog Tryd.f3 Rows.orderLinesRow.domain false Rows.orderLinesRow.laid) (((OpenSpec.ofChange Rows.orderLinesSpec).at F).post enc Tryd.prog Tryd.f3 false true false false) := by
  obtain ⟨places, hx⟩ := reads os enc
  refine returnsInHanded_of_row (C := Tryd.checked) (s := OpenSpec.ofChange Rows.orderLinesSpec) own started (by kernel_rfl) Tryd.func3
    (witness_row_at (enc := enc) (C := Tryd.checked) false (World.doorLaid Tryd.prog 14 os) #[.agg #[.slice none 0 0], .int .i64 0] rfl (by kernel_rfl) (by kernel_rfl) (by kernel_rfl)
      (OpenSpec.preRow_of_cond 8 hx (by kernel_rfl) (fun k hk => by cases hk) (by kernel_rfl) (door_met os _))) ?_
  intro W base args ds gs before hval0 hW _ hcond hsz0 hL hsh _
  have hval : ∀ (j : Nat) t v, Tryd.f3.params[j]? = some t → args[j]? = some v → Value.okWide Tryd.prog W .any base t v := hval0
  have hsz : (DataW.weightsEach Tryd.prog (Tryd.f3.params.toList ++ Rows.orderLinesSpec.plain.varTypes Tryd.prog) (ds ++ gs)).all (· ≤ reachBytes) = true := hsz0
  clear hsz0 hcond
  have hW' := hW
  obtain ⟨p, q, hA0, hV, rfl, hfz, hnd⟩ := hW
  have hA : DataW.TrodAll enc Tryd.prog W 0 (fun _ => true) true Tryd.f3.params.toList args.toList ds p := hA0
  rw [Tryd.params3] at hA hval hsz
  obtain ⟨v0, vs0, d0, ds0, p0, q0, hargs, rfl, rfl, h0, r0⟩ := trodAll_cons hA
  obtain ⟨v1, vs1, d1, ds1, p1, q1, rfl, rfl, rfl, h1, r1⟩ := trodAll_cons r0
  obtain ⟨rfl, rfl, rfl⟩ := trodAll_nil r1
  obtain rfl : args = #[v0, v1] := by cases args; simp_all
  obtain ⟨rfl, rfl⟩ := trodVars_none hV
  have k0 := h0
  have lt0 : ∀ x ∈ p0, x.block < W.heap.size := by obtain ⟨m, hm⟩ := k0; exact DataW.trod_lt m _ _ _ hm
  have sm0 : Small 24 d0 := fun x hx => by simpa using List.all_eq_true.1 hsz x (DataW.weights_mem_each (j := 0) rfl rfl x hx)
  obtain ⟨a0, n0, c0, l0, rfl, r0'⟩ := open_prog (hval 0 24 v0 rfl rfl) h0 sm0
  have k1 := h1
  have lt1 : ∀ x ∈ p1, x.block < W.heap.size := by obtain ⟨m, hm⟩ := k1; exact DataW.trod_lt m _ _ _ hm
  obtain ⟨x1, rfl, _, _, w1⟩ := open_int Tryd.underlying3 (hval 1 3 v1 rfl rfl) h1
  clear hA0 hval0
  refine (lines_walk a0 n0 c0 l0 x1 W r0' (tz_tab hL)).mono fun e W' ⟨he, bel⟩ => ?_
  subst he
  exact ⟨_, rfl, _, _, _, [], _, [], hW', trodAll_mk1 (shut_bool Tryd.underlying4 _), (trodAll_cons_mk (Below.trod laidOut (by kernel_rfl) (of_decide_eq_true (by kernel_rfl)) k0 bel lt0) (trodAll_cons_mk (Below.trod laidOut (by kernel_rfl) (of_decide_eq_true (by kernel_rfl)) k1 bel lt1) trodAll_mk0)), rfl, bel.frame _, fun h => by cases h⟩

theorem said : Rows.OrderLinesSaid :=
  OpenClaim.holds_of_cond 3 Tryd.f3 rfl rfl rfl rfl rfl rfl rfl ⟨rfl, rfl, rfl, rfl, rfl⟩ rfl rfl rfl rfl rfl (by kernel_rfl) Tryd.func3 (by kernel_rfl)
    (of_decide_eq_true (by kernel_rfl)) (by unfold Func.isWrapper; first | (rw [if_pos (by decide +kernel)]; kernel_rfl) | (rw [if_neg (by decide +kernel)]; exact ⟨rfl, rfl⟩))
    (fun os started H enc _ F => by rw [OpenClaim.pre_eq_preRow]; exact lifted os started H enc F)

theorem plain (f : FuncId) (fn : Func) (hf : Tryd.pinned.checked.prog.funcNamed "windlass/windlasslaw12.OrderLines" = some f) (hfn : Tryd.pinned.checked.prog.funcs[f]? = some fn) :
    false = Tryd.pinned.checked.prog.looks [] ∧ ∀ (j : Nat) t, fn.params[j]? = some t → Tryd.pinned.checked.prog.wantsStandIn t = false := by
  obtain rfl : f = 3 := Option.some.inj ((show Tryd.prog.funcNamed "windlass/windlasslaw12.OrderLines" = some 3 by kernel_rfl).symm.trans hf) |>.symm
  obtain rfl : fn = Tryd.f3 := (Option.some.inj (Tryd.func3.symm.trans hfn)).symm
  refine ⟨by kernel_rfl, fun j t ht => ?_⟩
  rw [Tryd.params3] at ht
  have hm : t ∈ [24, 3] := by simpa using Array.mem_of_getElem? ht
  have hall : ([24, 3].all fun u => !Tryd.prog.wantsStandIn u) = true := by kernel_rfl
  exact (show Tryd.prog.wantsStandIn t = false by simpa using List.all_eq_true.1 hall t hm)

theorem proved : Rows.OrderLinesCardSaid :=
  Claim7.holds_tied_plain_at .later [] _ _ _ _ said (fun _ h => by cases h) (by kernel_rfl) (fun _ h => by cases h) orderLines_row_tie rfl ⟨rfl, rfl⟩ (by kernel_rfl) rfl plain (by kernel_rfl)
end Go.Proofs.YtcljjacanomggaaDoor.orderLines
