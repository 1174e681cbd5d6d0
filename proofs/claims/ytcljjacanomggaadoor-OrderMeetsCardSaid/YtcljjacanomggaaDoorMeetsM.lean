/-
  Places that are live together have intervals that meet.
-/
import Derived.Test.YtcljjacanomggaaDoorCards
import Derived.Test.YtcljjacanomggaaDoorTie
import Derived.WalkKit
import Derived.ProofKit
import Derived.OpenShut
import Derived.ShutString
import Derived.ChangeOld
import Derived.Below
import Derived.Deep.DeepHandedRow
import Derived.Lib.LaidTab
import Derived.LaidMore
import Derived.Deep.DeepWitnessRowRef
import Derived.SevenTiedAt
import Derived.SizedLaws
import Derived.Test.YtcljjacanomggaaDoorMA14
import Derived.Test.YtcljjacanomggaaDoorMA17
import Derived.Test.YtcljjacanomggaaDoorMA15

/-
  OrderMeets: the walk.
-/
namespace Go.Proofs.YtcljjacanomggaaDoor
set_option linter.unusedVariables false
set_option linter.unusedSimpArgs false
open Go.ChangeShapes Go.WideShapes Go.ChangeAt Go.RowKit

def DrW (w wr : World) : Prop := ∃ q, wr = w.drewN q
theorem DrW.refl (w : World) : DrW w w := ⟨0, rfl⟩
theorem DrW.more {w wr : World} (h : DrW w wr) (n : Nat) : DrW w (wr.drewN n) := by
  obtain ⟨q, rfl⟩ := h
  exact ⟨q + n, by simp [World.drewN]; omega⟩
theorem DrW.cell {w wr : World} (h : DrW w wr) (a : Addr) : wr.cell? a = w.cell? a := by
  obtain ⟨q, rfl⟩ := h
  rfl
theorem DrW.reads {w wr : World} {B size n : Nat} {A : Option Addr} {xs : List Value} (h : DrW w wr) (hr : Reads w B size A n xs) : Reads wr B size A n xs := hr.keep fun p _ => h.cell p
theorem DrW.below {w wr : World} (h : DrW w wr) : Below w.heap.size w wr := by
  obtain ⟨q, rfl⟩ := h
  exact below_drewN (Below.refl _ _) q
def ivN : Iv := ⟨0, 1073741824, -1, false⟩
def ivBy (k : Nat) : Nat → Iv := fun q => if q < k then ivN else ivZ
def ivN' : Nat → Iv := fun _ => ivN
theorem ivBy_succ (k : Nat) : upd (ivBy k) k ivN = ivBy (k + 1) := by
  funext q
  unfold upd ivBy
  by_cases e : q = k
  · subst e; rw [if_pos rfl, if_pos (by omega)]
  · rw [if_neg e]
    by_cases e2 : q < k
    · rw [if_pos e2, if_pos (by omega)]
    · rw [if_neg e2, if_neg (by omega)]
structure ByI (ns : List Nd) (ps l : List Int) (m : Nat) (sp : List Iv) (W : World) (R j : Nat) (G : Nat → Iv) (wr : World) : Prop where
  row : Blk wr R 42 (ivA m G)
  kp : KpB W wr R
  here : ∀ q : Nat, q < m → ivK ns ps l q l.length ∈ sp.take j → G q = ivK ns ps l q l.length
theorem ByI.step {ns : List Nd} {ps l : List Int} {m : Nat} {sp : List Iv} {W wr w2 : World} {R j p : Nat} {G : Nat → Iv} (h : ByI ns ps l m sp W R j G wr) (hb : Below wr.heap.size wr w2) (hx : sp[j]? = some (ivK ns ps l p l.length)) :
    ByI ns ps l m sp W R (j + 1) (upd G p (ivK ns ps l p l.length)) (setIv w2 R p (ivK ns ps l p l.length)) := by
  refine ⟨setIv_blk (h.row.below hb h.row.lt), setIv_kp (h.kp.trans (KpB.of_below R hb)), fun q hq hm => ?_⟩
  by_cases e : q = p
  · subst e
    rw [upd_at]
  · rw [upd_ne e]
    rw [List.take_add_one, hx] at hm
    rcases List.mem_append.1 hm with hm | hm
    · exact h.here q hq hm
    · have h1 : ivK ns ps l q l.length = ivK ns ps l p l.length := by simpa using hm
      have h2 : (ivK ns ps l q l.length).p = (ivK ns ps l p l.length).p := by rw [h1]
      rw [ivK_p, ivK_p] at h2
      omega
set_option maxRecDepth 100000 in
set_option maxHeartbeats 12800000 in
theorem meets_walk (fo : Option Addr) (nF cF : Nat) (rs : List RG) (f : Int) (w : World) (h : RdP w w.heap.size fo nF rs) (hT : TzTab w) :
    Calls Tryd.prog 4 #[.agg #[.slice fo nF cF], .int .i64 f] w fun e w' => e = .returned (.bool true) ∧ Below w.heap.size w w' := by
  have hb0 : Below w.heap.size w (w.alloc (.cells #[.slice fo nF cF] 24)) := (Below.refl _ _).alloc (Nat.le_refl _) _
  have HG0 := Lib.hid (Blk.new w 24 #[.slice fo nF cF])
  have HF := Lib.hid (ofirst_any (w.alloc (.cells #[.slice fo nF cF] 24)) (hT.below hb0))
  have HB0 := Lib.hid hb0
  have H := Lib.hid h
  have HLN : Hid (∀ W, Below w.heap.size w W → Calls Tryd.prog 7 #[.agg #[.slice fo nF cF], .int .i64 f] W (LnPost (grs rs) f W)) := Lib.hid fun W hb => line_any w.heap.size fo nF cF rs f W (h.below hb) hb.size
  have HSP : Hid (∀ W, Below w.heap.size w W → Calls Tryd.prog 8 #[.agg #[.slice fo nF cF], .int .i64 f] W (SpPost (grs rs) f W)) := Lib.hid fun W hb => spans_any w.heap.size fo nF cF rs f W (h.below hb) hb.size (hT.below hb)
  clear h hT hb0
  have HG : Hid (∀ W, Below (w.heap.size + 1) (w.alloc (.cells #[.slice fo nF cF] 24)) W → W.cell? ⟨w.heap.size, 0, none⟩ = some (.slice fo nF cF)) := Lib.hid fun W hb => (HG0.out.below hb (by omega)).cell 0
  have HZ0 : Hid ((w.alloc (.cells #[.slice fo nF cF] 24)).heap.size = w.heap.size + 1) := Lib.hid (by simp)
  obtain ⟨z, hz⟩ : ∃ z, z = chkL (grs rs) f := ⟨_, rfl⟩
  have HZ := Lib.hid hz
  by_cases h0 : z = 0
  · subst h0
    obtain ⟨hv, k, rfl, hk⟩ := chk_zero hz.symm
    have hkF : k < nF := by rw [length_grs, H.out.len] at hk; exact hk
    obtain ⟨b, off, r, hfe, hb, HX, HRG, HWG, x0, x1, x2, x3, x4, x5, x6, x7⟩ := H.out.gr hkF
    have HXG : Hid ((grs rs)[k]? = some r.gr) := Lib.hid (by unfold grs; rw [List.getElem?_map, HX.out]; rfl)
    have hmem : r.gr ∈ grs rs := List.mem_of_getElem? HXG.out
    have hsz := valid_sizes hv hmem
    have hnin := valid_next hv hmem
    have hlin := lineG_in hv hmem
    rw [← HRG.out.nd] at hnin
    have HRF : Hid (∀ W, Below w.heap.size w W → Calls Tryd.prog 13 #[.agg #[.slice r.po r.gr.params.length r.pc, .slice r.ko r.gr.kinds.length r.kc, .int .i64 r.gr.cells, .slice r.io r.gr.init.length r.ic, .bool r.gr.result, .int .i64 r.gr.keep, .slice r.no r.gr.nodes.length r.nc, .int .i64 r.gr.entry]] W (LlPost (liveL (nds r.ns) r.gr.kinds.length) r.gr.nodes.length W)) := Lib.hid fun W hbw => refIn_any w.heap.size r.po r.ko r.io r.no r.gr.params.length r.pc r.gr.kinds.length r.kc r.gr.init.length r.ic r.gr.nodes.length r.nc r.gr.cells r.gr.keep r.gr.entry r.gr.result r.ns W (HRG.out.nodes.below hbw) hbw.size hsz.2 hsz.1 hnin
    rw [HRG.out.nd] at HRF
    have HLI := Lib.hid hlin
    have HV := Lib.hid hv
    have HCE : Hid (∀ W, Below w.heap.size w W → W.cell? ⟨b, off + k * 8, none⟩ = some (.slice r.po r.gr.params.length r.pc) ∧ W.cell? ⟨b, off + k * 8 + 1, none⟩ = some (.slice r.ko r.gr.kinds.length r.kc) ∧ W.cell? ⟨b, off + k * 8 + 2, none⟩ = some (.int .i64 r.gr.cells) ∧ W.cell? ⟨b, off + k * 8 + 3, none⟩ = some (.slice r.io r.gr.init.length r.ic) ∧ W.cell? ⟨b, off + k * 8 + 4, none⟩ = some (.bool r.gr.result) ∧ W.cell? ⟨b, off + k * 8 + 5, none⟩ = some (.int .i64 r.gr.keep) ∧ W.cell? ⟨b, off + k * 8 + 6, none⟩ = some (.slice r.no r.gr.nodes.length r.nc) ∧ W.cell? ⟨b, off + k * 8 + 7, none⟩ = some (.int .i64 r.gr.entry)) := Lib.hid fun W hbw => ⟨(hbw.cell (p := ⟨b, _, none⟩) hb).trans x0, (hbw.cell (p := ⟨b, _, none⟩) hb).trans x1, (hbw.cell (p := ⟨b, _, none⟩) hb).trans x2, (hbw.cell (p := ⟨b, _, none⟩) hb).trans x3, (hbw.cell (p := ⟨b, _, none⟩) hb).trans x4, (hbw.cell (p := ⟨b, _, none⟩) hb).trans x5, (hbw.cell (p := ⟨b, _, none⟩) hb).trans x6, (hbw.cell (p := ⟨b, _, none⟩) hb).trans x7⟩
    rw [hfe] at HG0 HF HB0 HLN HSP HG HZ0 H ⊢
    have hm1 : r.gr.kinds.length ≤ 1024 := hsz.1
    have hn4 : r.gr.nodes.length ≤ 4096 := hsz.2
    clear hfe x0 x1 x2 x3 x4 x5 x6 x7 hsz hnin hlin hv hmem hk hz
    obtain ⟨m, hm⟩ : ∃ m, m = r.gr.kinds.length := ⟨_, rfl⟩
    have HMM := Lib.hid hm
    rw [← hm] at hm1 HCE HRF
    clear hm
    have hmk : ∀ W : World, (Instr.makeSlice 30 (.int .i64 m) (.int .i64 m)).run Tryd.prog W = .ok (.slice (some ⟨W.heap.size, 0, none⟩) m m) (W.alloc (.cells (ivA m fun _ => ⟨0, 0, 0, false⟩) 42)) := fun W => make_iv m (by omega) W
    go_enter Tryd.func4, Tryd.ntmps4
    go_upto_region 9 with (first
      | (go_at_call 6; refine HF.out.mono ?_; rintro e w1 ⟨rfl, hb1⟩; rw [HZ0.out] at hb1; have HB1 := Lib.hid hb1; have HW1 := Lib.hid (HB0.out.trans (hb1.mono (by omega))); have x1 := HG.out _ hb1; clear hb1)
      | (go_at_call 8; refine (HSP.out _ HW1.out).mono ?_; rintro e w2 hl; obtain ⟨hb2, R1, G1, rfl, hR1, hr2, hg2⟩ := hl.ok HV.out HXG.out; rw [← HMM.out] at hr2 ⊢; have hb2' := HB1.out.trans (hb2.mono (by have := HB1.out.size; rw [HZ0.out] at this; exact this)); have HB2 := Lib.hid hb2'; have HW2 := Lib.hid (HW1.out.trans (hb2.mono HW1.out.size)); have HR2 := Lib.hid hr2; have HG2 := Lib.hid hg2; have x2 := HG.out _ hb2'; clear hl hb2 hb2' hr2 hg2)
      | (go_at_call 7; refine (HLN.out _ HW2.out).mono ?_; rintro e w3 hl; obtain ⟨hb3, A3, c3, rfl, ho3⟩ := hl.ok HV.out HXG.out; have hb3' := HB2.out.trans (hb3.mono (by have := HB2.out.size; rw [HZ0.out] at this; exact this)); have HB3 := Lib.hid hb3'; have HW3 := Lib.hid (HW2.out.trans (hb3.mono HW2.out.size)); have HO3 := Lib.hid ho3; have HR3 := Lib.hid (HR2.out.below hb3 HR2.out.lt); have x3 := HG.out _ hb3'; obtain ⟨y0, y1, y2, y3, y4, y5, y6, y7⟩ := HCE.out _ HW3.out; clear hl hb3 hb3' ho3)
      | (go_at_call 13; refine (HRF.out _ HW3.out).mono ?_; rintro e w5 ⟨hb5, A5, c5, vs5, rfl, ho5⟩; have HO5 := Lib.hid ho5; have HR5 := Lib.hid (HR3.out.below hb5 HR3.out.lt); have HL5 := Lib.hid (own_kept HO3.out fun g hg => hb5.block g (own_block_le HO3.out hg).2); have hb5' := HB3.out.trans (hb5.mono (by have := HB3.out.size; rw [HZ0.out] at this; exact this)); have HW5 := Lib.hid (HW3.out.trans (hb5.mono HW3.out.size)); have x5 := HG.out _ hb5'; obtain ⟨z0, z1, z2, z3, z4, z5, z6, z7⟩ := HCE.out _ HW5.out; clear hb5 ho5 hb5'))
    obtain ⟨l, hl⟩ : ∃ l, l = lineG r.gr := ⟨_, rfl⟩
    obtain ⟨sp, hsp⟩ : ∃ sp, sp = spansG r.gr := ⟨_, rfl⟩
    obtain ⟨nl, hnl⟩ : ∃ nl, nl = l.length := ⟨_, rfl⟩
    obtain ⟨nsp, hnsp⟩ : ∃ n, n = sp.length := ⟨_, rfl⟩
    obtain ⟨n, hn⟩ : ∃ n, n = r.gr.nodes.length := ⟨_, rfl⟩
    rw [← hl] at HLI HL5 ⊢
    rw [← hsp] at HG2 ⊢
    rw [← hnl] at HLI HL5 ⊢
    rw [← hnsp] at HG2 ⊢
    rw [← hn] at HLI HO5 hn4 ⊢
    have hnsm : nsp ≤ m := by rw [hnsp, hsp, HMM.out]; exact spansL_len _ _ _ _
    have HSPM : Hid (∀ s, s ∈ sp ↔ ∃ p : Nat, p < m ∧ s = ivK r.gr.nodes r.gr.params l (p : Int) l.length ∧ 0 ≤ s.f) := Lib.hid (by
      rw [hsp, hl, HMM.out]
      exact fun s => spansL_mem)
    have HNL := Lib.hid hnl
    have HNS := Lib.hid hnsp
    have HLE := Lib.hid hl
    have HW4 : Hid (Below w5.heap.size w5 (w5.alloc (.cells (ivA m fun _ => ⟨0, 0, 0, false⟩) 42))) := Lib.hid ((Below.refl _ _).alloc (Nat.le_refl _) _)
    have HBK := Lib.hid (Blk.new w5 42 (ivA m fun _ => ⟨0, 0, 0, false⟩))
    obtain ⟨W4, hW4⟩ : ∃ W4, W4 = w5.alloc (.cells (ivA m fun _ => ⟨0, 0, 0, false⟩) 42) := ⟨_, rfl⟩
    obtain ⟨R2, hR2⟩ : ∃ R2, R2 = w5.heap.size := ⟨_, rfl⟩
    rw [← hW4] at HW4 HBK ⊢
    rw [← hR2] at HBK ⊢
    have HR2E := Lib.hid hR2
    have HKB : Hid (∀ wr, KpB W4 wr R2 → Below w5.heap.size w5 wr) := Lib.hid fun wr hk => HW4.out.trans (hk.out _ HW4.out.size (by rw [HR2E.out]; exact Nat.le_refl _))
    clear hl hsp hnl hnsp hn hW4 hR2 HR2 HR3 HO3 HB1 HB2 HB3 HF HLN HSP HG HZ0 hmk HCE x1 x2 x3 x5 y0 y1 y2 y3 y4 y5 y6 y7 z0 z1 z2 z3 z4 z5 z6 z7 HRF
    go_wp2
    go_loopw [55] (fun s wr => ∃ j : Nat, j ≤ m ∧ s = .int .i64 j ∧ Hid (Blk wr R2 42 (ivA m (ivBy j))) ∧ Hid (KpB W4 wr R2)) (fun s _ => m - (intOf s).toNat)
    case atStart => exact ⟨0, by omega, rfl, Lib.hid (by
      rw [ivA_congr (g' := fun _ => ⟨0, 0, 0, false⟩) (fun p _ => by unfold ivBy; rw [if_neg (by omega)]; rfl)]
      exact HBK.out), Lib.hid (KpB.refl _ _)⟩
    case round =>
      clear HBK
      obtain ⟨j, hj, rfl, HR, HK⟩ := hrel
      by_cases hlt : j < m
      · have z0 : wr.cell? ⟨R2, j * 4, none⟩ = some (ivX (ivBy j j) 0) := by rw [HR.out.cell]; exact ivA_at (j := 0) _ hlt (by decide)
        have z1 : wr.cell? ⟨R2, j * 4 + 1, none⟩ = some (ivX (ivBy j j) 1) := by rw [HR.out.cell, ivA_at _ hlt (by decide)]
        have z2 : wr.cell? ⟨R2, j * 4 + 2, none⟩ = some (ivX (ivBy j j) 2) := by rw [HR.out.cell, ivA_at _ hlt (by decide)]
        have z3 : wr.cell? ⟨R2, j * 4 + 3, none⟩ = some (ivX (ivBy j j) 3) := by rw [HR.out.cell, ivA_at _ hlt (by decide)]
        have e0 : wr.frozen? ⟨R2, j * 4, none⟩ = false := HR.out.frozen _
        have e1 : wr.frozen? ⟨R2, j * 4 + 1, none⟩ = false := HR.out.frozen _
        have e2 : wr.frozen? ⟨R2, j * 4 + 2, none⟩ = false := HR.out.frozen _
        have e3 : wr.frozen? ⟨R2, j * 4 + 3, none⟩ = false := HR.out.frozen _
        have HN : Hid (Blk (setIv wr R2 j ivN) R2 42 (ivA m (ivBy (j + 1))) ∧ KpB W4 (setIv wr R2 j ivN) R2) := Lib.hid ⟨by rw [← ivBy_succ]; exact setIv_blk HR.out, setIv_kp HK.out⟩
        go_wp2
        go_roundw
        case rel => exact ⟨j + 1, by omega, by go_num, Lib.hid HN.out.1, Lib.hid HN.out.2⟩
        case measure => simp [intOf]; omega
      · obtain rfl : m = j := by omega
        have HBY : Hid (ByI r.gr.nodes r.gr.params l m sp W4 R2 0 ivN' wr) := Lib.hid ⟨by
          rw [← ivA_congr (g := ivBy m) (fun p hp => by unfold ivBy ivN'; rw [if_pos hp])]
          exact HR.out, HK.out, fun q _ h => by simp at h⟩
        obtain ⟨wo, hwo⟩ : ∃ wo, wo = wr := ⟨_, rfl⟩
        rw [← hwo] at HBY ⊢
        clear hwo HR HK
        go_wp2
        go_loopw [65] (fun s wr => ∃ (j : Nat) (G : Nat → Iv), j ≤ nsp ∧ s = .int .i64 j ∧ Hid (ByI r.gr.nodes r.gr.params l m sp W4 R2 j G wr)) (fun s _ => nsp - (intOf s).toNat)
        case atStart => exact ⟨0, _, by omega, rfl, HBY⟩
        case round =>
          clear HBY
          obtain ⟨j, G, hj2, rfl, HI⟩ := hrel
          by_cases hjs : j < nsp
          · have hbk := HKB.out wr HI.out.kp
            have HR1 := Lib.hid (HR5.out.below hbk HR5.out.lt)
            obtain ⟨p, hpm, hse, hsf⟩ := (HSPM.out (G1 j)).1 (List.mem_of_getElem? (HG2.out j hjs))
            have HX1 : Hid (sp[j]? = some (ivK r.gr.nodes r.gr.params l (p : Int) l.length)) := Lib.hid (by rw [HG2.out j hjs, hse])
            obtain ⟨s, hs⟩ : ∃ s, s = ivK r.gr.nodes r.gr.params l (p : Int) l.length := ⟨_, rfl⟩
            have hsp : s.p = p := by rw [hs]; exact ivK_p _ _ _ _ _
            have hft : s.f ≤ s.t := by
              rw [hse] at hsf
              rw [hs]
              rcases ivK_ok r.gr.nodes r.gr.params l p l.length with ⟨h1, _⟩ | ⟨_, h2, _⟩
              · omega
              · exact h2
            rw [← hs] at hse HX1
            have hjm : j < m := by omega
            have x0 : wr.cell? ⟨R1, j * 4, none⟩ = some (.int .i64 p) := by rw [HR1.out.cell]; refine (ivA_at (j := 0) _ hjm (by decide)).trans ?_; rw [hse]; unfold ivX; rw [if_pos rfl, hsp]
            have x1 : wr.cell? ⟨R1, j * 4 + 1, none⟩ = some (.int .i64 s.f) := by rw [HR1.out.cell, ivA_at _ hjm (by decide), hse]; rfl
            have x2 : wr.cell? ⟨R1, j * 4 + 2, none⟩ = some (.int .i64 s.t) := by rw [HR1.out.cell, ivA_at _ hjm (by decide), hse]; rfl
            have x3 : wr.cell? ⟨R1, j * 4 + 3, none⟩ = some (.bool s.h) := by rw [HR1.out.cell, ivA_at _ hjm (by decide), hse]; rfl
            have hbA : Below wr.heap.size wr (wr.alloc (.cells #[.int .i64 p, .int .i64 s.f, .int .i64 s.t, .bool s.h] 42)) := (Below.refl _ _).alloc (Nat.le_refl _) _
            have HBX := Lib.hid (Blk.new wr 42 #[.int .i64 p, .int .i64 s.f, .int .i64 s.t, .bool s.h])
            obtain ⟨wA, hwA⟩ : ∃ wA, wA = wr.alloc (.cells #[.int .i64 p, .int .i64 s.f, .int .i64 s.t, .bool s.h] 42) := ⟨_, rfl⟩
            rw [← hwA] at hbA HBX
            have HRA := Lib.hid (HI.out.row.below hbA HI.out.row.lt)
            have HST := Lib.hid (HI.out.step (p := p) hbA (by rw [← hs]; exact HX1.out))
            rw [← hs] at HST
            obtain ⟨q, hq⟩ : ∃ q, q = wr.heap.size := ⟨_, rfl⟩
            have g1 : decide ((p : Int) < 0) = false := decide_eq_false (by omega)
            have g2 : decide ((p : Int) ≥ (m : Int)) = false := decide_eq_false (by omega)
            have g3 : decide (m ≤ p) = false := decide_eq_false (by omega)
            have g4 : decide (s.f > s.t) = false := decide_eq_false (by omega)
            have g5 : decide (s.t < s.f) = false := decide_eq_false (by omega)
            have HSPE := Lib.hid hsp
            clear hse hs hbA hbk hsf
            go_upto_region 17 with fail
            rw [← hwA]
            rw [← hq] at HBX ⊢
            clear hwA hq x0 x1 x2 x3
            have v0 : wA.cell? ⟨q, 0, none⟩ = some (.int .i64 p) := HBX.out.cell 0
            have v1 : wA.cell? ⟨q, 1, none⟩ = some (.int .i64 s.f) := HBX.out.cell 1
            have v2 : wA.cell? ⟨q, 2, none⟩ = some (.int .i64 s.t) := HBX.out.cell 2
            have v3 : wA.cell? ⟨q, 3, none⟩ = some (.bool s.h) := HBX.out.cell 3
            have z0 : wA.cell? ⟨R2, p * 4, none⟩ = some (ivX (G p) 0) := by rw [HRA.out.cell]; exact ivA_at (j := 0) _ hpm (by decide)
            have z1 : wA.cell? ⟨R2, p * 4 + 1, none⟩ = some (ivX (G p) 1) := by rw [HRA.out.cell, ivA_at _ hpm (by decide)]
            have z2 : wA.cell? ⟨R2, p * 4 + 2, none⟩ = some (ivX (G p) 2) := by rw [HRA.out.cell, ivA_at _ hpm (by decide)]
            have z3 : wA.cell? ⟨R2, p * 4 + 3, none⟩ = some (ivX (G p) 3) := by rw [HRA.out.cell, ivA_at _ hpm (by decide)]
            have e0 : wA.frozen? ⟨R2, p * 4, none⟩ = false := HRA.out.frozen _
            have e1 : wA.frozen? ⟨R2, p * 4 + 1, none⟩ = false := HRA.out.frozen _
            have e2 : wA.frozen? ⟨R2, p * 4 + 2, none⟩ = false := HRA.out.frozen _
            have e3 : wA.frozen? ⟨R2, p * 4 + 3, none⟩ = false := HRA.out.frozen _
            unfold setIv at HST
            rw [HSPE.out] at HST
            clear hsp hft
            go_wp2
            go_roundw
            case rel => exact ⟨j + 1, _, by omega, by go_num, HST⟩
            case measure => simp [intOf]; omega
          · obtain rfl : nsp = j := by omega
            have HIV : Hid (∀ p : Nat, p < m → 0 ≤ (ivK r.gr.nodes r.gr.params l p l.length).f → G p = ivK r.gr.nodes r.gr.params l p l.length) := Lib.hid fun p hp hf => HI.out.here p hp (by
              rw [List.take_of_length_le (by rw [← HNS.out]; exact Nat.le_refl _)]
              exact (HSPM.out _).2 ⟨p, hp, rfl, hf⟩)
            have HB9 := Lib.hid (HKB.out wr HI.out.kp)
            have HR9 := Lib.hid HI.out.row
            have HL9 := Lib.hid ((Reads.of_own HL5.out).below HB9.out)
            have HO9 := Lib.hid (HO5.out.on HB9.out)
            have HW9 := Lib.hid (HW5.out.trans (HB9.out.mono HW5.out.size))
            obtain ⟨w9, hw9⟩ : ∃ w9, w9 = wr := ⟨_, rfl⟩
            rw [← hw9] at HR9 HL9 HO9 HW9 ⊢
            clear hw9 HI HB9 HR5 HL5 HO5 HG2 HSPM HKB
            have HLV : Hid (∀ (a i p : Nat), l[a]? = some (i : Int) → (p : Int) ∈ liveL r.gr.nodes m i → p < m ∧ 0 ≤ (G p).f ∧ (G p).f ≤ a ∧ (a : Int) ≤ (G p).t) := Lib.hid fun a i p ha hp => by
              have hpm : p < m := by have := liveL_in _ hp; omega
              have hal : a < l.length := (List.getElem?_eq_some_iff.1 ha).1
              have hat : atL l a = i := by unfold atL; rw [List.getD_eq_getElem?_getD, ha]; simp
              have hm := spans_meet (ps := r.gr.params) hal (show Live r.gr.nodes (p : Int) (atL l a) by rw [hat]; exact (liveN_mem p hpm).1 hp)
              rw [HIV.out p hpm hm.1]
              exact ⟨hpm, hm⟩
            obtain ⟨bx0, ox0, x00, hx0e, _, HXX0, _⟩ := HL9.out.int HLI.out.2.2
            obtain ⟨i0, _, hi0⟩ := HLI.out.1 x00 (List.mem_of_getElem? HXX0.out)
            obtain ⟨bo, oo, hoe, hbo, hco⟩ := (Reads.of_own HO9.out.out).lit (by omega) (by omega)
            have HCO := Lib.hid hco
            have hnl4 : nl ≤ 4096 := HLI.out.2.1
            rw [hoe]
            clear hco HXX0 hx0e hi0 hoe
            go_wp2
            go_loopw [94] (fun s wr => ∃ a : Nat, a ≤ nl ∧ s = .int .i64 a ∧ Hid (DrW w9 wr)) (fun s _ => nl - (intOf s).toNat)
            case atStart => exact ⟨0, by omega, rfl, Lib.hid (DrW.refl _)⟩
            case round =>
              obtain ⟨a, ha, rfl, HQ⟩ := hrel
              by_cases hal : a < nl
              · obtain ⟨bx, ox, x, hxe, hbx, HXX, x1⟩ := (HQ.out.reads HL9.out).int hal
                obtain ⟨i, rfl, hi⟩ := HLI.out.1 x (List.mem_of_getElem? HXX.out)
                obtain ⟨Ay, cy, hsy⟩ := own_slice (HO9.out.own i hi)
                have ra : wr.cell? ⟨bo, oo + i, none⟩ = some (.slice Ay (liveL r.gr.nodes m i).length cy) := by rw [HQ.out.cell, ← hsy]; exact HCO.out i _ (range_at vs5 hi)
                have HA : Hid (Reads w9 w9.heap.size 1 Ay (liveL r.gr.nodes m i).length (i64c (liveL r.gr.nodes m i))) := Lib.hid (by
                  have h := HO9.out.own i hi
                  rw [hsy] at h
                  exact Reads.of_own h)
                have hlam := liveL_max r.gr.nodes m i
                obtain ⟨la, hlae⟩ : ∃ la, la = liveL r.gr.nodes m i := ⟨_, rfl⟩
                have HLV2 : Hid (∀ p : Nat, (p : Int) ∈ la → p < m ∧ 0 ≤ (G p).f ∧ (G p).f ≤ a ∧ (a : Int) ≤ (G p).t) := Lib.hid fun p hp => HLV.out a i p HXX.out (by rw [← hlae]; exact hp)
                have HLAI : Hid (∀ x ∈ la, 0 ≤ x ∧ x < (m : Int)) := Lib.hid (by rw [hlae]; exact liveL_in)
                rw [← hlae] at HA ra hlam
                obtain ⟨nla, hnla⟩ : ∃ n, n = la.length := ⟨_, rfl⟩
                rw [← hnla] at HA ra hlam
                rw [hxe]
                clear hxe hsy hlae hnla
                have HRA := Lib.hid ra
                have HRA2 : Hid (∀ wx, DrW w9 wx → wx.cell? ⟨bo, oo + i, none⟩ = some (.slice Ay nla cy)) := Lib.hid fun wx hx => by rw [hx.cell, ← HQ.out.cell]; exact HRA.out
                go_wp2
                clear x1 ra HRA
                go_loopw [104] (fun s wr => ∃ jj : Nat, jj ≤ nla ∧ s = .int .i64 jj ∧ Hid (DrW w9 wr)) (fun s _ => nla - (intOf s).toNat)
                case atStart => exact ⟨0, by omega, rfl, HQ⟩
                case round =>
                  clear HQ
                  obtain ⟨jj, hjj, rfl, HQ⟩ := hrel
                  by_cases hjn : jj < nla
                  · obtain ⟨bp, op, pz, hpe, hbp, HPP, p1⟩ := (HQ.out.reads HA.out).int hjn
                    obtain ⟨hp0, hp1⟩ := HLAI.out pz (List.mem_of_getElem? HPP.out)
                    obtain ⟨p, rfl⟩ : ∃ p : Nat, pz = (p : Int) := ⟨pz.toNat, by omega⟩
                    obtain ⟨hpm, hf0, hfa, hta⟩ := HLV2.out p (List.mem_of_getElem? HPP.out)
                    obtain ⟨fp, hfp⟩ : ∃ x, x = (G p).f := ⟨_, rfl⟩
                    obtain ⟨tp, htp⟩ : ∃ x, x = (G p).t := ⟨_, rfl⟩
                    have z1 : wr.cell? ⟨R2, p * 4 + 1, none⟩ = some (.int .i64 fp) := by rw [HQ.out.cell, HR9.out.cell, ivA_at _ hpm (by decide), hfp]; rfl
                    have z2 : wr.cell? ⟨R2, p * 4 + 2, none⟩ = some (.int .i64 tp) := by rw [HQ.out.cell, HR9.out.cell, ivA_at _ hpm (by decide), htp]; rfl
                    rw [← hfp] at hf0 hfa
                    rw [← htp] at hta
                    have g1 : decide (fp > (a : Int)) = false := decide_eq_false (by omega)
                    have g2 : decide ((a : Int) < fp) = false := decide_eq_false (by omega)
                    have g3 : decide (tp < (a : Int)) = false := decide_eq_false (by omega)
                    have g4 : decide ((a : Int) > tp) = false := decide_eq_false (by omega)
                    have HFA := Lib.hid hfa
                    have HTA := Lib.hid hta
                    have ra := HRA2.out wr HQ.out
                    have HZ1 : Hid (∀ wx, DrW w9 wx → wx.cell? ⟨R2, p * 4 + 1, none⟩ = some (.int .i64 fp) ∧ wx.cell? ⟨R2, p * 4 + 2, none⟩ = some (.int .i64 tp)) := Lib.hid fun wx hx => ⟨by rw [hx.cell, ← HQ.out.cell]; exact z1, by rw [hx.cell, ← HQ.out.cell]; exact z2⟩
                    rw [hpe] at HA HRA2 ra ⊢
                    clear hpe hp0 hp1 hfp htp hfa hta hf0
                    go_wp2
                    clear g1 g2 g3 g4 p1 z1 z2 ra
                    go_loopw [129] (fun s wr => ∃ kk : Nat, kk ≤ nla ∧ s = .int .i64 kk ∧ Hid (DrW w9 wr)) (fun s _ => nla - (intOf s).toNat)
                    case atStart => exact ⟨0, by omega, rfl, HQ⟩
                    case round =>
                      clear HQ
                      obtain ⟨kk, hkk, rfl, HQ⟩ := hrel
                      by_cases hkn : kk < nla
                      · obtain ⟨bq, oq, qz, hqe, hbq, HQQ, q1⟩ := (HQ.out.reads HA.out).int hkn
                        injection hqe with hqe
                        injection hqe with hqe1 hqe2
                        subst hqe1 hqe2
                        obtain ⟨hq0, hq1⟩ := HLAI.out qz (List.mem_of_getElem? HQQ.out)
                        obtain ⟨q, rfl⟩ : ∃ q : Nat, qz = (q : Int) := ⟨qz.toNat, by omega⟩
                        obtain ⟨hqm, hqf0, hqfa, hqta⟩ := HLV2.out q (List.mem_of_getElem? HQQ.out)
                        obtain ⟨fq, hfq⟩ : ∃ x, x = (G q).f := ⟨_, rfl⟩
                        obtain ⟨tq, htq⟩ : ∃ x, x = (G q).t := ⟨_, rfl⟩
                        have z3 : wr.cell? ⟨R2, q * 4 + 1, none⟩ = some (.int .i64 fq) := by rw [HQ.out.cell, HR9.out.cell, ivA_at _ hqm (by decide), hfq]; rfl
                        have z4 : wr.cell? ⟨R2, q * 4 + 2, none⟩ = some (.int .i64 tq) := by rw [HQ.out.cell, HR9.out.cell, ivA_at _ hqm (by decide), htq]; rfl
                        have hfa := HFA.out
                        have hta := HTA.out
                        have g1 : decide (fp > tq) = false := decide_eq_false (by omega)
                        have g2 : decide (tq < fp) = false := decide_eq_false (by omega)
                        have g3 : decide (fq > tp) = false := decide_eq_false (by omega)
                        have g4 : decide (tp < fq) = false := decide_eq_false (by omega)
                        obtain ⟨z1, z2⟩ := HZ1.out wr HQ.out
                        clear hfq htq hqf0 hqfa hqta hfa hta hq0 hq1
                        go_wp2
                        go_quiet (fail)
                        go_wp2
                        go_roundw
                        case rel => exact ⟨kk + 1, by omega, by go_num, Lib.hid (HQ.out.more _)⟩
                        case measure => simp [intOf]; omega
                      · go_wp2
                        go_roundw
                        case rel => exact ⟨jj + 1, by omega, by go_num, HQ⟩
                        case measure => simp [intOf]; omega
                  · go_wp2
                    go_roundw
                    case rel => exact ⟨a + 1, by omega, by go_num, HQ⟩
                    case measure => simp [intOf]; omega
              · go_wp2
                go_ret
                exact ⟨rfl, HW9.out.trans (HQ.out.below.mono HW9.out.size)⟩
  · have g1 : (z != 0) = true := by simpa using h0
    have H0 := Lib.hid h0
    clear h0 hz
    go_enter Tryd.func4, Tryd.ntmps4
    go_wp2_with (first
      | (go_at_call 6; refine HF.out.mono ?_; rintro e w1 ⟨rfl, hb1⟩; rw [HZ0.out] at hb1; have HB1 := Lib.hid hb1; have HW1 := Lib.hid (HB0.out.trans (hb1.mono (by omega))); have x1 := HG.out _ hb1; clear hb1)
      | (go_at_call 8; refine (HSP.out _ HW1.out).mono ?_; rintro e w2 hl; obtain ⟨hb2, rfl⟩ := hl.bad HZ.out.symm H0.out; have hb2' := HB1.out.trans (hb2.mono (by have := HB1.out.size; rw [HZ0.out] at this; exact this)); have HW2 := Lib.hid (HW1.out.trans (hb2.mono HW1.out.size)); have x2 := HG.out _ hb2'; clear hl hb2 hb2')
      | (go_at_call 7; refine (HLN.out _ HW2.out).mono ?_; rintro e w3 hl; obtain ⟨hb3, rfl⟩ := hl.bad HZ.out.symm H0.out; have HW3 := Lib.hid (HW2.out.trans (hb3.mono HW2.out.size)); clear hl hb3))
    go_ret
    exact ⟨rfl, HW3.out⟩
end Go.Proofs.YtcljjacanomggaaDoor

/-
  Places that are live together have intervals that meet.
-/
namespace Go.Proofs.YtcljjacanomggaaDoor.orderMeets
open Go.ChangeShapes Go.WideShapes Go.ChangeAt Go.RowKit
open Go.ChangeMaps (open_string shut_string)
set_option linter.unusedVariables false

theorem own : ownKnob Tryd.prog.godebug = none := by kernel_rfl
theorem laidOut : laidOutB Tryd.prog = true := by kernel_rfl

set_option maxRecDepth 100000 in
theorem door_met (os : Os) (args : Array Value) : laidMetH Tryd.prog Rows.orderMeetsRow.laid ((World.doorLaid Tryd.prog 14 os).forCall (fun _ _ => 0) ⟨#[], args, []⟩).memory :=
  laidMet_of_run' 8 (by kernel_rfl) (by kernel_rfl)

set_option maxRecDepth 100000 in
theorem reads (os : Os) {H : Type} (enc : TypeId × Value → H) : ∃ places, DataW.whole enc Tryd.prog ((World.doorLaid Tryd.prog 14 os).forCall (fun _ _ => 0) ⟨#[], #[.agg #[.slice none 0 0], .int .i64 0], []⟩).memory Tryd.f4.params.toList Rows.orderMeetsSpec.vars false #[.agg #[.slice none 0 0], .int .i64 0].toList 8 = some ([.agg [.nil], .lit (.int .i64 0)], [], places) :=
  ⟨[], by kernel_rfl⟩

set_option maxRecDepth 100000 in
theorem lifted (os : Os) (started : os.Started) (H : Type) (enc : TypeId × Value → H) (F : Stop.Interp) :
    ReturnsInHanded {} Tryd.checked os 4 .any ((OpenSpec.ofChange Rows.orderMeetsSpec).preRow enc Tryd.prog Tryd.f4 Rows.orderMeetsRow.domain false Rows.orderMeetsRow.laid) (((OpenSpec.ofChange Rows.orderMeetsSpec).at F).post enc Tryd.prog Tryd.f4 false true false false) := by
  obtain ⟨places, hx⟩ := reads os enc
  refine returnsInHanded_of_row (C := Tryd.checked) (s := OpenSpec.ofChange Rows.orderMeetsSpec) own started (by kernel_rfl) Tryd.func4
    (witness_row_at (enc := enc) (C := Tryd.checked) false (World.doorLaid Tryd.prog 14 os) #[.agg #[.slice none 0 0], .int .i64 0] rfl (by kernel_rfl) (by kernel_rfl) (by kernel_rfl)
      (OpenSpec.preRow_of_cond 8 hx (by kernel_rfl) (fun k hk => by cases hk) (by kernel_rfl) (door_met os _))) ?_
  intro W base args ds gs before hval0 hW _ hcond hsz0 hL hsh _
  have hval : ∀ (j : Nat) t v, Tryd.f4.params[j]? = some t → args[j]? = some v → Value.okWide Tryd.prog W .any base t v := hval0
  have hsz : (DataW.weightsEach Tryd.prog (Tryd.f4.params.toList ++ Rows.orderMeetsSpec.plain.varTypes Tryd.prog) (ds ++ gs)).all (· ≤ reachBytes) = true := hsz0
  clear hsz0 hcond
  have hW' := hW
  obtain ⟨p, q, hA0, hV, rfl, hfz, hnd⟩ := hW
  have hA : DataW.TrodAll enc Tryd.prog W 0 (fun _ => true) true Tryd.f4.params.toList args.toList ds p := hA0
  rw [Tryd.params4] at hA hval hsz
  obtain ⟨v0, vs0, d0, ds0, p0, q0, hargs, rfl, rfl, h0, r0⟩ := trodAll_cons hA
  obtain ⟨v1, vs1, d1, ds1, p1, q1, rfl, rfl, rfl, h1, r1⟩ := trodAll_cons r0
  obtain ⟨rfl, rfl, rfl⟩ := trodAll_nil r1
  obtain rfl : args = #[v0, v1] := by cases args; simp_all
  obtain ⟨rfl, rfl⟩ := trodVars_none hV
  have k0 := h0
  have lt0 : ∀ x ∈ p0, x.block < W.heap.size := by obtain ⟨m, hm⟩ := k0; exact DataW.trod_lt m _ _ _ hm
  have sm0 : Small 24 d0 := fun x hx => by simpa using List.all_eq_true.1 hsz x (DataW.weights_mem_each (j := 0) rfl rfl x hx)
  obtain ⟨a0, n0, c0, l0, rfl, r0'⟩ := open_prog (hval 0 24 v0 rfl rfl) h0 sm0
  have k1 := h1
  have lt1 : ∀ x ∈ p1, x.block < W.heap.size := by obtain ⟨m, hm⟩ := k1; exact DataW.trod_lt m _ _ _ hm
  obtain ⟨x1, rfl, _, _, w1⟩ := open_int Tryd.underlying3 (hval 1 3 v1 rfl rfl) h1
  clear hA0 hval0
  refine (meets_walk a0 n0 c0 l0 x1 W r0' (tz_tab hL)).mono fun e W' ⟨he, bel⟩ => ?_
  subst he
  exact ⟨_, rfl, _, _, _, [], _, [], hW', trodAll_mk1 (shut_bool Tryd.underlying4 _), (trodAll_cons_mk (Below.trod laidOut (by kernel_rfl) (of_decide_eq_true (by kernel_rfl)) k0 bel lt0) (trodAll_cons_mk (Below.trod laidOut (by kernel_rfl) (of_decide_eq_true (by kernel_rfl)) k1 bel lt1) trodAll_mk0)), rfl, bel.frame _, fun h => by cases h⟩

theorem said : Rows.OrderMeetsSaid :=
  OpenClaim.holds_of_cond 4 Tryd.f4 rfl rfl rfl rfl rfl rfl rfl ⟨rfl, rfl, rfl, rfl, rfl⟩ rfl rfl rfl rfl rfl (by kernel_rfl) Tryd.func4 (by kernel_rfl)
    (of_decide_eq_true (by kernel_rfl)) (by unfold Func.isWrapper; first | (rw [if_pos (by decide +kernel)]; kernel_rfl) | (rw [if_neg (by decide +kernel)]; exact ⟨rfl, rfl⟩))
    (fun os started H enc _ F => by rw [OpenClaim.pre_eq_preRow]; exact lifted os started H enc F)

theorem plain (f : FuncId) (fn : Func) (hf : Tryd.pinned.checked.prog.funcNamed "windlass/windlasslaw12.OrderMeets" = some f) (hfn : Tryd.pinned.checked.prog.funcs[f]? = some fn) :
    false = Tryd.pinned.checked.prog.looks [] ∧ ∀ (j : Nat) t, fn.params[j]? = some t → Tryd.pinned.checked.prog.wantsStandIn t = false := by
  obtain rfl : f = 4 := Option.some.inj ((show Tryd.prog.funcNamed "windlass/windlasslaw12.OrderMeets" = some 4 by kernel_rfl).symm.trans hf) |>.symm
  obtain rfl : fn = Tryd.f4 := (Option.some.inj (Tryd.func4.symm.trans hfn)).symm
  refine ⟨by kernel_rfl, fun j t ht => ?_⟩
  rw [Tryd.params4] at ht
  have hm : t ∈ [24, 3] := by simpa using Array.mem_of_getElem? ht
  have hall : ([24, 3].all fun u => !Tryd.prog.wantsStandIn u) = true := by kernel_rfl
  exact (show Tryd.prog.wantsStandIn t = false by simpa using List.all_eq_true.1 hall t hm)

theorem proved : Rows.OrderMeetsCardSaid :=
  Claim7.holds_tied_plain_at .later [] _ _ _ _ said (fun _ h => by cases h) (by kernel_rfl) (fun _ h => by cases h) orderMeets_row_tie rfl ⟨rfl, rfl⟩ (by kernel_rfl) rfl plain (by kernel_rfl)
end Go.Proofs.YtcljjacanomggaaDoor.orderMeets
