/-
  A line through a graph has just the nodes that are reached, each once, the Entry first.
-/
import Derived.Test.YtcljjacanomggaaDoorCards
import Derived.Test.YtcljjacanomggaaDoorTie
import Derived.WalkKit
import Derived.ProofKit
import Derived.OpenShut
import Derived.ShutString
import Derived.ChangeOld
import Derived.Below
import Derived.Deep.DeepHandedRow
import Derived.Lib.LaidTab
import Derived.LaidMore
import Derived.Deep.DeepWitnessRowRef
import Derived.SevenTiedAt
import Derived.SizedLaws
import Derived.Test.YtcljjacanomggaaDoorMA14
import Derived.Test.YtcljjacanomggaaDoorMA15

/-
  OrderAll: the walk.
-/
namespace Go.Proofs.YtcljjacanomggaaDoor
set_option linter.unusedVariables false
set_option linter.unusedSimpArgs false
open Go.ChangeShapes Go.WideShapes Go.ChangeAt Go.RowKit

def seenK (l : List Int) (k i : Nat) : Int := if (i : Int) ∈ l.take k then 1 else 0
theorem seenK_step {l : List Int} {k i : Nat} (hd : l.Nodup) (h : l[k]? = some (i : Int)) : seenK l k i = 0 ∧ (fun j => Value.int .i64 (seenK l (k + 1) j)) = upd (fun j => Value.int .i64 (seenK l k j)) i (.int .i64 1) := by
  have hn : (i : Int) ∉ l.take k := by
    intro hm
    have h1 : l = l.take k ++ l.drop k := (List.take_append_drop k l).symm
    have h2 : (i : Int) ∈ l.drop k := by
      rw [List.mem_iff_getElem?]
      exact ⟨0, by rw [List.getElem?_drop]; exact h⟩
    rw [h1] at hd
    exact (List.nodup_append.1 hd).2.2 _ hm _ h2 rfl
  refine ⟨by unfold seenK; rw [if_neg hn], ?_⟩
  funext j
  unfold upd seenK
  rw [take_at h]
  show Value.int .i64 (if (j : Int) ∈ l.take k ++ [(i : Int)] then 1 else 0) = if j = i then Value.int .i64 1 else Value.int .i64 (if (j : Int) ∈ l.take k then 1 else 0)
  by_cases e : j = i
  · subst e
    rw [if_pos rfl, if_pos (by simp)]
  · rw [if_neg e]
    by_cases h1 : (j : Int) ∈ l.take k
    · rw [if_pos h1, if_pos (by simp [h1])]
    · rw [if_neg h1, if_neg (by
        intro h2
        rcases List.mem_append.1 h2 with h2 | h2
        · exact h1 h2
        · have := List.mem_singleton.1 h2; omega)]
theorem seenK_all {l : List Int} {i : Nat} : seenK l l.length i = if (i : Int) ∈ l then 1 else 0 := by
  unfold seenK
  rw [List.take_length]
def leadK (ns : List Nd) (l : List Int) (x : Int) (j : Nat) : Bool := (l.take j).any fun y => decide (y ≠ x) && decide (x ∈ nxt ns y.toNat)
theorem leadK_succ {ns : List Nd} {l : List Int} {x y : Int} {j : Nat} (h : l[j]? = some y) : leadK ns l x (j + 1) = (leadK ns l x j || (decide (y ≠ x) && decide (x ∈ nxt ns y.toNat))) := by
  unfold leadK
  rw [take_at h, List.any_append]
  simp
theorem leadK_all {ns : List Nd} {e : Nat} {l : List Int} (h : LineP ns e l) {x : Int} (hx : x ∈ l) (hne : x ≠ e) : leadK ns l x l.length = true := by
  unfold leadK
  rw [List.take_length]
  obtain ⟨j, h1, h2, h3⟩ := h.pre x hx hne
  rw [List.any_eq_true]
  exact ⟨j, h1, by rw [Int.toNat_natCast]; simp [h2, h3]⟩
structure SeI (W : World) (S n : Nat) (f : Nat → Value) (wr : World) : Prop where
  row : Blk wr S 3 (rowA n f)
  kp : KpB W wr S
set_option maxRecDepth 100000 in
set_option maxHeartbeats 12800000 in
theorem all_walk (fo : Option Addr) (nF cF : Nat) (rs : List RG) (f : Int) (w : World) (h : RdP w w.heap.size fo nF rs) (hT : TzTab w) :
    Calls Tryd.prog 5 #[.agg #[.slice fo nF cF], .int .i64 f] w fun e w' => e = .returned (.bool true) ∧ Below w.heap.size w w' := by
  have hb0 : Below w.heap.size w (w.alloc (.cells #[.slice fo nF cF] 24)) := (Below.refl _ _).alloc (Nat.le_refl _) _
  have HG0 := Lib.hid (Blk.new w 24 #[.slice fo nF cF])
  have HF := Lib.hid (ofirst_any (w.alloc (.cells #[.slice fo nF cF] 24)) (hT.below hb0))
  have HB0 := Lib.hid hb0
  have H := Lib.hid h
  have HLN : Hid (∀ W, Below w.heap.size w W → Calls Tryd.prog 7 #[.agg #[.slice fo nF cF], .int .i64 f] W (LnPost (grs rs) f W)) := Lib.hid fun W hb => line_any w.heap.size fo nF cF rs f W (h.below hb) hb.size
  clear h hT hb0
  have HG : Hid (∀ W, Below (w.heap.size + 1) (w.alloc (.cells #[.slice fo nF cF] 24)) W → W.cell? ⟨w.heap.size, 0, none⟩ = some (.slice fo nF cF)) := Lib.hid fun W hb => (HG0.out.below hb (by omega)).cell 0
  have HZ0 : Hid ((w.alloc (.cells #[.slice fo nF cF] 24)).heap.size = w.heap.size + 1) := Lib.hid (by simp)
  obtain ⟨z, hz⟩ : ∃ z, z = chkL (grs rs) f := ⟨_, rfl⟩
  have HZ := Lib.hid hz
  by_cases h0 : z = 0
  · subst h0
    obtain ⟨hv, k, rfl, hk⟩ := chk_zero hz.symm
    have hkF : k < nF := by rw [length_grs, H.out.len] at hk; exact hk
    obtain ⟨b, off, r, hfe, hb, HX, HRG, HWG, x0, x1, x2, x3, x4, x5, x6, x7⟩ := H.out.gr hkF
    have HXG : Hid ((grs rs)[k]? = some r.gr) := Lib.hid (by unfold grs; rw [List.getElem?_map, HX.out]; rfl)
    have hmem : r.gr ∈ grs rs := List.mem_of_getElem? HXG.out
    have hsz := valid_sizes hv hmem
    have hnin := valid_next hv hmem
    obtain ⟨en, hent, hen⟩ := valid_entry hv hmem
    have hline := lineG_ok hv hmem
    have hlin := lineG_in hv hmem
    rw [hent, Int.toNat_natCast] at hline
    rw [hent] at x7
    have HLP := Lib.hid hline
    have HSZ := Lib.hid hsz
    have HNI := Lib.hid hnin
    have HLI := Lib.hid hlin
    have HV := Lib.hid hv
    have HND := Lib.hid HRG.out.nd
    have HCE : Hid (∀ W, Below w.heap.size w W → W.cell? ⟨b, off + k * 8, none⟩ = some (.slice r.po r.gr.params.length r.pc) ∧ W.cell? ⟨b, off + k * 8 + 1, none⟩ = some (.slice r.ko r.gr.kinds.length r.kc) ∧ W.cell? ⟨b, off + k * 8 + 2, none⟩ = some (.int .i64 r.gr.cells) ∧ W.cell? ⟨b, off + k * 8 + 3, none⟩ = some (.slice r.io r.gr.init.length r.ic) ∧ W.cell? ⟨b, off + k * 8 + 4, none⟩ = some (.bool r.gr.result) ∧ W.cell? ⟨b, off + k * 8 + 5, none⟩ = some (.int .i64 r.gr.keep) ∧ W.cell? ⟨b, off + k * 8 + 6, none⟩ = some (.slice r.no r.gr.nodes.length r.nc) ∧ W.cell? ⟨b, off + k * 8 + 7, none⟩ = some (.int .i64 en)) := Lib.hid fun W hbw => ⟨(hbw.cell (p := ⟨b, _, none⟩) hb).trans x0, (hbw.cell (p := ⟨b, _, none⟩) hb).trans x1, (hbw.cell (p := ⟨b, _, none⟩) hb).trans x2, (hbw.cell (p := ⟨b, _, none⟩) hb).trans x3, (hbw.cell (p := ⟨b, _, none⟩) hb).trans x4, (hbw.cell (p := ⟨b, _, none⟩) hb).trans x5, (hbw.cell (p := ⟨b, _, none⟩) hb).trans x6, (hbw.cell (p := ⟨b, _, none⟩) hb).trans x7⟩
    rw [hfe] at HG0 HF HB0 HLN HG HZ0 H ⊢
    obtain ⟨n, hn⟩ : ∃ n, n = r.gr.nodes.length := ⟨_, rfl⟩
    rw [← hn] at HCE hen
    have hn4 : n ≤ 4096 := by rw [hn]; exact hsz.2
    have hmk : ∀ W : World, (Instr.makeSlice 26 (.int .i64 n) (.int .i64 n)).run Tryd.prog W = .ok (.slice (some ⟨W.heap.size, 0, none⟩) n n) (W.alloc (.cells (madeCells #[.int .i64 0] n) 3)) := fun W => run_make_row' _ _ _ 8 Tryd.underlying26 Tryd.info3 rfl .i64 .i64 n (by omega) (by omega) W
    have HNN := Lib.hid hn
    clear hfe x0 x1 x2 x3 x4 x5 x6 x7 hsz hnin hline hlin hv hmem hk hz hn
    go_enter Tryd.func5, Tryd.ntmps5
    go_upto_region 8 with (first
      | (go_at_call 6; refine HF.out.mono ?_; rintro e w1 ⟨rfl, hb1⟩; rw [HZ0.out] at hb1; have HB1 := Lib.hid hb1; have HW1 := Lib.hid (HB0.out.trans (hb1.mono (by omega))); have x1 := HG.out _ hb1; clear hb1)
      | (go_at_call 7; refine (HLN.out _ HW1.out).mono ?_; rintro e w2 hl; obtain ⟨hb2, A2, c2, rfl, ho2⟩ := hl.ok HV.out HXG.out; have hb2' := HB1.out.trans (hb2.mono (by have := HB1.out.size; rw [HZ0.out] at this; exact this)); have HW2 := Lib.hid (HW1.out.trans (hb2.mono HW1.out.size)); have HO2 := Lib.hid ho2; have x2 := HG.out _ hb2'; obtain ⟨y0, y1, y2, y3, y4, y5, y6, y7⟩ := HCE.out _ HW2.out; clear hl hb2 hb2' ho2))
    obtain ⟨l, hl⟩ : ∃ l, l = lineG r.gr := ⟨_, rfl⟩
    obtain ⟨nl, hnl⟩ : ∃ nl, nl = l.length := ⟨_, rfl⟩
    rw [← hl] at HLP HLI HO2 ⊢
    rw [← hnl] at HLI HO2 ⊢
    have HNL := Lib.hid hnl
    have hnl4 : nl ≤ 4096 := HLI.out.2.1
    have hnl0 : 0 < nl := HLI.out.2.2
    have hnc := own_cap HO2.out
    clear hl hnl y0 y1 y2 y3 y4 y5 y6 y7 x1 x2 HB1 HF HLN HG HZ0 hmk HCE
    obtain ⟨px, hpx⟩ : ∃ p, p = w2.heap.size := ⟨_, rfl⟩
    obtain ⟨S, hS⟩ : ∃ p, p = px + 1 := ⟨_, rfl⟩
    have HGB0 := Blk.new w2 38 #[.slice r.po r.gr.params.length r.pc, .slice r.ko r.gr.kinds.length r.kc, .int .i64 r.gr.cells, .slice r.io r.gr.init.length r.ic, .bool r.gr.result, .int .i64 r.gr.keep, .slice r.no n r.nc, .int .i64 en]
    have HSB0 := Blk.new (w2.alloc (.cells #[.slice r.po r.gr.params.length r.pc, .slice r.ko r.gr.kinds.length r.kc, .int .i64 r.gr.cells, .slice r.io r.gr.init.length r.ic, .bool r.gr.result, .int .i64 r.gr.keep, .slice r.no n r.nc, .int .i64 en] 38)) 3 (madeCells #[.int .i64 0] n)
    rw [show (w2.alloc (.cells #[.slice r.po r.gr.params.length r.pc, .slice r.ko r.gr.kinds.length r.kc, .int .i64 r.gr.cells, .slice r.io r.gr.init.length r.ic, .bool r.gr.result, .int .i64 r.gr.keep, .slice r.no n r.nc, .int .i64 en] 38)).heap.size = w2.heap.size + 1 by simp] at HSB0
    have HGB1 := HGB0.alloc (.cells (madeCells #[.int .i64 0] n) 3)
    have HBW3 : Below w2.heap.size w2 ((w2.alloc (.cells #[.slice r.po r.gr.params.length r.pc, .slice r.ko r.gr.kinds.length r.kc, .int .i64 r.gr.cells, .slice r.io r.gr.init.length r.ic, .bool r.gr.result, .int .i64 r.gr.keep, .slice r.no n r.nc, .int .i64 en] 38)).alloc (.cells (madeCells #[.int .i64 0] n) 3)) := ((Below.refl _ _).alloc (Nat.le_refl _) _).alloc (by simp) _
    obtain ⟨W3, hW3⟩ : ∃ W3, W3 = (w2.alloc (.cells #[.slice r.po r.gr.params.length r.pc, .slice r.ko r.gr.kinds.length r.kc, .int .i64 r.gr.cells, .slice r.io r.gr.init.length r.ic, .bool r.gr.result, .int .i64 r.gr.keep, .slice r.no n r.nc, .int .i64 en] 38)).alloc (.cells (madeCells #[.int .i64 0] n) 3) := ⟨_, rfl⟩
    rw [← hW3] at HGB1 HSB0 HBW3 ⊢
    rw [← hpx] at HGB1 HSB0 ⊢
    rw [← hS] at HSB0 ⊢
    have HBW := Lib.hid HBW3
    have HGB := Lib.hid HGB1
    have HSE0 : Hid (SeI W3 S n (fun i => .int .i64 (seenK l 0 i)) W3) := Lib.hid ⟨by
      rw [rowA_made] at HSB0
      rw [rowA_congr (g := fun _ => .int .i64 0) (fun i _ => by unfold seenK; simp)]
      exact HSB0, KpB.refl _ _⟩
    have HPS : Hid (px < S ∧ px = w2.heap.size) := Lib.hid ⟨by omega, hpx⟩
    have HLR : Hid (∀ wr, Below px W3 wr → Reads wr px 1 A2 nl (i64c l)) := Lib.hid fun wr hb => by
      have h1 := (Reads.of_own HO2.out).below HBW.out
      rw [← HPS.out.2] at h1
      exact h1.below hb
    clear hW3 hS HGB0 HGB1 HSB0 HBW3
    have HWP : Hid (∀ wr, Below px W3 wr → Below w.heap.size w wr) := Lib.hid fun wr hb => HW2.out.trans ((HBW.out.mono HW2.out.size).trans (hb.mono (by have := HW2.out.size; rw [HPS.out.2]; exact this)))
    clear hpx
    go_wp2
    go_loopw [44] (fun s wr => ∃ j : Nat, j ≤ nl ∧ s = .int .i64 j ∧ Hid (SeI W3 S n (fun i => .int .i64 (seenK l j i)) wr)) (fun s _ => nl - (intOf s).toNat)
    case atStart => exact ⟨0, by omega, rfl, HSE0⟩
    case round =>
      clear HSE0
      obtain ⟨j, hj, rfl, HI⟩ := hrel
      have HBP : Hid (Below px W3 wr) := Lib.hid (HI.out.kp.out px (Nat.le_of_lt HGB.out.lt) (Nat.le_of_lt HPS.out.1))
      by_cases hjl : j < nl
      · obtain ⟨bx, ox, x, hxe, hbx, HXX, x1⟩ := (HLR.out wr HBP.out).int hjl
        obtain ⟨i, rfl, hi⟩ := HLI.out.1 x (List.mem_of_getElem? HXX.out)
        rw [← HNN.out] at hi
        obtain ⟨hs0, hs1⟩ := seenK_step HLP.out.nodup HXX.out
        have c1 : wr.cell? ⟨S, i, none⟩ = some (.int .i64 0) := by rw [HI.out.row.cell, rowA_at _ hi, hs0]
        have f1 : wr.frozen? ⟨S, i, none⟩ = false := HI.out.row.frozen i
        have HN1 : Hid (SeI W3 S n (fun i => .int .i64 (seenK l (j + 1) i)) (wr.setCell ⟨S, i, none⟩ (.int .i64 1))) := Lib.hid ⟨by
          have h1 := HI.out.row.set_ i (.int .i64 1)
          rw [rowA_set, ← hs1] at h1
          exact h1, HI.out.kp.set _ _⟩
        have q1 : decide ((i : Int) < 0) = false := decide_eq_false (by omega)
        have q2 : decide ((i : Int) ≥ (n : Int)) = false := decide_eq_false (by omega)
        have q3 : decide (n ≤ i) = false := decide_eq_false (by omega)
        rw [hxe]
        clear hxe hs0 hs1
        go_wp2
        go_roundw
        case rel => exact ⟨j + 1, by omega, by go_num, HN1⟩
        case measure => simp [intOf]; omega
      · obtain rfl : nl = j := by omega
        have HS : Hid (Blk wr S 3 (rowA n fun i => .int .i64 (if (i : Int) ∈ l then 1 else 0))) := Lib.hid (by
          have h := HI.out.row
          rw [HNL.out, rowA_congr (g := fun i => .int .i64 (if (i : Int) ∈ l then 1 else 0)) (fun i _ => by rw [seenK_all])] at h
          exact h)
        have HG5 := Lib.hid (HI.out.kp.blk HGB.out (by have := HPS.out; omega))
        have HR5 := Lib.hid (HLR.out wr HBP.out)
        have HW5 := Lib.hid (HWP.out wr HBP.out)
        obtain ⟨w5, hw5⟩ : ∃ w5, w5 = wr := ⟨_, rfl⟩
        rw [← hw5] at HS HG5 HR5 HW5 ⊢
        have HPL : Hid (px ≤ w5.heap.size) := Lib.hid (Nat.le_of_lt HG5.out.lt)
        clear hw5 HI HBP HLR HWP HGB HPS HO2 HBW
        obtain ⟨bx, ox, x, hxe, hbx, HXX, x1⟩ := HR5.out.int hnl0
        obtain ⟨rl, hrl⟩ := HLP.out.first
        obtain rfl : x = (en : Int) := by have h := HXX.out; rw [hrl] at h; simpa using h.symm
        have c7 : w5.cell? ⟨px, 7, none⟩ = some (.int .i64 en) := HG5.out.cell 7
        have x1' : w5.cell? ⟨bx, ox, none⟩ = some (.int .i64 en) := x1
        have HXE := Lib.hid hxe
        rw [hxe]
        have q0 : ((nl : Int) == 0) = false := by simp; omega
        have q0' : (nl == 0) = false := by simp; omega
        have q1 : ((en : Int) != (en : Int)) = false := by simp
        clear hxe hrl
        go_wp2
        go_quiet (fail)
        obtain ⟨w6, hw6⟩ : ∃ w6, w6 = w5.drewN nq := ⟨_, rfl⟩
        have HS6 : Hid (Blk w6 S 3 (rowA n fun i => .int .i64 (if (i : Int) ∈ l then 1 else 0))) := Lib.hid (by rw [hw6]; exact HS.out)
        have HG6 : Hid (Blk w6 px 38 _) := Lib.hid (by rw [hw6]; exact HG5.out)
        have HR6 : Hid (Reads w6 px 1 A2 nl (i64c l)) := Lib.hid (by rw [hw6]; exact HR5.out)
        have HW6 : Hid (Below w.heap.size w w6) := Lib.hid (by rw [hw6]; exact below_drewN HW5.out nq)
        have HP6 : Hid (px ≤ w6.heap.size) := Lib.hid (Nat.le_of_lt HG6.out.lt)
        rw [← hw6]
        clear hw6 HS HG5 HR5 HW5 HPL c7 x1 x1' q0 q0' q1 HXX hjl hj w5
        have c6 : w6.cell? ⟨px, 6, none⟩ = some (.slice r.no n r.nc) := HG6.out.cell 6
        go_wp2
        clear c6
        go_loopw [77] (fun s wr => ∃ i : Nat, i ≤ n ∧ s = .int .i64 i ∧ Hid (Below w6.heap.size w6 wr)) (fun s _ => n - (intOf s).toNat)
        case atStart => exact ⟨0, by omega, rfl, Lib.hid (Below.refl _ _)⟩
        case round =>
          obtain ⟨i, hi, rfl, HB⟩ := hrel
          by_cases hin : i < n
          · have HWR := Lib.hid (HW6.out.trans (HB.out.mono HW6.out.size))
            have hwz := HWR.out.size
            obtain ⟨bn, on, nd, hno, hbn, HXI, HRN1, HWI, u0, u1, u2, u3, u4, u5, u6, u7, u8, u9, u10, u11⟩ := (HRG.out.nodes.below HWR.out).nd (by rw [← HNN.out]; exact hin)
            have HXN : Hid (r.gr.nodes[i]? = some nd.nd) := Lib.hid (by rw [← HND.out]; unfold nds; rw [List.getElem?_map, HXI.out]; rfl)
            have hbnr : bn < wr.heap.size := by omega
            have y6 : wr.cell? ⟨px, 6, none⟩ = some (.slice r.no n r.nc) := (HG6.out.below HB.out HG6.out.lt).cell 6
            have hbA : Below wr.heap.size wr (wr.alloc (.cells #[.int .u8 nd.nd.op, .int .u8 nd.nd.bop, .int .i64 nd.nd.d, .int .i64 nd.nd.e, .int .i64 nd.nd.a, .int .i64 nd.nd.b, .int .i64 nd.nd.f, .int .i64 nd.nd.cell, .int .u64 nd.nd.imm, .slice nd.ao nd.nd.args.length nd.ac, .int .i64 nd.nd.next, .int .i64 nd.nd.els] 50)) := (Below.refl _ _).alloc (Nat.le_refl _) _
            have HNB := Lib.hid (Blk.new wr 50 #[.int .u8 nd.nd.op, .int .u8 nd.nd.bop, .int .i64 nd.nd.d, .int .i64 nd.nd.e, .int .i64 nd.nd.a, .int .i64 nd.nd.b, .int .i64 nd.nd.f, .int .i64 nd.nd.cell, .int .u64 nd.nd.imm, .slice nd.ao nd.nd.args.length nd.ac, .int .i64 nd.nd.next, .int .i64 nd.nd.els])
            obtain ⟨wA, hwA⟩ : ∃ wA, wA = wr.alloc (.cells #[.int .u8 nd.nd.op, .int .u8 nd.nd.bop, .int .i64 nd.nd.d, .int .i64 nd.nd.e, .int .i64 nd.nd.a, .int .i64 nd.nd.b, .int .i64 nd.nd.f, .int .i64 nd.nd.cell, .int .u64 nd.nd.imm, .slice nd.ao nd.nd.args.length nd.ac, .int .i64 nd.nd.next, .int .i64 nd.nd.els] 50) := ⟨_, rfl⟩
            rw [← hwA] at hbA HNB
            have HBA := Lib.hid (HB.out.trans (hbA.mono HB.out.size))
            have HSA := Lib.hid (HS6.out.below HBA.out HS6.out.lt)
            have HNX := Lib.hid (rnext_own nd.nd.op nd.nd.bop nd.nd.d nd.nd.e nd.nd.a nd.nd.b nd.nd.f nd.nd.cell nd.nd.imm nd.nd.args nd.nd.next nd.nd.els nd.ao nd.nd.args.length nd.ac wA HWI.out.o0 HWI.out.o1)
            obtain ⟨xs, hxs⟩ : ∃ xs, xs = nextsOf ⟨nd.nd.op, nd.nd.bop, nd.nd.d, nd.nd.e, nd.nd.a, nd.nd.b, nd.nd.f, nd.nd.cell, nd.nd.imm, nd.nd.args, nd.nd.next, nd.nd.els⟩ := ⟨_, rfl⟩
            rw [← hxs] at HNX
            have HXS : Hid (xs = nxt r.gr.nodes i) := Lib.hid (by rw [nxt_at HXN.out]; exact hxs)
            have hm2 : xs.length ≤ 2 := by rw [hxs]; exact nexts_lenC _
            have HXV : Hid (∀ x ∈ xs, 0 ≤ x ∧ x < (n : Int)) := Lib.hid (by rw [HXS.out, HNN.out]; exact fun x hx => nxt_in HNI.out hx)
            have v0 : wA.cell? ⟨wr.heap.size, 0, none⟩ = some (.int .u8 nd.nd.op) := HNB.out.cell 0
            have v1 : wA.cell? ⟨wr.heap.size, 1, none⟩ = some (.int .u8 nd.nd.bop) := HNB.out.cell 1
            have v2 : wA.cell? ⟨wr.heap.size, 2, none⟩ = some (.int .i64 nd.nd.d) := HNB.out.cell 2
            have v3 : wA.cell? ⟨wr.heap.size, 3, none⟩ = some (.int .i64 nd.nd.e) := HNB.out.cell 3
            have v4 : wA.cell? ⟨wr.heap.size, 4, none⟩ = some (.int .i64 nd.nd.a) := HNB.out.cell 4
            have v5 : wA.cell? ⟨wr.heap.size, 5, none⟩ = some (.int .i64 nd.nd.b) := HNB.out.cell 5
            have v6 : wA.cell? ⟨wr.heap.size, 6, none⟩ = some (.int .i64 nd.nd.f) := HNB.out.cell 6
            have v7 : wA.cell? ⟨wr.heap.size, 7, none⟩ = some (.int .i64 nd.nd.cell) := HNB.out.cell 7
            have v8 : wA.cell? ⟨wr.heap.size, 8, none⟩ = some (.int .u64 nd.nd.imm) := HNB.out.cell 8
            have v9 : wA.cell? ⟨wr.heap.size, 9, none⟩ = some (.slice nd.ao nd.nd.args.length nd.ac) := HNB.out.cell 9
            have v10 : wA.cell? ⟨wr.heap.size, 10, none⟩ = some (.int .i64 nd.nd.next) := HNB.out.cell 10
            have v11 : wA.cell? ⟨wr.heap.size, 11, none⟩ = some (.int .i64 nd.nd.els) := HNB.out.cell 11
            obtain ⟨m, hm⟩ : ∃ m, m = xs.length := ⟨_, rfl⟩
            have HM := Lib.hid hm.symm
            rw [← hm] at hm2
            rw [hno] at y6 ⊢
            clear hxs hbA hno hm
            go_upto_region 20 with fail
            rw [← hwA]
            clear hwA u0 u1 u2 u3 u4 u5 u6 u7 u8 u9 u10 u11 y6 hbnr HRN1
            obtain ⟨q, hq⟩ : ∃ q, q = wr.heap.size := ⟨_, rfl⟩
            rw [← hq] at v0 v1 v2 v3 v4 v5 v6 v7 v8 v9 v10 v11 ⊢
            clear hq HNB
            rcases Classical.em ((i : Int) ∈ l) with hil | hil
            · have s1 : wA.cell? ⟨S, i, none⟩ = some (.int .i64 1) := by rw [HSA.out.cell, rowA_at _ hin, if_pos hil]
              have HIL := Lib.hid hil
              have HCL : Hid (∀ x ∈ xs, x ∈ l) := Lib.hid (by rw [HXS.out]; exact HLP.out.clo i hil)
              clear hil
              go_wp2_with (go_at_call 14; refine HNX.out.mono ?_; rintro e w8 ⟨A8, c8, rfl, ho8, hc8, hb8⟩; rw [HM.out] at ho8 hc8 ⊢; have HO8 := Lib.hid ho8; have HB8 := Lib.hid (HBA.out.trans (hb8.mono HBA.out.size)); clear ho8 hb8)
              clear s1 v0 v1 v2 v3 v4 v5 v6 v7 v8 v9 v10 v11
              go_loopw [90] (fun s wr => ∃ j : Nat, j ≤ m ∧ s = .int .i64 j ∧ wr = w8) (fun s _ => m - (intOf s).toNat)
              case atStart => exact ⟨0, by omega, rfl, rfl⟩
              case round =>
                obtain ⟨j, hj, rfl, hwr⟩ := hrel
                rw [hwr]
                clear hwr
                by_cases hjm : j < m
                · obtain ⟨bx2, ox2, x, hxe, hbx, HXX, x1⟩ := (Reads.of_own HO8.out).int hjm
                  obtain ⟨hx0, hx1⟩ := HXV.out x (List.mem_of_getElem? HXX.out)
                  obtain ⟨y, rfl⟩ : ∃ y : Nat, x = (y : Int) := ⟨x.toNat, by omega⟩
                  have hy : y < n := by omega
                  have HS8 := Lib.hid (HS6.out.below HB8.out HS6.out.lt)
                  have s1 : w8.cell? ⟨S, i, none⟩ = some (.int .i64 1) := by rw [HS8.out.cell, rowA_at _ hin, if_pos HIL.out]
                  have s2 : w8.cell? ⟨S, y, none⟩ = some (.int .i64 1) := by rw [HS8.out.cell, rowA_at _ hy, if_pos (HCL.out y (List.mem_of_getElem? HXX.out))]
                  rw [hxe]
                  clear hxe hx0 hx1
                  go_wp2
                  go_roundw
                  case rel => exact ⟨j + 1, by omega, by go_num, by first | rfl | trivial⟩
                  case measure => simp [intOf]; omega
                · go_wp2
                  go_roundw
                  case rel => exact ⟨i + 1, by omega, by go_num, HB8⟩
                  case measure => simp [intOf]; omega
            · have s1 : wA.cell? ⟨S, i, none⟩ = some (.int .i64 0) := by rw [HSA.out.cell, rowA_at _ hin, if_neg hil]
              have HNL2 := Lib.hid hil
              clear hil
              go_wp2_with (go_at_call 14; refine HNX.out.mono ?_; rintro e w8 ⟨A8, c8, rfl, ho8, hc8, hb8⟩; rw [HM.out] at ho8 hc8 ⊢; have HO8 := Lib.hid ho8; have HB8 := Lib.hid (HBA.out.trans (hb8.mono HBA.out.size)); clear ho8 hb8)
              clear s1 v0 v1 v2 v3 v4 v5 v6 v7 v8 v9 v10 v11
              go_loopw [90] (fun s wr => ∃ j : Nat, j ≤ m ∧ s = .int .i64 j ∧ wr = w8) (fun s _ => m - (intOf s).toNat)
              case atStart => exact ⟨0, by omega, rfl, rfl⟩
              case round =>
                obtain ⟨j, hj, rfl, hwr⟩ := hrel
                rw [hwr]
                clear hwr
                by_cases hjm : j < m
                · obtain ⟨bx2, ox2, x, hxe, hbx, HXX, x1⟩ := (Reads.of_own HO8.out).int hjm
                  have HS8 := Lib.hid (HS6.out.below HB8.out HS6.out.lt)
                  have s1 : w8.cell? ⟨S, i, none⟩ = some (.int .i64 0) := by rw [HS8.out.cell, rowA_at _ hin, if_neg HNL2.out]
                  rw [hxe]
                  clear hxe
                  go_wp2
                  go_roundw
                  case rel => exact ⟨j + 1, by omega, by go_num, by first | rfl | trivial⟩
                  case measure => simp [intOf]; omega
                · go_wp2
                  go_roundw
                  case rel => exact ⟨i + 1, by omega, by go_num, HB8⟩
                  case measure => simp [intOf]; omega
          · have HR9 : Hid (Reads wr px 1 (some ⟨bx, ox, none⟩) nl (i64c l)) := Lib.hid (by rw [← HXE.out]; exact HR6.out.below (HB.out.mono HP6.out))
            have HG9 := Lib.hid (HG6.out.below HB.out HG6.out.lt)
            have HW9 := Lib.hid (HW6.out.trans (HB.out.mono HW6.out.size))
            obtain ⟨w9, hw9⟩ : ∃ w9, w9 = wr := ⟨_, rfl⟩
            rw [← hw9] at HR9 HG9 HW9 ⊢
            clear hw9 HB HS6 HG6 HR6 HW6 hi
            have hpl9 : px ≤ w9.heap.size := Nat.le_of_lt HG9.out.lt
            by_cases hc1 : c2 = 1
            · have hn1 : nl = 1 := by omega
              have hnl1 : nl - 1 = 0 := by omega
              go_wp2
              go_loopw [111] (fun s wr => s = .int .i64 0 ∧ wr = w9) (fun s _ => 0)
              case atStart => exact ⟨rfl, rfl⟩
              case round =>
                obtain ⟨rfl, rfl⟩ := hrel
                go_wp2
                go_ret
                exact ⟨rfl, HW9.out⟩
            · have hc1' : ¬ 1 = c2 := fun h => hc1 h.symm
              go_wp2
              go_loopw [111] (fun s wr => ∃ j : Nat, j ≤ nl - 1 ∧ s = .int .i64 j ∧ Hid (Below w9.heap.size w9 wr)) (fun s _ => nl - 1 - (intOf s).toNat)
              case atStart => exact ⟨0, by omega, rfl, Lib.hid (Below.refl _ _)⟩
              case round =>
                obtain ⟨j, hj, rfl, HB⟩ := hrel
                by_cases hjl : j < nl - 1
                · obtain ⟨bx3, ox3, x, hxe, hbx3, HXX, x1⟩ := (HR9.out.below (HB.out.mono hpl9)).int (k := j + 1) (by omega)
                  injection hxe with hxe
                  injection hxe with hxe1 hxe2
                  subst hxe1 hxe2
                  have x1' : wr.cell? ⟨bx, ox + 1 + j, none⟩ = some (.int .i64 x) := by rw [Nat.add_assoc, Nat.add_comm 1 j]; exact x1
                  have HMX := Lib.hid (List.mem_of_getElem? HXX.out)
                  have HNE : Hid (x ≠ (en : Int)) := Lib.hid (fun e => by
                    obtain ⟨rl, hrl⟩ := HLP.out.first
                    have hnd := HLP.out.nodup
                    rw [hrl] at hnd
                    have h1 := HXX.out
                    rw [hrl, List.getElem?_cons_succ] at h1
                    exact (List.nodup_cons.1 hnd).1 (e ▸ List.mem_of_getElem? h1))
                  have HLA := Lib.hid (leadK_all HLP.out HMX.out HNE.out)
                  rw [← HNL.out] at HLA
                  obtain ⟨wo, hwo⟩ : ∃ wo, wo = wr := ⟨_, rfl⟩
                  rw [← hwo] at HB x1' ⊢
                  clear hwo x1 HXX hbx3
                  go_wp2
                  clear x1'
                  go_loopw [117, 17] (fun s t wr => ∃ jj : Nat, jj ≤ nl ∧ s = .int .i64 jj ∧ t = .bool (leadK r.gr.nodes l x jj) ∧ Hid (Below w9.heap.size w9 wr)) (fun s _ _ => nl - (intOf s).toNat)
                  case atStart => exact ⟨0, by omega, rfl, rfl, HB⟩
                  case round =>
                    clear HB
                    obtain ⟨jj, hjj, rfl, rfl, HB⟩ := hrel
                    by_cases hjn : jj < nl
                    · obtain ⟨bx4, ox4, y, hye, hbx4, HYY, z1⟩ := (HR9.out.below (HB.out.mono hpl9)).int hjn
                      injection hye with hye
                      injection hye with hye1 hye2
                      subst hye1 hye2
                      obtain ⟨yi, rfl, hyi⟩ := HLI.out.1 y (List.mem_of_getElem? HYY.out)
                      have HSU := Lib.hid (leadK_succ (ns := r.gr.nodes) (x := x) HYY.out)
                      rw [Int.toNat_natCast] at HSU
                      rcases hak : leadK r.gr.nodes l x jj with _ | _
                      · rw [hak] at HSU
                        by_cases hyx : (yi : Int) = x
                        · have HD : Hid (leadK r.gr.nodes l x (jj + 1) = false) := Lib.hid (by rw [HSU.out]; simp [hyx])
                          have g1 : ((yi : Int) != x) = false := by simpa using hyx
                          clear hak hyx
                          go_wp2
                          go_roundw
                          case rel => exact ⟨jj + 1, by omega, by go_num, by rw [HD.out], HB⟩
                          case measure => simp [intOf]; omega
                        · have g1 : ((yi : Int) != x) = true := by simpa using hyx
                          have HWR := Lib.hid (HW9.out.trans (HB.out.mono HW9.out.size))
                          have hwz := HWR.out.size
                          obtain ⟨bn, on, nd, hno, hbn, HXI, HRN1, HWI, u0, u1, u2, u3, u4, u5, u6, u7, u8, u9, u10, u11⟩ := (HRG.out.nodes.below HWR.out).nd hyi
                          have HXN : Hid (r.gr.nodes[yi]? = some nd.nd) := Lib.hid (by rw [← HND.out]; unfold nds; rw [List.getElem?_map, HXI.out]; rfl)
                          have hyn : yi < n := by rw [HNN.out]; exact hyi
                          have hbnr : bn < wr.heap.size := by omega
                          have y6 : wr.cell? ⟨px, 6, none⟩ = some (.slice r.no n r.nc) := (HG9.out.below HB.out HG9.out.lt).cell 6
                          have HNX := Lib.hid (rnext_own nd.nd.op nd.nd.bop nd.nd.d nd.nd.e nd.nd.a nd.nd.b nd.nd.f nd.nd.cell nd.nd.imm nd.nd.args nd.nd.next nd.nd.els nd.ao nd.nd.args.length nd.ac wr HWI.out.o0 HWI.out.o1)
                          obtain ⟨xs, hxs⟩ : ∃ xs, xs = nextsOf ⟨nd.nd.op, nd.nd.bop, nd.nd.d, nd.nd.e, nd.nd.a, nd.nd.b, nd.nd.f, nd.nd.cell, nd.nd.imm, nd.nd.args, nd.nd.next, nd.nd.els⟩ := ⟨_, rfl⟩
                          rw [← hxs] at HNX
                          have HXS : Hid (nxt r.gr.nodes yi = xs) := Lib.hid (by rw [nxt_at HXN.out]; exact hxs.symm)
                          have hm2 : xs.length ≤ 2 := by rw [hxs]; exact nexts_lenC _
                          have HD : Hid (leadK r.gr.nodes l x (jj + 1) = decide (x ∈ xs)) := Lib.hid (by rw [HSU.out, HXS.out]; simp [hyx])
                          rw [hno] at y6
                          clear hxs hno hak hyx
                          go_wp2_with (first
                            | (go_at_call 14; refine HNX.out.mono ?_; rintro e w8 ⟨A8, c8, rfl, ho8, hc8, hb8⟩; have HB8 := Lib.hid (HB.out.trans (hb8.mono HB.out.size)); have HIN := Lib.hid (in_any w8.heap.size A8 xs.length c8 xs x w8 (Reads.of_own ho8) rfl (by omega)); clear ho8 hb8)
                            | (go_at_call 15; refine HIN.out.mono ?_; rintro e w12 ⟨rfl, hw12⟩; rw [hw12]; clear hw12))
                          go_roundw
                          case rel => exact ⟨jj + 1, by omega, by go_num, by rw [HD.out], HB8⟩
                          case measure => simp [intOf]; omega
                      · rw [hak] at HSU
                        have HD : Hid (leadK r.gr.nodes l x (jj + 1) = true) := Lib.hid (by rw [HSU.out]; rfl)
                        clear hak
                        go_wp2
                        go_roundw
                        case rel => exact ⟨jj + 1, by omega, by go_num, by rw [HD.out], HB⟩
                        case measure => simp [intOf]; omega
                    · obtain rfl : nl = jj := by omega
                      rw [HLA.out]
                      go_wp2
                      go_roundw
                      case rel => exact ⟨j + 1, by omega, by go_num, HB⟩
                      case measure => simp [intOf]; omega
                · go_wp2
                  go_ret
                  exact ⟨rfl, HW9.out.trans (HB.out.mono HW9.out.size)⟩
  · have g1 : (z != 0) = true := by simpa using h0
    have H0 := Lib.hid h0
    clear h0 hz
    go_enter Tryd.func5, Tryd.ntmps5
    go_wp2_with (first
      | (go_at_call 6; refine HF.out.mono ?_; rintro e w1 ⟨rfl, hb1⟩; rw [HZ0.out] at hb1; have HB1 := Lib.hid hb1; have HW1 := Lib.hid (HB0.out.trans (hb1.mono (by omega))); have x1 := HG.out _ hb1; clear hb1)
      | (go_at_call 7; refine (HLN.out _ HW1.out).mono ?_; rintro e w2 hl; obtain ⟨hb2, rfl⟩ := hl.bad HZ.out.symm H0.out; have HW2 := Lib.hid (HW1.out.trans (hb2.mono HW1.out.size)); clear hl hb2))
    go_ret
    exact ⟨rfl, HW2.out⟩
end Go.Proofs.YtcljjacanomggaaDoor

/-
  A line through a graph has just the nodes that are reached, each once, the Entry first.
-/
namespace Go.Proofs.YtcljjacanomggaaDoor.orderAll
open Go.ChangeShapes Go.WideShapes Go.ChangeAt Go.RowKit
open Go.ChangeMaps (open_string shut_string)
set_option linter.unusedVariables false

theorem own : ownKnob Tryd.prog.godebug = none := by kernel_rfl
theorem laidOut : laidOutB Tryd.prog = true := by kernel_rfl

set_option maxRecDepth 100000 in
theorem door_met (os : Os) (args : Array Value) : laidMetH Tryd.prog Rows.orderAllRow.laid ((World.doorLaid Tryd.prog 14 os).forCall (fun _ _ => 0) ⟨#[], args, []⟩).memory :=
  laidMet_of_run' 8 (by kernel_rfl) (by kernel_rfl)

set_option maxRecDepth 100000 in
theorem reads (os : Os) {H : Type} (enc : TypeId × Value → H) : ∃ places, DataW.whole enc Tryd.prog ((World.doorLaid Tryd.prog 14 os).forCall (fun _ _ => 0) ⟨#[], #[.agg #[.slice none 0 0], .int .i64 0], []⟩).memory Tryd.f5.params.toList Rows.orderAllSpec.vars false #[.agg #[.slice none 0 0], .int .i64 0].toList 8 = some ([.agg [.nil], .lit (.int .i64 0)], [], places) :=
  ⟨[], by kernel_rfl⟩

set_option maxRecDepth 100000 in
theorem lifted (os : Os) (started : os.Started) (H : Type) (enc : TypeId × Value → H) (F : Stop.Interp) :
    ReturnsInHanded {} Tryd.checked os 5 .any ((OpenSpec.ofChange Rows.orderAllSpec).preRow enc Tryd.prog Tryd.f5 Rows.orderAllRow.domain false Rows.orderAllRow.laid) (((OpenSpec.ofChange Rows.orderAllSpec).at F).post enc Tryd.prog Tryd.f5 false true false false) := by
  obtain ⟨places, hx⟩ := reads os enc
  refine returnsInHanded_of_row (C := Tryd.checked) (s := OpenSpec.ofChange Rows.orderAllSpec) own started (by kernel_rfl) Tryd.func5
    (witness_row_at (enc := enc) (C := Tryd.checked) false (World.doorLaid Tryd.prog 14 os) #[.agg #[.slice none 0 0], .int .i64 0] rfl (by kernel_rfl) (by kernel_rfl) (by kernel_rfl)
      (OpenSpec.preRow_of_cond 8 hx (by kernel_rfl) (fun k hk => by cases hk) (by kernel_rfl) (door_met os _))) ?_
  intro W base args ds gs before hval0 hW _ hcond hsz0 hL hsh _
  have hval : ∀ (j : Nat) t v, Tryd.f5.params[j]? = some t → args[j]? = some v → Value.okWide Tryd.prog W .any base t v := hval0
  have hsz : (DataW.weightsEach Tryd.prog (Tryd.f5.params.toList ++ Rows.orderAllSpec.plain.varTypes Tryd.prog) (ds ++ gs)).all (· ≤ reachBytes) = true := hsz0
  clear hsz0 hcond
  have hW' := hW
  obtain ⟨p, q, hA0, hV, rfl, hfz, hnd⟩ := hW
  have hA : DataW.TrodAll enc Tryd.prog W 0 (fun _ => true) true Tryd.f5.params.toList args.toList ds p := hA0
  rw [Tryd.params5] at hA hval hsz
  obtain ⟨v0, vs0, d0, ds0, p0, q0, hargs, rfl, rfl, h0, r0⟩ := trodAll_cons hA
  obtain ⟨v1, vs1, d1, ds1, p1, q1, rfl, rfl, rfl, h1, r1⟩ := trodAll_cons r0
  obtain ⟨rfl, rfl, rfl⟩ := trodAll_nil r1
  obtain rfl : args = #[v0, v1] := by cases args; simp_all
  obtain ⟨rfl, rfl⟩ := trodVars_none hV
  have k0 := h0
  have lt0 : ∀ x ∈ p0, x.block < W.heap.size := by obtain ⟨m, hm⟩ := k0; exact DataW.trod_lt m _ _ _ hm
  have sm0 : Small 24 d0 := fun x hx => by simpa using List.all_eq_true.1 hsz x (DataW.weights_mem_each (j := 0) rfl rfl x hx)
  obtain ⟨a0, n0, c0, l0, rfl, r0'⟩ := open_prog (hval 0 24 v0 rfl rfl) h0 sm0
  have k1 := h1
  have lt1 : ∀ x ∈ p1, x.block < W.heap.size := by obtain ⟨m, hm⟩ := k1; exact DataW.trod_lt m _ _ _ hm
  obtain ⟨x1, rfl, _, _, w1⟩ := open_int Tryd.underlying3 (hval 1 3 v1 rfl rfl) h1
  clear hA0 hval0
  refine (all_walk a0 n0 c0 l0 x1 W r0' (tz_tab hL)).mono fun e W' ⟨he, bel⟩ => ?_
  subst he
  exact ⟨_, rfl, _, _, _, [], _, [], hW', trodAll_mk1 (shut_bool Tryd.underlying4 _), (trodAll_cons_mk (Below.trod laidOut (by kernel_rfl) (of_decide_eq_true (by kernel_rfl)) k0 bel lt0) (trodAll_cons_mk (Below.trod laidOut (by kernel_rfl) (of_decide_eq_true (by kernel_rfl)) k1 bel lt1) trodAll_mk0)), rfl, bel.frame _, fun h => by cases h⟩

theorem said : Rows.OrderAllSaid :=
  OpenClaim.holds_of_cond 5 Tryd.f5 rfl rfl rfl rfl rfl rfl rfl ⟨rfl, rfl, rfl, rfl, rfl⟩ rfl rfl rfl rfl rfl (by kernel_rfl) Tryd.func5 (by kernel_rfl)
    (of_decide_eq_true (by kernel_rfl)) (by unfold Func.isWrapper; first | (rw [if_pos (by decide +kernel)]; kernel_rfl) | (rw [if_neg (by decide +kernel)]; exact ⟨rfl, rfl⟩))
    (fun os started H enc _ F => by rw [OpenClaim.pre_eq_preRow]; exact lifted os started H enc F)

theorem plain (f : FuncId) (fn : Func) (hf : Tryd.pinned.checked.prog.funcNamed "windlass/windlasslaw12.OrderAll" = some f) (hfn : Tryd.pinned.checked.prog.funcs[f]? = some fn) :
    false = Tryd.pinned.checked.prog.looks [] ∧ ∀ (j : Nat) t, fn.params[j]? = some t → Tryd.pinned.checked.prog.wantsStandIn t = false := by
  obtain rfl : f = 5 := Option.some.inj ((show Tryd.prog.funcNamed "windlass/windlasslaw12.OrderAll" = some 5 by kernel_rfl).symm.trans hf) |>.symm
  obtain rfl : fn = Tryd.f5 := (Option.some.inj (Tryd.func5.symm.trans hfn)).symm
  refine ⟨by kernel_rfl, fun j t ht => ?_⟩
  rw [Tryd.params5] at ht
  have hm : t ∈ [24, 3] := by simpa using Array.mem_of_getElem? ht
  have hall : ([24, 3].all fun u => !Tryd.prog.wantsStandIn u) = true := by kernel_rfl
  exact (show Tryd.prog.wantsStandIn t = false by simpa using List.all_eq_true.1 hall t hm)

theorem proved : Rows.OrderAllCardSaid :=
  Claim7.holds_tied_plain_at .later [] _ _ _ _ said (fun _ h => by cases h) (by kernel_rfl) (fun _ h => by cases h) orderAll_row_tie rfl ⟨rfl, rfl⟩ (by kernel_rfl) rfl plain (by kernel_rfl)
end Go.Proofs.YtcljjacanomggaaDoor.orderAll
