/-
  Texts of one seat, one behind the other: ORs, Si, OCel, Rp, Cp, Cg.
-/
import Derived.BigQuiet
import Derived.Deep.RegionLaw
import Derived.Test.YtcljjacanomggaaDoorMA18
import Derived.Test.YtcljjacanomggaaDoorMA14
import Derived.Test.YtcljjacanomggaaDoorMA17
import Derived.Test.YtcljjacanomggaaDoorMA16
import Derived.Test.YtcljjacanomggaaDoorMA2
import Derived.Test.YtcljjacanomggaaDoorMA3

/-
  The document's Spans: the walk.
-/
namespace Go.Proofs.YtcljjacanomggaaDoor
set_option linter.unusedVariables false
set_option linter.unusedSimpArgs false
open Go.ChangeShapes Go.WideShapes Go.ChangeAt Go.RowKit

def ivL (s : Iv) : List Value := [.int .i64 s.p, .int .i64 s.f, .int .i64 s.t, .bool s.h]
def ivCs (l : List Iv) : List Value := l.flatMap ivL
theorem ivCs_append (a b : List Iv) : ivCs (a ++ b) = ivCs a ++ ivCs b := by simp [ivCs]
theorem app_iv {w : World} {ops : Array Oper} {rest : List Oper} {o : Oper} {a : Act} {Q : Exit → Act → World → Prop} (hgd : o.guard = none) (s x : Operand)
    (ho : o.op = .call { callee := .builtin .append, args := #[s, x], argTypes := #[30, 30] }) (base : Nat)
    (v : Value) (n : Nat) (xs : List Value) (hs : a.eval s = v) (hown : w.ownsRow base 42 4 v n xs)
    (B : Nat) (A : Option Addr) (m c : Nat) (news : List Value) (hx : a.eval x = .slice A m c) (hr : Reads w B 4 A m news) (h1 : ∀ u ∈ news, u.oneCell' = true)
    (hbytes : (n + m) * 32 ≤ 140737488355328) (hbase : base ≤ w.heap.size)
    (h : ∀ v' w', w'.ownsRow base 42 4 v' (n + m) (xs ++ news) → w.grownBy w' v.ownBlock → (v'.ownBlock = v.ownBlock ∨ v'.ownBlock = some w.heap.size) → wpList Tryd.prog ops Q rest (a.put o.dst v') w') : wpList Tryd.prog ops Q (o :: rest) a w := by
  obtain ⟨i0, hi, hz0, hz1, hz2⟩ := info_parts info_iv
  exact wpList_append_any w hgd s x _ ho base 42 i0 (.agg #[.int .i64 0, .int .i64 0, .int .i64 0, .bool false]) 4 32 Tryd.underlying30 hi hz0 hz1 hz2 rfl (by decide) v n xs hs hown B A m c news hx hr h1 (by unfold maxLen; omega) hbytes hbase h
structure R3I (w : World) (m n nl : Nat) (cs : Array Value) (ns : List Nd) (l : List Int) (A1 A2 A3 : Option Addr) (c1 c2 c3 : Nat) (vs2 vs3 : Nat → Value) (wx : World) : Prop where
  gr : Blk wx w.heap.size 38 cs
  line : Reads wx wx.heap.size 1 A1 nl (i64c l)
  in_ : OutR w n (.slice A2 n c2) vs2 (liveL ns m) wx
  out : OutR w n (.slice A3 n c3) vs3 (liveOL ns m) wx
  below : Below w.heap.size w wx
theorem OutR.base {W W' : World} {k : Nat} {v : Value} {vs : Nat → Value} {f : Nat → List Int} {wr : World} (h : OutR W k v vs f wr) (hb : W'.heap.size ≤ W.heap.size) : OutR W' k v vs f wr := ⟨own_more h.out hb, fun i hi => own_more (h.own i hi) hb⟩
structure BxI (wB : World) (q : Nat) (s : Iv) (wr : World) : Prop where
  box : Blk wr q 42 #[.int .i64 s.p, .int .i64 s.f, .int .i64 s.t, .bool s.h]
  kp : KpB wB wr q
theorem BxI.on {wB wr w2 : World} {q : Nat} {s : Iv} (h : BxI wB q s wr) (hb : Below wr.heap.size wr w2) : BxI wB q s w2 := ⟨h.box.below hb h.box.lt, h.kp.trans (KpB.of_below q hb)⟩
theorem BxI.f {wB wr : World} {q : Nat} {s : Iv} (h : BxI wB q s wr) (x : Int) : BxI wB q ⟨s.p, x, s.t, s.h⟩ (wr.setCell ⟨q, 1, none⟩ (.int .i64 x)) := ⟨h.box.set_ 1 _, h.kp.set _ _⟩
theorem BxI.t {wB wr : World} {q : Nat} {s : Iv} (h : BxI wB q s wr) (x : Int) : BxI wB q ⟨s.p, s.f, x, s.h⟩ (wr.setCell ⟨q, 2, none⟩ (.int .i64 x)) := ⟨h.box.set_ 2 _, h.kp.set _ _⟩
theorem BxI.h {wB wr : World} {q : Nat} {s : Iv} (h : BxI wB q s wr) (x : Bool) : BxI wB q ⟨s.p, s.f, s.t, x⟩ (wr.setCell ⟨q, 3, none⟩ (.bool x)) := ⟨h.box.set_ 3 _, h.kp.set _ _⟩
theorem workB_iff {ns : List Nd} {ps l la : List Int} {p : Int} {k i : Nat} {nd : Nd} (hn : ns[i]? = some nd) (ha : atL l k = i) (hla : p ∈ la ↔ Live ns p i) : workB la (writesOf nd) ps p k = true ↔ WorkP ns ps l p k := by
  unfold workB WorkP WorkN
  rw [ha]
  simp only [Bool.or_eq_true, Bool.and_eq_true, decide_eq_true_iff, hla]
  constructor
  · rintro (h | h | h)
    · exact .inl (.inl h)
    · exact .inl (.inr ⟨nd, hn, h⟩)
    · exact .inr h
  · rintro ((h | ⟨n2, h1, h2⟩) | h)
    · exact .inl h
    · rw [hn] at h1
      injection h1 with h1
      subst h1
      exact .inr (.inl h2)
    · exact .inr (.inr h)
theorem ivK_h1 {ns : List Nd} {ps l : List Int} {p : Int} {k : Nat} (h : WorkP ns ps l p k) (hh : HeldN ns p (atL l k)) : ivK ns ps l p (k + 1) = ⟨p, if (ivK ns ps l p k).f < 0 then (k : Int) else (ivK ns ps l p k).f, k, true⟩ := by
  rw [ivK_yes h]
  simp [hh]
theorem ivK_h0 {ns : List Nd} {ps l : List Int} {p : Int} {k : Nat} (h : WorkP ns ps l p k) (hh : ¬ HeldN ns p (atL l k)) : ivK ns ps l p (k + 1) = ⟨p, if (ivK ns ps l p k).f < 0 then (k : Int) else (ivK ns ps l p k).f, k, (ivK ns ps l p k).h⟩ := by
  rw [ivK_yes h]
  simp [hh]
set_option maxRecDepth 100000 in
set_option maxHeartbeats 12800000 in
theorem rspans_any (B : Nat) (po ko io no : Option Addr) (nP pc m kc nI ic n nc en : Nat) (cells keep : Int) (res : Bool) (rn : List RN) (ps : List Int) (w : World)
    (hN : RdNs w B no n rn) (hP : Reads w B 1 po nP (i64c ps)) (hpl : ps.length = nP) (hp4 : nP ≤ 4) (hB : B ≤ w.heap.size) (hn : n ≤ 4096) (hm : m ≤ 1024) (hv : NextIn (nds rn)) (hen : en < n) :
    Calls Tryd.prog 10 #[.agg #[.slice po nP pc, .slice ko m kc, .int .i64 cells, .slice io nI ic, .bool res, .int .i64 keep, .slice no n nc, .int .i64 en]] w fun e w' => ∃ (A : Option Addr) (k c : Nat), e = .returned (.slice A k c) ∧ k = (spansL (nds rn) ps (lineK (nds rn) en) m).length ∧ w'.ownsRow w.heap.size 42 4 (.slice A k c) k (ivCs (spansL (nds rn) ps (lineK (nds rn) en) m)) ∧ Below w.heap.size w w' := by
  have hb1 : Below w.heap.size w (w.alloc (.cells #[.slice po nP pc, .slice ko m kc, .int .i64 cells, .slice io nI ic, .bool res, .int .i64 keep, .slice no n nc, .int .i64 en] 38)) := (Below.refl _ _).alloc (Nat.le_refl _) _
  have hg1 := Blk.new w 38 #[.slice po nP pc, .slice ko m kc, .int .i64 cells, .slice io nI ic, .bool res, .int .i64 keep, .slice no n nc, .int .i64 en]
  obtain ⟨W1, hW1⟩ : ∃ W, W = (w.alloc (.cells #[.slice po nP pc, .slice ko m kc, .int .i64 cells, .slice io nI ic, .bool res, .int .i64 keep, .slice no n nc, .int .i64 en] 38)) := ⟨_, rfl⟩
  rw [← hW1] at hb1 hg1
  have HG1 := Lib.hid hg1
  have HB1 := Lib.hid hb1
  have hz1 : w.heap.size < W1.heap.size := hg1.lt
  have HN := Lib.hid hN
  have HP := Lib.hid hP
  have HV := Lib.hid hv
  have HLN : Hid ((nds rn).length = n) := Lib.hid (by rw [length_nds]; exact hN.len)
  have HCL : Hid (∀ W, Blk W w.heap.size 38 #[.slice po nP pc, .slice ko m kc, .int .i64 cells, .slice io nI ic, .bool res, .int .i64 keep, .slice no n nc, .int .i64 en] → W.cell? ⟨w.heap.size, 0, none⟩ = some (.slice po nP pc) ∧ W.cell? ⟨w.heap.size, 1, none⟩ = some (.slice ko m kc) ∧ W.cell? ⟨w.heap.size, 2, none⟩ = some (.int .i64 cells) ∧ W.cell? ⟨w.heap.size, 3, none⟩ = some (.slice io nI ic) ∧ W.cell? ⟨w.heap.size, 4, none⟩ = some (.bool res) ∧ W.cell? ⟨w.heap.size, 5, none⟩ = some (.int .i64 keep) ∧ W.cell? ⟨w.heap.size, 6, none⟩ = some (.slice no n nc) ∧ W.cell? ⟨w.heap.size, 7, none⟩ = some (.int .i64 en)) := Lib.hid fun W h => ⟨h.cell 0, h.cell 1, h.cell 2, h.cell 3, h.cell 4, h.cell 5, h.cell 6, h.cell 7⟩
  obtain ⟨x0, x1, x2, x3, x4, x5, x6, x7⟩ := HCL.out W1 hg1
  have hb1d : Below w.heap.size w W1.drew := hb1.drew
  have HL1 : Hid (Calls Tryd.prog 12 #[.agg #[.slice po nP pc, .slice ko m kc, .int .i64 cells, .slice io nI ic, .bool res, .int .i64 keep, .slice no n nc, .int .i64 en]] W1.drew (NewO W1.drew (lineK (nds rn) en))) := Lib.hid (rline_any B po ko io no nP pc m kc nI ic n nc en cells keep res rn W1.drew (hN.below (hb1d.mono hB)) (by show B ≤ W1.heap.size; omega) hn hv hen)
  have HI1 : Hid (∀ W, Below w.heap.size w W → Calls Tryd.prog 13 #[.agg #[.slice po nP pc, .slice ko m kc, .int .i64 cells, .slice io nI ic, .bool res, .int .i64 keep, .slice no n nc, .int .i64 en]] W (LlPost (liveL (nds rn) m) n W)) := Lib.hid fun W hbw => refIn_any B po ko io no nP pc m kc nI ic n nc cells keep en res rn W (hN.below (hbw.mono hB)) (by have := hbw.size; omega) hn hm hv
  have HO1 : Hid (∀ W, Below w.heap.size w W → Calls Tryd.prog 23 #[.agg #[.slice po nP pc, .slice ko m kc, .int .i64 cells, .slice io nI ic, .bool res, .int .i64 keep, .slice no n nc, .int .i64 en]] W (LlPost (liveOL (nds rn) m) n W)) := Lib.hid fun W hbw => refOut_any B po ko io no nP pc m kc nI ic n nc cells keep en res rn W (hN.below (hbw.mono hB)) (by have := hbw.size; omega) hn hm hv
  obtain ⟨l, hl⟩ : ∃ l, l = lineK (nds rn) en := ⟨_, rfl⟩
  have HLP : Hid (LineP (nds rn) en l) := Lib.hid (by rw [hl]; exact lineK_ok hv (by rw [HLN.out]; exact hen))
  obtain ⟨nl, hnl⟩ : ∃ nl, nl = l.length := ⟨_, rfl⟩
  have HNL := Lib.hid hnl
  rw [← hl] at HL1 ⊢
  clear hN hP hv hb1 hg1 hl hnl hb1d
  go_enter Tryd.func10, Tryd.ntmps10
  go_upto_region 1 with fail
  rw [← hW1]
  clear hW1
  go_cut [3, 4, 5] (fun s3 s4 s5 wx => ∃ (A1 A2 A3 : Option Addr) (c1 c2 c3 : Nat) (vs2 vs3 : Nat → Value), s3 = .slice A1 nl c1 ∧ s4 = .slice A2 n c2 ∧ s5 = .slice A3 n c3 ∧ Hid (R3I w m n nl #[.slice po nP pc, .slice ko m kc, .int .i64 cells, .slice io nI ic, .bool res, .int .i64 keep, .slice no n nc, .int .i64 en] (nds rn) l A1 A2 A3 c1 c2 c3 vs2 vs3 wx))
  case first =>
    go_region_law (go_simp; first
      | (go_at_call 12; refine HL1.out.mono ?_; rintro e w2 ⟨A1, c1, rfl, ho1, hc1, hb2⟩; rw [← HNL.out] at ho1 hc1 ⊢; have HR1 := Lib.hid ho1; have HB2 := Lib.hid (HB1.out.drew.trans (hb2.mono HB1.out.size)); have HG2 := Lib.hid (HG1.out.drew.below hb2 HG1.out.lt); obtain ⟨y0, y1, y2, y3, y4, y5, y6, y7⟩ := HCL.out w2 HG2.out; clear ho1 hb2)
      | (go_at_call 13; refine (HI1.out w2 HB2.out).mono ?_; rintro e w3 ⟨hb3, A2, c2, vs2, rfl, ho2⟩; have HR2 := Lib.hid (ho2.base (W' := w) HB2.out.size); have HR1b := Lib.hid (own_kept HR1.out fun g hg => hb3.block g (own_block_le HR1.out hg).2); have HB3 := Lib.hid (HB2.out.trans (hb3.mono HB2.out.size)); have HG3 := Lib.hid (HG2.out.below hb3 HG2.out.lt); obtain ⟨z0, z1, z2, z3, z4, z5, z6, z7⟩ := HCL.out w3 HG3.out; clear ho2 hb3)
      | (go_at_call 23; refine (HO1.out w3 HB3.out).mono ?_; rintro e w4 ⟨hb4, A3, c3, vs3, rfl, ho3⟩; have HFIN : Hid (R3I w m n nl #[.slice po nP pc, .slice ko m kc, .int .i64 cells, .slice io nI ic, .bool res, .int .i64 keep, .slice no n nc, .int .i64 en] (nds rn) l A1 A2 A3 c1 c2 c3 vs2 vs3 w4) := Lib.hid ⟨HG3.out.below hb4 HG3.out.lt, Reads.of_own (own_kept HR1b.out fun g hg => hb4.block g (own_block_le HR1b.out hg).2), HR2.out.on hb4, ho3.base (W' := w) HB3.out.size, HB3.out.trans (hb4.mono HB3.out.size)⟩; clear ho3 hb4))
    all_goals
      go_wp2_with fail
      go_meet
      exact ⟨_, _, _, _, _, _, _, _, rfl, rfl, rfl, HFIN⟩
  case rest =>
    obtain ⟨A1, A2, A3, c1, c2, c3, vs2, vs3, rfl, rfl, rfl, H3⟩ := hcut
    have hnl0 : 0 < nl := by
      obtain ⟨rl, hrl⟩ := HLP.out.first
      have := HNL.out
      rw [hrl] at this
      simp at this
      omega
    have hnl4 : nl ≤ 4096 := by have h1 := HLP.out.len; rw [HLN.out, ← HNL.out] at h1; omega
    have hn0 : 0 < n := by omega
    obtain ⟨bl, ol, rfl, hbl, hcl⟩ := H3.out.line.lit hnl0 (by decide)
    obtain ⟨b2, o2, rfl, hb2, hc2⟩ := (Reads.of_own H3.out.in_.out).lit hn0 (by decide)
    obtain ⟨b3, o3, rfl, hb3, hc3⟩ := (Reads.of_own H3.out.out.out).lit hn0 (by decide)
    have HC2 := Lib.hid hc2
    have HC3 := Lib.hid hc3
    have HBN := Lib.hid (show bl < wc.heap.size ∧ b2 < wc.heap.size ∧ b3 < wc.heap.size from ⟨hbl, hb2, hb3⟩)
    have k1 : wc.cell? ⟨w.heap.size, 1, none⟩ = some (.slice ko m kc) := H3.out.gr.cell 1
    clear hcl hc2 hc3 hbl hb2 hb3 x0 x1 x2 x3 x4 x5 x6 x7 HL1 HI1 HO1 HG1 HB1 hz1 W1
    go_wp2
    clear k1
    have hwcz := H3.out.below.size
    go_loopw [6, 21] (fun v s wr => ∃ p : Nat, p ≤ m ∧ s = .int .i64 p ∧ Hid (wr.ownsRow wc.heap.size 42 4 v (spansL (nds rn) ps l p).length (ivCs (spansL (nds rn) ps l p))) ∧ Hid (Below wc.heap.size wc wr)) (fun _ s _ => m - (intOf s).toNat)
    case atStart => exact ⟨0, by omega, rfl, Lib.hid (own_none _ _ _ _), Lib.hid (Below.refl _ _)⟩
    case round =>
      obtain ⟨p, hp, rfl, HO, HB⟩ := hrel
      obtain ⟨Ao, co, rfl⟩ := own_slice HO.out
      by_cases hpm : p < m
      · have HBX0 : Hid (BxI (wr.alloc (.cells #[.int .i64 p, .int .i64 (-1), .int .i64 0, .bool false] 42)) wr.heap.size (ivK (nds rn) ps l p 0) (wr.alloc (.cells #[.int .i64 p, .int .i64 (-1), .int .i64 0, .bool false] 42))) := Lib.hid ⟨Blk.new _ _ _, KpB.refl _ _⟩
        have hbA : Below wr.heap.size wr (wr.alloc (.cells #[.int .i64 p, .int .i64 (-1), .int .i64 0, .bool false] 42)) := (Below.refl _ _).alloc (Nat.le_refl _) _
        obtain ⟨wB, hwB⟩ : ∃ wB, wB = wr.alloc (.cells #[.int .i64 p, .int .i64 (-1), .int .i64 0, .bool false] 42) := ⟨_, rfl⟩
        rw [← hwB] at HBX0 hbA
        have HBA := Lib.hid hbA
        clear hbA
        obtain ⟨w6, hw6⟩ : ∃ w6, w6 = wr := ⟨_, rfl⟩
        obtain ⟨q, hq⟩ : ∃ q, q = wr.heap.size := ⟨_, rfl⟩
        have HQE := Lib.hid hq
        go_upto_region 7 with fail
        rw [← hwB]
        rw [← hq] at HBX0 ⊢
        rw [← hw6] at HO HB HBA HQE
        clear hwB hq hw6
        have HUP : Hid (∀ wx s, BxI wB q s wx → Below w6.heap.size w6 wx) := Lib.hid fun wx s hx => HBA.out.trans (hx.kp.out w6.heap.size HBA.out.size (by rw [HQE.out]; exact Nat.le_refl _))
        have HUW : Hid (∀ wx s, BxI wB q s wx → Below wc.heap.size wc wx) := Lib.hid fun wx s hx => HB.out.trans ((HUP.out wx s hx).mono HB.out.size)
        go_wp2
        go_loopw [28] (fun s wr => ∃ k : Nat, k ≤ nl ∧ s = .int .i64 k ∧ Hid (BxI wB q (ivK (nds rn) ps l p k) wr)) (fun s _ => nl - (intOf s).toNat)
        case atStart => exact ⟨0, by omega, rfl, HBX0⟩
        case round =>
          clear HBX0
          obtain ⟨k, hk, rfl, HI⟩ := hrel
          have HBC := Lib.hid (HUW.out wr _ HI.out)
          have HBW := Lib.hid (H3.out.below.trans (HBC.out.mono hwcz))
          have hwz := HBW.out.size
          by_cases hkl : k < nl
          · obtain ⟨bx, ox, x, hxe, hbx, HXX, e1⟩ := ((H3.out.line).below HBC.out).int hkl
            injection hxe with hxe
            injection hxe with hxe1 hxe2
            subst hxe1 hxe2
            obtain ⟨i, rfl, hi⟩ := HLP.out.nat x (List.mem_of_getElem? HXX.out)
            rw [HLN.out] at hi
            have HAT : Hid (atL l k = i) := Lib.hid (by unfold atL; rw [List.getD_eq_getElem?_getD, HXX.out]; simp)
            obtain ⟨bn, on, nd, hno, hbn, HXI, HRN1, HWI, u0, u1, u2, u3, u4, u5, u6, u7, u8, u9, u10, u11⟩ := (HN.out.below (HBW.out.mono hB)).nd hi
            have HXN : Hid ((nds rn)[i]? = some nd.nd) := Lib.hid (by unfold nds; rw [List.getElem?_map, HXI.out]; rfl)
            obtain ⟨A5, c5, hs5⟩ := own_slice (H3.out.in_.own i hi)
            have HA5 : Hid (Reads wc wc.heap.size 1 A5 (liveL (nds rn) m i).length (i64c (liveL (nds rn) m i))) := Lib.hid (by
              have h := H3.out.in_.own i hi
              rw [hs5] at h
              exact Reads.of_own h)
            have e2 : wr.cell? ⟨b2, o2 + i, none⟩ = some (.slice A5 (liveL (nds rn) m i).length c5) := (HBC.out.cell (p := ⟨b2, _, none⟩) HBN.out.2.1).trans (by rw [← hs5]; exact HC2.out i _ (range_at vs2 hi))
            obtain ⟨A8, c8, hs8⟩ := own_slice (H3.out.out.own i hi)
            have HA8 : Hid (Reads wc wc.heap.size 1 A8 (liveOL (nds rn) m i).length (i64c (liveOL (nds rn) m i))) := Lib.hid (by
              have h := H3.out.out.own i hi
              rw [hs8] at h
              exact Reads.of_own h)
            have HE3 : Hid (∀ wx, Below wc.heap.size wc wx → wx.cell? ⟨b3, o3 + i, none⟩ = some (.slice A8 (liveOL (nds rn) m i).length c8)) := Lib.hid fun wx hx => (hx.cell (p := ⟨b3, _, none⟩) HBN.out.2.2).trans (by rw [← hs8]; exact HC3.out i _ (range_at vs3 hi))
            have hlm := liveL_max (nds rn) m i
            have hlom := liveOL_max (nds rn) m i
            have HG : Hid (Blk wr w.heap.size 38 #[.slice po nP pc, .slice ko m kc, .int .i64 cells, .slice io nI ic, .bool res, .int .i64 keep, .slice no n nc, .int .i64 en]) := Lib.hid (H3.out.gr.below HBC.out H3.out.gr.lt)
            obtain ⟨y0, y1, y2, y3, y4, y5, y6, y7⟩ := HCL.out wr HG.out
            have HAW := Lib.hid (atwork_any B po ko io no A5 nP pc m kc nI ic n nc nl c1 c2 c5 (liveL (nds rn) m i).length bl ol b2 o2 i k cells keep en p res rn ps (liveL (nds rn) m i) nd wr (HN.out.below (HBW.out.mono hB)) (HP.out.below (HBW.out.mono hB)) hpl hp4 (by omega) hi hn hkl hnl4 e1 e2 ((HA5.out.below HBC.out).more HBC.out.size) rfl (by omega) HXI.out)
            have HWI2 := Lib.hid (workB_iff (ps := ps) (la := liveL (nds rn) m i) (p := (p : Int)) HXN.out HAT.out (liveN_mem p hpm))
            clear hs5 hs8
            by_cases hwk : WorkP (nds rn) ps l p k
            · have hwt : workB (liveL (nds rn) m i) (writesOf nd.nd) ps p k = true := HWI2.out.2 hwk
              rw [hwt] at HAW
              obtain ⟨s0, hs0⟩ : ∃ s, s = ivK (nds rn) ps l p k := ⟨_, rfl⟩
              have HSE := Lib.hid hs0
              have HSP0 : Hid (s0.p = (p : Int)) := Lib.hid (by rw [hs0]; exact ivK_p _ _ _ _ _)
              rw [← hs0] at HI
              clear u0 u1 u2 u3 u4 u5 u6 u7 u8 u9 u10 u11 hno hs0 hwt
              have hcase : decide (s0.f < 0) = true ∨ decide (s0.f < 0) = false := by
                rcases decide (s0.f < 0) with _ | _
                · exact .inr rfl
                · exact .inl rfl
              go_upto_region 11 with (go_at_call 24; refine HAW.out.mono ?_; rintro e w7 ⟨rfl, hb7⟩; have HI7 := Lib.hid (HI.out.on hb7); have t1 : w7.cell? ⟨q, 1, none⟩ = some (.int .i64 s0.f) := HI7.out.box.cell 1; have t2 : w7.cell? ⟨q, 2, none⟩ = some (.int .i64 s0.t) := HI7.out.box.cell 2; have f1 : w7.frozen? ⟨q, 1, none⟩ = false := HI7.out.box.frozen 1; have f2 : w7.frozen? ⟨q, 2, none⟩ = false := HI7.out.box.frozen 2; clear hb7)
              clear y0 y1 y2 y3 y4 y5 y6 y7 e1 e2 HG HAW
              rcases hcase with g1 | g1
              all_goals
                go_upto_region 14 with fail
                first
                  | (obtain ⟨w8, hw8⟩ : ∃ w8, w8 = (w7.setCell ⟨q, 1, none⟩ (.int .i64 k)).setCell ⟨q, 2, none⟩ (.int .i64 k) := ⟨_, rfl⟩
                     rw [← hw8]
                     obtain ⟨fz, hfz, HI8⟩ : ∃ fz : Int, Hid (fz = (if s0.f < 0 then (k : Int) else s0.f)) ∧ Hid (BxI wB q ⟨s0.p, fz, k, s0.h⟩ w8) := ⟨k, Lib.hid (by rw [if_pos (of_decide_eq_true g1)]), Lib.hid (by rw [hw8]; exact (HI7.out.f k).t k)⟩
                     clear hw8)
                  | (obtain ⟨w8, hw8⟩ : ∃ w8, w8 = w7.setCell ⟨q, 2, none⟩ (.int .i64 k) := ⟨_, rfl⟩
                     rw [← hw8]
                     obtain ⟨fz, hfz, HI8⟩ : ∃ fz : Int, Hid (fz = (if s0.f < 0 then (k : Int) else s0.f)) ∧ Hid (BxI wB q ⟨s0.p, fz, k, s0.h⟩ w8) := ⟨s0.f, Lib.hid (by rw [if_neg (of_decide_eq_false g1)]), Lib.hid (by rw [hw8]; exact HI7.out.t k)⟩
                     clear hw8)
                clear g1 t1 t2 f1 f2 HI7 HI HBC HBW hwz
                have HBC := Lib.hid (HUW.out w8 _ HI8.out)
                have HBW := Lib.hid (H3.out.below.trans (HBC.out.mono hwcz))
                have hwz := HBW.out.size
                obtain ⟨bn2, on2, nd2, hno, hbn2, HXI2, HRN2, HWI3, u0, u1, u2, u3, u4, u5, u6, u7, u8, u9, u10, u11⟩ := (HN.out.below (HBW.out.mono hB)).nd hi
                obtain rfl : nd = nd2 := by
                  have h := HXI.out
                  rw [HXI2.out] at h
                  injection h with h
                  exact h.symm
                have hbnr : bn2 < w8.heap.size := by omega
                have y6 : w8.cell? ⟨w.heap.size, 6, none⟩ = some (.slice no n nc) := (H3.out.gr.below HBC.out H3.out.gr.lt).cell 6
                rw [hno] at y6
                have HNB := Lib.hid (Blk.new w8 50 #[.int .u8 nd.nd.op, .int .u8 nd.nd.bop, .int .i64 nd.nd.d, .int .i64 nd.nd.e, .int .i64 nd.nd.a, .int .i64 nd.nd.b, .int .i64 nd.nd.f, .int .i64 nd.nd.cell, .int .u64 nd.nd.imm, .slice nd.ao nd.nd.args.length nd.ac, .int .i64 nd.nd.next, .int .i64 nd.nd.els])
                have HAB : Hid (Below w8.heap.size w8 (w8.alloc (.cells #[.int .u8 nd.nd.op, .int .u8 nd.nd.bop, .int .i64 nd.nd.d, .int .i64 nd.nd.e, .int .i64 nd.nd.a, .int .i64 nd.nd.b, .int .i64 nd.nd.f, .int .i64 nd.nd.cell, .int .u64 nd.nd.imm, .slice nd.ao nd.nd.args.length nd.ac, .int .i64 nd.nd.next, .int .i64 nd.nd.els] 50))) := Lib.hid ((Below.refl _ _).alloc (Nat.le_refl _) _)
                obtain ⟨wA, hwA⟩ : ∃ wA, wA = w8.alloc (.cells #[.int .u8 nd.nd.op, .int .u8 nd.nd.bop, .int .i64 nd.nd.d, .int .i64 nd.nd.e, .int .i64 nd.nd.a, .int .i64 nd.nd.b, .int .i64 nd.nd.f, .int .i64 nd.nd.cell, .int .u64 nd.nd.imm, .slice nd.ao nd.nd.args.length nd.ac, .int .i64 nd.nd.next, .int .i64 nd.nd.els] 50) := ⟨_, rfl⟩
                rw [← hwA] at HNB HAB
                have HIA := Lib.hid (HI8.out.on HAB.out)
                have HBCA := Lib.hid (HBC.out.trans (HAB.out.mono HBC.out.size))
                have HWX := Lib.hid (rwrites_any B nd.nd.op nd.nd.bop nd.nd.d nd.nd.e nd.nd.a nd.nd.b nd.nd.f nd.nd.cell nd.nd.imm nd.nd.args nd.nd.next nd.nd.els nd.ao nd.nd.args.length nd.ac wA HWI.out.o0 HWI.out.o1 HWI.out.d HWI.out.e HWI.out.a HWI.out.b HWI.out.next HWI.out.els (HRN2.out.args.below (HAB.out.mono (by omega))) rfl HWI.out.args HWI.out.al HRN2.out.cap (by have := HAB.out.size; omega))
                obtain ⟨ws, hws⟩ : ∃ ws, ws = writesOf ⟨nd.nd.op, nd.nd.bop, nd.nd.d, nd.nd.e, nd.nd.a, nd.nd.b, nd.nd.f, nd.nd.cell, nd.nd.imm, nd.nd.args, nd.nd.next, nd.nd.els⟩ := ⟨_, rfl⟩
                rw [← hws] at HWX
                have HWS : Hid (writesOf nd.nd = ws) := Lib.hid hws.symm
                have hw2 : ws.length ≤ 2 := by rw [hws]; exact lens2 _
                have HINA := Lib.hid (in_any wc.heap.size A8 (liveOL (nds rn) m i).length c8 (liveOL (nds rn) m i) p wA (HA8.out.below HBCA.out) rfl (by omega))
                have a3 := HE3.out wA HBCA.out
                have HHN : Hid (HeldN (nds rn) p (atL l k) ↔ (nd.nd.op = 11 ∨ nd.nd.op = 13) ∧ (p : Int) ∈ liveOL (nds rn) m i ∧ (p : Int) ∉ ws) := Lib.hid (by
                  rw [HAT.out, liveON_mem p hpm, ← HWS.out]
                  unfold HeldN
                  constructor
                  · rintro ⟨n2, h1, h2, h3, h4⟩
                    rw [HXN.out] at h1
                    injection h1 with h1
                    subst h1
                    exact ⟨h2, h3, h4⟩
                  · rintro ⟨h2, h3, h4⟩
                    exact ⟨nd.nd, HXN.out, h2, h3, h4⟩)
                have HK0 : Hid (¬ HeldN (nds rn) p (atL l k) → ivK (nds rn) ps l p (k + 1) = ⟨s0.p, fz, k, s0.h⟩) := Lib.hid fun hh => by rw [ivK_h0 hwk hh, ← HSE.out, ← hfz.out, HSP0.out]
                have HK1 : Hid (HeldN (nds rn) p (atL l k) → ivK (nds rn) ps l p (k + 1) = ⟨s0.p, fz, k, true⟩) := Lib.hid fun hh => by rw [ivK_h1 hwk hh, ← HSE.out, ← hfz.out, HSP0.out]
                obtain ⟨qn, hqn⟩ : ∃ qn, qn = w8.heap.size := ⟨_, rfl⟩
                go_upto_region 15 with fail
                rw [← hwA]
                rw [← hqn] at HNB ⊢
                clear hwA hqn u0 u1 u2 u3 u4 u5 u6 u7 u8 u9 u10 u11 y6 hbnr hws hno
                have v0 : wA.cell? ⟨qn, 0, none⟩ = some (.int .u8 nd.nd.op) := HNB.out.cell 0
                have v1 : wA.cell? ⟨qn, 1, none⟩ = some (.int .u8 nd.nd.bop) := HNB.out.cell 1
                have v2 : wA.cell? ⟨qn, 2, none⟩ = some (.int .i64 nd.nd.d) := HNB.out.cell 2
                have v3 : wA.cell? ⟨qn, 3, none⟩ = some (.int .i64 nd.nd.e) := HNB.out.cell 3
                have v4 : wA.cell? ⟨qn, 4, none⟩ = some (.int .i64 nd.nd.a) := HNB.out.cell 4
                have v5 : wA.cell? ⟨qn, 5, none⟩ = some (.int .i64 nd.nd.b) := HNB.out.cell 5
                have v6 : wA.cell? ⟨qn, 6, none⟩ = some (.int .i64 nd.nd.f) := HNB.out.cell 6
                have v7 : wA.cell? ⟨qn, 7, none⟩ = some (.int .i64 nd.nd.cell) := HNB.out.cell 7
                have v8 : wA.cell? ⟨qn, 8, none⟩ = some (.int .u64 nd.nd.imm) := HNB.out.cell 8
                have v9 : wA.cell? ⟨qn, 9, none⟩ = some (.slice nd.ao nd.nd.args.length nd.ac) := HNB.out.cell 9
                have v10 : wA.cell? ⟨qn, 10, none⟩ = some (.int .i64 nd.nd.next) := HNB.out.cell 10
                have v11 : wA.cell? ⟨qn, 11, none⟩ = some (.int .i64 nd.nd.els) := HNB.out.cell 11
                by_cases hop : nd.nd.op = 11 ∨ nd.nd.op = 13
                · have gop : (nd.nd.op == 11) = true ∨ (nd.nd.op == 11) = false ∧ (nd.nd.op == 13) = true := by
                    rcases hop with h | h
                    · exact .inl (by rw [h]; rfl)
                    · exact .inr ⟨by rw [h]; rfl, by rw [h]; rfl⟩
                  have HOP := Lib.hid hop
                  clear hop
                  by_cases hlo : (p : Int) ∈ liveOL (nds rn) m i
                  · have HD : Hid (decide ((p : Int) ∈ liveOL (nds rn) m i) = true) := Lib.hid (decide_eq_true hlo)
                    rw [HD.out] at HINA
                    by_cases hpw : (p : Int) ∈ ws
                    · have HD2 : Hid (decide ((p : Int) ∈ ws) = true) := Lib.hid (decide_eq_true hpw)
                      have HFIN := Lib.hid (HK0.out fun h => (HHN.out.1 h).2.2 hpw)
                      clear hlo hpw
                      rcases gop with g11 | ⟨g11, g13⟩
                      all_goals
                        go_wp2_with (first
                          | (go_at_call 15; (with_reducible refine HINA.out.mono ?_); rintro e wx ⟨rfl, hwx⟩; rw [hwx]; clear hwx)
                          | (go_at_call 25; refine HWX.out.mono ?_; rintro e w9 ⟨A9, c9, rfl, hr9, hc9, hb9⟩; have HIN9 := Lib.hid (in_any w9.heap.size A9 ws.length c9 ws p w9 hr9 rfl (by omega)); rw [HD2.out] at HIN9; have HI9 := Lib.hid (HIA.out.on hb9); clear hr9 hb9)
                          | (go_at_call 15; (with_reducible refine HIN9.out.mono ?_); rintro e wx ⟨rfl, hwx⟩; rw [hwx]; clear hwx))
                        go_roundw
                        case rel => exact ⟨k + 1, by omega, by go_num, by rw [HFIN.out]; exact HI9⟩
                        case measure => simp [intOf]; omega
                    · have HD2 : Hid (decide ((p : Int) ∈ ws) = false) := Lib.hid (decide_eq_false hpw)
                      have HFIN := Lib.hid (HK1.out (HHN.out.2 ⟨HOP.out, hlo, hpw⟩))
                      clear hlo hpw
                      rcases gop with g11 | ⟨g11, g13⟩
                      all_goals
                        go_wp2_with (first
                          | (go_at_call 15; (with_reducible refine HINA.out.mono ?_); rintro e wx ⟨rfl, hwx⟩; rw [hwx]; clear hwx)
                          | (go_at_call 25; refine HWX.out.mono ?_; rintro e w9 ⟨A9, c9, rfl, hr9, hc9, hb9⟩; have HIN9 := Lib.hid (in_any w9.heap.size A9 ws.length c9 ws p w9 hr9 rfl (by omega)); rw [HD2.out] at HIN9; have HI9 := Lib.hid (HIA.out.on hb9); have q3 : w9.cell? ⟨q, 3, none⟩ = some (.bool s0.h) := HI9.out.box.cell 3; have fq3 : w9.frozen? ⟨q, 3, none⟩ = false := HI9.out.box.frozen 3; clear hr9 hb9)
                          | (go_at_call 15; (with_reducible refine HIN9.out.mono ?_); rintro e wx ⟨rfl, hwx⟩; rw [hwx]; clear hwx))
                        go_roundw
                        case rel => exact ⟨k + 1, by omega, by go_num, by rw [HFIN.out]; exact Lib.hid (HI9.out.h true)⟩
                        case measure => simp [intOf]; omega
                  · have HD : Hid (decide ((p : Int) ∈ liveOL (nds rn) m i) = false) := Lib.hid (decide_eq_false hlo)
                    rw [HD.out] at HINA
                    have HFIN := Lib.hid (HK0.out fun h => hlo (HHN.out.1 h).2.1)
                    clear hlo
                    rcases gop with g11 | ⟨g11, g13⟩
                    all_goals
                      go_wp2_with (go_at_call 15; (with_reducible refine HINA.out.mono ?_); rintro e wx ⟨rfl, hwx⟩; rw [hwx]; clear hwx)
                      go_roundw
                      case rel => exact ⟨k + 1, by omega, by go_num, by rw [HFIN.out]; exact HIA⟩
                      case measure => simp [intOf]; omega
                · have HFIN := Lib.hid (HK0.out fun h => hop (HHN.out.1 h).1)
                  have g11 : (nd.nd.op == 11) = false := by simp; omega
                  have g13 : (nd.nd.op == 13) = false := by simp; omega
                  clear hop
                  go_wp2
                  go_roundw
                  case rel => exact ⟨k + 1, by omega, by go_num, by rw [HFIN.out]; exact HIA⟩
                  case measure => simp [intOf]; omega
            · have hwf : workB (liveL (nds rn) m i) (writesOf nd.nd) ps p k = false := by
                rcases e : workB (liveL (nds rn) m i) (writesOf nd.nd) ps p k with _ | _
                · rfl
                · exact absurd (HWI2.out.1 e) hwk
              rw [hwf] at HAW
              have HNO := Lib.hid (ivK_no hwk)
              clear hwf hwk u0 u1 u2 u3 u4 u5 u6 u7 u8 u9 u10 u11 hno
              go_wp2_with (go_at_call 24; refine HAW.out.mono ?_; rintro e w7 ⟨rfl, hb7⟩; have HI7 := Lib.hid (HI.out.on hb7); clear hb7)
              go_roundw
              case rel => exact ⟨k + 1, by omega, by go_num, by rw [HNO.out]; exact HI7⟩
              case measure => simp [intOf]; omega
          · have hke : k = nl := by omega
            obtain ⟨s, hs⟩ : ∃ s, s = ivK (nds rn) ps l p l.length := ⟨_, rfl⟩
            have HI9 : Hid (BxI wB q s wr) := Lib.hid (by rw [hs, ← HNL.out, ← hke]; exact HI.out)
            have HSU := Lib.hid (spansL_succ (nds rn) ps l p)
            rw [← hs] at HSU
            have HO9 := Lib.hid (own_kept HO.out fun g hg => (HUP.out wr _ HI.out).block g (own_block_le HO.out hg).2)
            have v0 : wr.cell? ⟨q, 0, none⟩ = some (.int .i64 s.p) := HI9.out.box.cell 0
            have v1 : wr.cell? ⟨q, 1, none⟩ = some (.int .i64 s.f) := HI9.out.box.cell 1
            have v2 : wr.cell? ⟨q, 2, none⟩ = some (.int .i64 s.t) := HI9.out.box.cell 2
            have v3 : wr.cell? ⟨q, 3, none⟩ = some (.bool s.h) := HI9.out.box.cell 3
            have hlen := spansL_len (nds rn) ps l p
            have hbcz := HBC.out.size
            clear hs
            by_cases hsf : 0 ≤ s.f
            · have g1 : decide (s.f ≥ 0) = true := decide_eq_true (by omega)
              have g2 : decide (0 ≤ s.f) = true := decide_eq_true (by omega)
              rw [if_pos hsf] at HSU
              clear hsf
              go_wp2_with (at_builtin; refine app_iv rfl (.tmp 80) (.tmp 82) rfl wc.heap.size _ _ _ rfl (own_alloc HO9.out _) (wr.heap.size + 1) (some ⟨wr.heap.size, 0, none⟩) 1 1 (ivL s) rfl (one_reads wr _ _ 4 rfl) (fun u hu => by unfold ivL at hu; simp at hu; rcases hu with rfl | rfl | rfl | rfl <;> rfl) (by omega) (by simp; omega) ?_; intro v' w8 hown hgr hor; have HO8 := Lib.hid hown; have HB8 : Hid (Below wc.heap.size wc w8) := Lib.hid ((HBC.out.alloc hbcz _).grown hgr (by simp; omega) fun g hg => (own_block_le HO9.out hg).1); clear hown hgr hor)
              go_roundw
              case rel =>
                refine ⟨p + 1, by omega, by go_num, ?_, HB8⟩
                rw [HSU.out, ivCs_append, List.length_append]
                have e : ivCs [s] = ivL s := by simp [ivCs]
                rw [e]
                exact HO8
              case measure => simp [intOf]; omega
            · have g1 : decide (s.f ≥ 0) = false := decide_eq_false (by omega)
              have g2 : decide (0 ≤ s.f) = false := decide_eq_false (by omega)
              rw [if_neg hsf, List.append_nil] at HSU
              clear hsf
              go_wp2
              go_roundw
              case rel => exact ⟨p + 1, by omega, by go_num, by rw [HSU.out]; exact HO9, HBC⟩
              case measure => simp [intOf]; omega
      · have hpe : p = m := by omega
        rw [hpe] at HO ⊢
        go_wp2
        go_ret
        exact ⟨Ao, (spansL (nds rn) ps l m).length, co, rfl, rfl, own_more HO.out hwcz, H3.out.below.trans (HB.out.mono hwcz)⟩
end Go.Proofs.YtcljjacanomggaaDoor

/-
  The document's SameInts.
-/
namespace Go.Proofs.YtcljjacanomggaaDoor
set_option linter.unusedVariables false
set_option linter.unusedSimpArgs false
open Go.ChangeShapes Go.WideShapes Go.ChangeAt Go.RowKit

theorem eq_len {α : Type} [DecidableEq α] {a b : List α} (h : a.length ≠ b.length) : decide (a = b) = false := by
  simp only [decide_eq_false_iff_not]
  intro e
  exact h (by rw [e])
theorem eq_at {α : Type} [DecidableEq α] {a b : List α} {k : Nat} {x y : α} (hx : a[k]? = some x) (hy : b[k]? = some y) (h : x ≠ y) : decide (a = b) = false := by
  simp only [decide_eq_false_iff_not]
  intro e
  rw [e, hy] at hx
  exact h (by simpa using hx.symm)

set_option maxHeartbeats 1600000 in
theorem rsi_any (B : Nat) (ao bo : Option Addr) (n m c d : Nat) (la lb : List Int) (w : World) (ha : Reads w B 1 ao n (i64c la)) (hb : Reads w B 1 bo m (i64c lb)) (hn : la.length = n) (hm : lb.length = m)
    (hnb : n ≤ 140737488351232) (hmb : m ≤ 140737488351232) :
    Calls Tryd.prog 11 #[.slice ao n c, .slice bo m d] w fun e w' => e = .returned (.bool (decide (la = lb))) ∧ ∃ q, w' = w.drewN q := by
  have HA := Lib.hid ha
  have HB := Lib.hid hb
  have HN := Lib.hid hn
  have HM := Lib.hid hm
  clear ha hb hn hm
  by_cases hgt : n ≠ m
  · have hr : decide (la = lb) = false := eq_len (by rw [HN.out, HM.out]; exact hgt)
    have HR := Lib.hid hr
    clear hr
    go_enter Tryd.func11, Tryd.ntmps11
    go_wp2
    go_ret
    exact ⟨by rw [HR.out]; rfl, 0, rfl⟩
  · obtain rfl : n = m := by omega
    clear hgt
    go_enter Tryd.func11, Tryd.ntmps11
    go_wp2
    go_loopw [13] (fun i wr => ∃ k q : Nat, k ≤ n ∧ i = .int .i64 k ∧ Hid (lb.take k = la.take k) ∧ wr = w.drewN q) (fun i _ => n - (intOf i).toNat)
    case atStart => exact ⟨0, 0, Nat.zero_le _, rfl, rfl, rfl⟩
    case round =>
      obtain ⟨k, q, hk, rfl, HP, rfl⟩ := hrel
      by_cases hlt : k < n
      · obtain ⟨b1, o1, x, rfl, hb1, HX, x1⟩ := HA.out.int hlt
        obtain ⟨b2, o2, y, rfl, hb2, HY, y1⟩ := HB.out.int hlt
        by_cases hxy : x = y
        · have hd : (x != y) = false := by simpa using hxy
          have HXY := Lib.hid hxy
          clear hxy
          go_wp2
          go_quiet (fail)
          go_wp2
          go_roundw
          case rel => exact ⟨k + 1, q + nq, by omega, by go_num, by show lb.take (k + 1) = la.take (k + 1); rw [take_at HX.out, take_at HY.out, HP.out, HXY.out], rfl⟩
          case measure => simp [intOf]; omega
        · have hr : decide (la = lb) = false := eq_at HX.out HY.out hxy
          have hd : (x != y) = true := by simpa using hxy
          have HR := Lib.hid hr
          clear hxy hr
          go_wp2
          go_quiet (fail)
          go_wp2
          go_ret
          exact ⟨by rw [HR.out]; rfl, q + nq, World.drewN_drewN _ _ _⟩
      · obtain rfl : n = k := by omega
        have hr : decide (la = lb) = true := by
          have h := HP.out
          rw [List.take_of_length_le (by rw [HM.out]; omega), List.take_of_length_le (by rw [HN.out]; omega)] at h
          rw [h]; simp
        have HR := Lib.hid hr
        clear hr
        go_wp2
        go_ret
        exact ⟨by rw [HR.out]; rfl, _, rfl⟩
end Go.Proofs.YtcljjacanomggaaDoor

/-
  A block's cells, eight or twelve at once.
-/
namespace Go.Proofs.YtcljjacanomggaaDoor
open Go.ChangeShapes Go.WideShapes Go.ChangeAt Go.RowKit

theorem cells8 {w : World} {g : Nat} {t : TypeId} {a0 a1 a2 a3 a4 a5 a6 a7 : Value} (h : Blk w g t #[a0, a1, a2, a3, a4, a5, a6, a7]) :
    w.cell? ⟨g, 0, none⟩ = some a0 ∧ w.cell? ⟨g, 1, none⟩ = some a1 ∧ w.cell? ⟨g, 2, none⟩ = some a2 ∧ w.cell? ⟨g, 3, none⟩ = some a3 ∧ w.cell? ⟨g, 4, none⟩ = some a4 ∧ w.cell? ⟨g, 5, none⟩ = some a5 ∧ w.cell? ⟨g, 6, none⟩ = some a6 ∧ w.cell? ⟨g, 7, none⟩ = some a7 :=
  ⟨h.cell 0, h.cell 1, h.cell 2, h.cell 3, h.cell 4, h.cell 5, h.cell 6, h.cell 7⟩
theorem cells12 {w : World} {g : Nat} {t : TypeId} {a0 a1 a2 a3 a4 a5 a6 a7 a8 a9 a10 a11 : Value} (h : Blk w g t #[a0, a1, a2, a3, a4, a5, a6, a7, a8, a9, a10, a11]) :
    w.cell? ⟨g, 0, none⟩ = some a0 ∧ w.cell? ⟨g, 1, none⟩ = some a1 ∧ w.cell? ⟨g, 2, none⟩ = some a2 ∧ w.cell? ⟨g, 3, none⟩ = some a3 ∧ w.cell? ⟨g, 4, none⟩ = some a4 ∧ w.cell? ⟨g, 5, none⟩ = some a5 ∧ w.cell? ⟨g, 6, none⟩ = some a6 ∧ w.cell? ⟨g, 7, none⟩ = some a7 ∧ w.cell? ⟨g, 8, none⟩ = some a8 ∧ w.cell? ⟨g, 9, none⟩ = some a9 ∧ w.cell? ⟨g, 10, none⟩ = some a10 ∧ w.cell? ⟨g, 11, none⟩ = some a11 :=
  ⟨h.cell 0, h.cell 1, h.cell 2, h.cell 3, h.cell 4, h.cell 5, h.cell 6, h.cell 7, h.cell 8, h.cell 9, h.cell 10, h.cell 11⟩
end Go.Proofs.YtcljjacanomggaaDoor

/-
  The document's words for which graphs are right, as plain facts, and that they say the same.
-/
namespace Go.Proofs.YtcljjacanomggaaDoor
set_option linter.unusedVariables false

def wantOf (op : Int) : List Int :=
  if op = 1 then [110, 45, 45, 45] else if op = 2 then [61, 45, 61, 45] else if op = 3 then [110, 45, 110, 110] else if op = 4 then [110, 45, 45, 45]
  else if op = 5 then [45, 45, 110, 45] else if op = 6 then [112, 45, 45, 45] else if op = 7 then [110, 45, 112, 45] else if op = 8 then [45, 45, 112, 110]
  else if op = 9 then [45, 45, 110, 45] else if op = 10 then [45, 45, 45, 45] else if op = 11 then [45, 45, 45, 45] else if op = 12 then [45, 45, 45, 45]
  else if op = 13 then [45, 45, 45, 45] else if op = 14 then [45, 45, 110, 45] else if op = 15 then [110, 110, 45, 45] else if op = 16 then [110, 45, 45, 45]
  else [45, 45, 110, 45]
def asked (ks : List Int) (bd : Bool) (c p : Int) : Prop := (c = 110 → fits ks bd p 0) ∧ (c = 112 → fits ks bd p 1)
def restOf (gs : List Gr) (g : Gr) (bd : Bool) (n : Nd) : Prop :=
  if n.op = 2 then (fits g.kinds bd n.d 0 ∧ fits g.kinds bd n.a 0) ∨ (fits g.kinds bd n.d 1 ∧ fits g.kinds bd n.a 1)
  else if n.op = 3 then 7 ≤ n.bop ∧ n.bop ≤ 20
  else if n.op = 4 ∨ n.op = 5 ∨ n.op = 6 then isOne n.cell g.cells
  else if n.op = 15 then n.d ≠ n.e
  else if n.op = 12 then (if n.a = -1 then g.result = false else g.result = true ∧ fits g.kinds bd n.a 0)
  else if n.op = 11 then hands gs g bd n.f n.args ∧ gets gs g bd n.f n.d
  else if n.op = 13 then hands gs g bd n.f n.args
  else True
instance (gs : List Gr) (g : Gr) (bd : Bool) (n : Nd) : Decidable (restOf gs g bd n) := by unfold restOf; infer_instance
def rnode (gs : List Gr) (g : Gr) (bd : Bool) (n : Nd) : Prop :=
  (1 ≤ n.op ∧ n.op ≤ 18) ∧ (∀ x ∈ nextsOf n, isOne x g.nodes.length) ∧ (∀ i, i < 4 → asked g.kinds bd ((wantOf n.op).getD i 45) ([n.d, n.e, n.a, n.b].getD i 0)) ∧ restOf gs g bd n
theorem all4 (Q : Nat → Prop) : (∀ i, i < 4 → Q i) ↔ Q 0 ∧ Q 1 ∧ Q 2 ∧ Q 3 :=
  ⟨fun h => ⟨h 0 (by omega), h 1 (by omega), h 2 (by omega), h 3 (by omega)⟩, fun ⟨h0, h1, h2, h3⟩ i hi => by
    match i, hi with
    | 0, _ => exact h0
    | 1, _ => exact h1
    | 2, _ => exact h2
    | 3, _ => exact h3⟩
theorem fits_one {ks : List Int} {bd : Bool} {p k : Int} (h : fits ks bd p k) : isOne p ks.length := h.1
theorem kind_mem {ks : List Int} {p : Int} (h : isOne p ks.length) : kindAt ks p ∈ ks := by
  unfold kindAt
  have hl : p.toNat < ks.length := by have := h.1; have := h.2; omega
  rw [List.getD_eq_getElem?_getD, List.getElem?_eq_getElem hl]
  exact List.getElem_mem hl
theorem move_eq {ks : List Int} {bd : Bool} {d a : Int} (hk : ∀ k ∈ ks, k = 0 ∨ k = 1) :
    ((fits ks bd d 0 ∧ fits ks bd a 0) ∨ (fits ks bd d 1 ∧ fits ks bd a 1)) ↔ isOne a ks.length ∧ fits ks bd d (kindAt ks a) := by
  cases bd
  · constructor
    · rintro (⟨h1, h2⟩ | ⟨h1, h2⟩)
      · have e : kindAt ks a = 0 := by rcases h2.2 with h | h; cases h; exact h
        rw [e]; exact ⟨h2.1, h1⟩
      · have e : kindAt ks a = 1 := by rcases h2.2 with h | h; cases h; exact h
        rw [e]; exact ⟨h2.1, h1⟩
    · rintro ⟨h1, h2⟩
      rcases hk _ (kind_mem h1) with h | h
      · rw [h] at h2; exact .inl ⟨h2, h1, .inr h⟩
      · rw [h] at h2; exact .inr ⟨h2, h1, .inr h⟩
  · constructor
    · rintro (⟨h1, h2⟩ | ⟨h1, h2⟩)
      · exact ⟨h2.1, h1.1, .inl rfl⟩
      · exact ⟨h2.1, h1.1, .inl rfl⟩
    · rintro ⟨h1, h2⟩
      exact .inl ⟨⟨h2.1, .inl rfl⟩, h1, .inl rfl⟩
theorem ret_eq {ks : List Int} {bd : Bool} {a : Int} {r : Bool} : (if a = -1 then r = false else r = true ∧ fits ks bd a 0) ↔ (if r = true then fits ks bd a 0 else a = -1) := by
  by_cases h : a = -1
  · rw [if_pos h]
    cases r
    · simp [h]
    · rw [if_pos rfl]
      constructor
      · intro h1; cases h1
      · intro h1; exfalso; have := h1.1.1; omega
  · rw [if_neg h]
    cases r
    · simp [h]
    · simp
theorem rnode_eq {gs : List Gr} {g : Gr} {bd : Bool} {n : Nd} (hk : ∀ k ∈ g.kinds, k = 0 ∨ k = 1) (h0 : 0 ≤ n.op) (h1 : n.op ≤ 255) : rnode gs g bd n ↔ nodeHolds gs g bd n := by
  obtain ⟨op, bop, d, e, a, b, f, cell, imm, args, nx, el⟩ := n
  have h0 : 0 ≤ op := h0
  have h1 : op ≤ 255 := h1
  unfold rnode nodeHolds
  rw [all4]
  have hm := @move_eq g.kinds bd d a hk
  have hr := @ret_eq g.kinds bd a g.result
  rcases op_cases h0 h1 with rfl | rfl | rfl | rfl | rfl | rfl | rfl | rfl | rfl | rfl | rfl | rfl | rfl | rfl | rfl | rfl | rfl | rfl | h
  case inr.inr.inr.inr.inr.inr.inr.inr.inr.inr.inr.inr.inr.inr.inr.inr.inr.inr =>
    constructor
    · rintro ⟨⟨h2, h3⟩, _⟩
      have h2 : 1 ≤ op := h2
      have h3 : op ≤ 18 := h3
      omega
    · rintro ⟨h2, _⟩
      exfalso
      unfold uses at h2
      simp only at h2
      repeat (rw [if_neg (by omega)] at h2)
      exact h2
  case inl => simp [asked, wantOf, restOf, uses, and_comm]
  case inr.inl => simp only [restOf, uses, if_pos]; rw [hm]; simp [asked, wantOf, and_comm]
  all_goals first
    | (simp [asked, wantOf, restOf, uses, and_comm, and_assoc]; done)
    | (simp [asked, wantOf, restOf, uses, hr, and_comm]; done)
    | skip

def rparam (g : Gr) (bd : Bool) (i : Nat) : Prop :=
  isOne (g.params.getD i 0) g.kinds.length ∧ g.params.getD i 0 ∉ g.params.take i ∧ (bd = true → g.params.getD i 0 = i) ∧
    -1 ≤ g.init.getD i 0 ∧ g.init.getD i 0 < g.cells ∧ (0 ≤ g.init.getD i 0 → fits g.kinds bd (g.params.getD i 0) 0)
def rhead (g : Gr) (bd : Bool) : Prop :=
  g.kinds.length ≤ 1024 ∧ (bd = true → 16 ≤ g.kinds.length) ∧ g.params.length ≤ 4 ∧ g.init.length = g.params.length ∧ 0 ≤ g.cells ∧ g.cells ≤ 64 ∧ -1 ≤ g.keep ∧ g.keep < g.cells ∧
    (∀ k ∈ g.kinds, k ≤ 1) ∧ (∀ i, i < g.params.length → rparam g bd i) ∧ 1 ≤ g.nodes.length ∧ g.nodes.length ≤ 4096 ∧ isOne g.entry g.nodes.length
theorem not_take {l : List Int} {i : Nat} (h : ∀ j, j < l.length → l.getD j 0 = j) (hi : i < l.length) : l.getD i 0 ∉ l.take i := by
  intro hm
  obtain ⟨j, hj, e⟩ := List.mem_iff_getElem.1 hm
  rw [List.length_take] at hj
  rw [List.getElem_take] at e
  have h1 := h j (by omega)
  have h2 := h i hi
  rw [List.getD_eq_getElem?_getD, List.getElem?_eq_getElem (by omega)] at h1
  simp only [Option.getD_some] at h1
  rw [h1, h2] at e
  omega
theorem rhead_eq {g : Gr} {bd : Bool} (hb : Byt g.kinds) : rhead g bd ↔ headHolds g bd := by
  obtain ⟨ps, ks, cells, is, res, keep, nodes, entry⟩ := g
  have hb : Byt ks := hb
  constructor
  · rintro ⟨h1, h2, h3, h4, h5, h6, h7, h8, h9, h10, h11, h12, h13⟩
    have h10 : ∀ i, i < ps.length → rparam ⟨ps, ks, cells, is, res, keep, nodes, entry⟩ bd i := h10
    have h3 : ps.length ≤ 4 := h3
    have h4 : is.length = ps.length := h4
    have h7 : -1 ≤ keep := h7
    have h8 : keep < cells := h8
    refine ⟨⟨h1, h2, fun k hk => ?_⟩, h5, h6, ⟨h3, ?_⟩, ⟨h4, fun i hi => ?_⟩, ?_, h12, h13⟩
    · have := (hb k hk).1; have := h9 k hk; omega
    · show if bd = true then inOrder ps else ∀ i, i < ps.length → isOne (ps.getD i 0) ks.length ∧ ps.getD i 0 ∉ ps.take i
      cases bd
      · rw [if_neg (by decide)]
        intro i hi
        exact ⟨(h10 i hi).1, (h10 i hi).2.1⟩
      · rw [if_pos rfl]
        intro i hi
        exact (h10 i hi).2.2.1 rfl
    · have hi : i < is.length := hi
      obtain ⟨k1, k2, k3, k4, k5, k6⟩ := h10 i (by omega)
      have k4 : -1 ≤ is.getD i 0 := k4
      have k5 : is.getD i 0 < cells := k5
      by_cases hn : is.getD i 0 = -1
      · exact .inl hn
      · have k0 : 0 ≤ is.getD i 0 := by omega
        exact .inr ⟨⟨k0, k5⟩, (k6 k0).2⟩
    · show keep = -1 ∨ isOne keep cells
      by_cases hn : keep = -1
      · exact .inl hn
      · exact .inr ⟨by omega, h8⟩
  · rintro ⟨⟨h1, h2, h9⟩, h5, h6, ⟨h3, h10⟩, ⟨h4, h11⟩, h7, h12, h13⟩
    have h3 : ps.length ≤ 4 := h3
    have h4 : is.length = ps.length := h4
    have h5 : 0 ≤ cells := h5
    have h7 : keep = -1 ∨ isOne keep cells := h7
    have h10 : if bd = true then inOrder ps else ∀ i, i < ps.length → isOne (ps.getD i 0) ks.length ∧ ps.getD i 0 ∉ ps.take i := h10
    have h13' : isOne entry nodes.length := h13
    have h2' : bd = true → 16 ≤ ks.length := h2
    refine ⟨h1, h2, h3, h4, h5, h6, ?_, ?_, fun k hk => ?_, fun i hi => ?_, ?_, h12, h13⟩
    · show -1 ≤ keep
      rcases h7 with h | h
      · omega
      · have := h.1; omega
    · show keep < cells
      rcases h7 with h | h
      · omega
      · exact h.2
    · rcases h9 k hk with h | h <;> omega
    · have hi : i < ps.length := hi
      have h14 := h11 i (by show i < is.length; omega)
      have hone : isOne (ps.getD i 0) ks.length ∧ ps.getD i 0 ∉ ps.take i ∧ (bd = true → ps.getD i 0 = i) := by
        cases bd
        · rw [if_neg (by decide)] at h10
          exact ⟨(h10 i hi).1, (h10 i hi).2, fun h => by cases h⟩
        · rw [if_pos rfl] at h10
          have h15 := h10 i hi
          have h16 := h2' rfl
          refine ⟨?_, not_take h10 hi, fun _ => h15⟩
          rw [h15]
          exact ⟨by omega, by omega⟩
      refine ⟨hone.1, hone.2.1, hone.2.2, ?_, ?_, fun h0 => ⟨hone.1, ?_⟩⟩
      · show -1 ≤ is.getD i 0
        rcases h14 with h | h
        · have h : is.getD i 0 = -1 := h
          omega
        · have := h.1.1; have h : 0 ≤ is.getD i 0 := this; omega
      · show is.getD i 0 < cells
        rcases h14 with h | h
        · have h : is.getD i 0 = -1 := h
          omega
        · exact h.1.2
      · rcases h14 with h | h
        · exfalso
          have h : is.getD i 0 = -1 := h
          have h0 : 0 ≤ is.getD i 0 := h0
          omega
        · exact h.2
    · show 1 ≤ nodes.length
      have := h13'.1; have := h13'.2; omega
end Go.Proofs.YtcljjacanomggaaDoor

/-
  Package ir: newList; what a copy of graphs is in memory.
-/
namespace Go.Proofs.YtcljjacanomggaaDoor
set_option linter.unusedVariables false
set_option linter.unusedSimpArgs false
open Go.ChangeShapes Go.WideShapes Go.ChangeAt Go.RowKit




theorem own_set {w : World} {base size n c g i : Nat} {e : TypeId} {xs : List Value} {u : Value} (h : w.ownsRow base e size (.slice (some ⟨g, 0, none⟩) n c) n xs) : (w.setCell ⟨g, i, none⟩ u).ownsRow base e size (.slice (some ⟨g, 0, none⟩) n c) n (xs.set i u) := by
  obtain ⟨h1, h2⟩ := h
  refine ⟨by rw [List.length_set]; exact h1, ?_⟩
  rcases h2 with ⟨h2, _⟩ | ⟨g', cap, cur, he, hg, hb, hn, hm, hc, ht⟩
  · cases h2
  · injection he with he hc1 hc2
    injection he with he
    injection he with he
    subst he hc2
    refine .inr ⟨g, c, cur.setIfInBounds i u, rfl, hg, Blk.set_ (t := e) (cs := cur) hb i u, hn, hm, by simpa using hc, ?_⟩
    rw [← ht]
    simp [List.take_set]
theorem own_at {w : World} {base size n c i : Nat} {e : TypeId} {A : Option Addr} {xs : List Value} {u : Value} (h : w.ownsRow base e size (.slice A n c) n xs) (hu : xs[i]? = some u) : ∃ g, A = some ⟨g, 0, none⟩ ∧ base ≤ g ∧ g < w.heap.size ∧ w.cell? ⟨g, i, none⟩ = some u ∧ w.frozen? ⟨g, i, none⟩ = false := by
  have hl := (List.getElem?_eq_some_iff.1 hu).1
  rcases h.2 with ⟨h2, h3⟩ | ⟨g, cap, cur, he, hg, hb, hn, hm, hc, ht⟩
  · exfalso
    have := h.1
    rw [h3, Nat.zero_mul] at this
    omega
  · injection he with he
    have hB : Blk w g e cur := hb
    refine ⟨g, he, hg, hB.lt, ?_, hB.frozen i⟩
    rw [hB.cell]
    rw [← ht, List.getElem?_take] at hu
    split at hu
    · rw [← Array.getElem?_toList]; exact hu
    · cases hu
def OwnN (w : World) (base : Nat) (i : RN) : Prop := w.ownsRow base 3 1 (.slice i.ao i.nd.args.length i.ac) i.nd.args.length (i64c i.nd.args)
structure OwnG (w : World) (base : Nat) (r : RG) : Prop where
  params : w.ownsRow base 3 1 (.slice r.po r.gr.params.length r.pc) r.gr.params.length (i64c r.gr.params)
  kinds : w.ownsRow base 53 1 (.slice r.ko r.gr.kinds.length r.kc) r.gr.kinds.length (u8c r.gr.kinds)
  init : w.ownsRow base 3 1 (.slice r.io r.gr.init.length r.ic) r.gr.init.length (i64c r.gr.init)
  nodes : w.ownsRow base 50 12 (.slice r.no r.gr.nodes.length r.nc) r.gr.nodes.length (rnc r.ns)
  each : ∀ i ∈ r.ns, OwnN w base i
  nd : nds r.ns = r.gr.nodes
theorem own_below {w w' : World} {base size n : Nat} {e : TypeId} {v : Value} {xs : List Value} (h : w.ownsRow base e size v n xs) (hb : Below w.heap.size w w') : w'.ownsRow base e size v n xs :=
  own_kept h fun i hi => hb.block i (own_block_le h hi).2
theorem OwnN.below {w w' : World} {base : Nat} {i : RN} (h : OwnN w base i) (hb : Below w.heap.size w w') : OwnN w' base i := own_below h hb
theorem OwnG.below {w w' : World} {base : Nat} {r : RG} (h : OwnG w base r) (hb : Below w.heap.size w w') : OwnG w' base r :=
  ⟨own_below h.params hb, own_below h.kinds hb, own_below h.init hb, own_below h.nodes hb, fun i hi => (h.each i hi).below hb, h.nd⟩
theorem OwnG.more {w : World} {base base' : Nat} {r : RG} (h : OwnG w base r) (hb : base' ≤ base) : OwnG w base' r :=
  ⟨own_more h.params hb, own_more h.kinds hb, own_more h.init hb, own_more h.nodes hb, fun i hi => own_more (h.each i hi) hb, h.nd⟩
theorem OwnG.rd {w : World} {base : Nat} {r : RG} (h : OwnG w base r) (hw : WfG r.gr) : RdG w w.heap.size r := by
  refine ⟨Reads.of_own h.params, Reads.of_own h.kinds, Reads.of_own h.init, ⟨Reads.of_own h.nodes, by rw [← length_nds, h.nd], fun i hi => ⟨Reads.of_own (h.each i hi), own_cap (h.each i hi)⟩, fun i hi => hw.nodes _ (by rw [← h.nd]; exact List.mem_map_of_mem hi)⟩, h.nd, own_cap h.params⟩
theorem rnc_set {ns : List RN} {k : Nat} {i : RN} (h : ns[k]? = some i) (ao : Option Addr) (ac : Nat) : (rnc ns).set (k * 12 + 9) (.slice ao i.nd.args.length ac) = rnc (ns.set k ⟨i.nd, ao, ac⟩) := by
  induction ns generalizing k with
  | nil => cases h
  | cons x ns ih =>
    cases k with
    | zero =>
      obtain rfl : x = i := by simpa using h
      show (rnOne x ++ rnc ns).set (0 * 12 + 9) _ = rnOne _ ++ rnc ns
      rfl
    | succ k =>
      show (rnOne x ++ rnc ns).set ((k + 1) * 12 + 9) _ = rnOne x ++ rnc (ns.set k _)
      rw [← ih (by simpa using h), List.set_append_right _ _ (by show 12 ≤ _; omega)]
      congr 2
      show (k + 1) * 12 + 9 - 12 = _
      omega
end Go.Proofs.YtcljjacanomggaaDoor

/-
  Package ir: copyGraph.
-/
namespace Go.Proofs.YtcljjacanomggaaDoor
set_option linter.unusedVariables false
set_option linter.unusedSimpArgs false
open Go.ChangeShapes Go.WideShapes Go.ChangeAt Go.RowKit

theorem own_blk {w : World} {base size n c g : Nat} {e : TypeId} {xs : List Value} (h : w.ownsRow base e size (.slice (some ⟨g, 0, none⟩) n c) n xs) : ∃ cur, Blk w g e cur := by
  rcases h.2 with ⟨h2, _⟩ | ⟨g', cap, cur, he, _, hb, _⟩
  · cases h2
  · injection he with he
    injection he with he
    injection he with he
    subst he
    exact ⟨cur, hb⟩
structure CgI (w : World) (r : RG) (Ap Ak Ai An : Option Addr) (cp ck ci cn nP nK nI nN : Nat) (k : Nat) (ns : List RN) (wr : World) : Prop where
  box : Blk wr w.heap.size 38 #[.slice Ap nP cp, .slice Ak nK ck, .int .i64 r.gr.cells, .slice Ai nI ci, .bool r.gr.result, .int .i64 r.gr.keep, .slice An nN cn, .int .i64 r.gr.entry]
  res : Blk wr (w.heap.size + 1) 38 #[.slice none 0 0, .slice none 0 0, .int .i64 0, .slice none 0 0, .bool false, .int .i64 0, .slice none 0 0, .int .i64 0]
  params : wr.ownsRow w.heap.size 3 1 (.slice Ap nP cp) nP (i64c r.gr.params)
  kinds : wr.ownsRow w.heap.size 53 1 (.slice Ak nK ck) nK (u8c r.gr.kinds)
  init : wr.ownsRow w.heap.size 3 1 (.slice Ai nI ci) nI (i64c r.gr.init)
  nodes : wr.ownsRow w.heap.size 50 12 (.slice An nN cn) nN (rnc ns)
  nd : nds ns = r.gr.nodes
  new : ∀ j i, j < k → ns[j]? = some i → OwnN wr w.heap.size i
  old : ∀ j, k ≤ j → ns[j]? = r.ns[j]?
  below : Below w.heap.size w wr
theorem CgI.step {w : World} {r : RG} {Ap Ak Ai An : Option Addr} {cp ck ci cn nP nK nI nN k g c' : Nat} {A' : Option Addr} {ns : List RN} {wr w2 : World} {i : RN} (h : CgI w r Ap Ak Ai An cp ck ci cn nP nK nI nN k ns wr) (hi : ns[k]? = some i) (hA : An = some ⟨g, 0, none⟩) (hb : Below wr.heap.size wr w2)
    (ho : w2.ownsRow wr.heap.size 3 1 (.slice A' i.nd.args.length c') i.nd.args.length (i64c i.nd.args)) :
    CgI w r Ap Ak Ai An cp ck ci cn nP nK nI nN (k + 1) (ns.set k ⟨i.nd, A', c'⟩) (w2.setCell ⟨g, k * 12 + 9, none⟩ (.slice A' i.nd.args.length c')) := by
  subst hA
  have hn2 := own_below h.nodes hb
  obtain ⟨cur, hcur⟩ := own_blk hn2
  have hx2 := h.box.below hb h.box.lt
  have hy2 := h.res.below hb h.res.lt
  have hz := h.below.size
  have hbl2 := h.below.trans (hb.mono hz)
  have hkl : k < ns.length := (List.getElem?_eq_some_iff.1 hi).1
  have hgb : w.heap.size ≤ g := (own_block_le hn2 (i := g) (by rfl)).1
  refine ⟨hx2.far (p := ⟨g, k * 12 + 9, none⟩) (hx2.ne_ hcur (by decide)) _, hy2.far (p := ⟨g, k * 12 + 9, none⟩) (hy2.ne_ hcur (by decide)) _, own_far (own_below h.params hb) hcur (by decide) _ _, own_far (own_below h.kinds hb) hcur (by decide) _ _, own_far (own_below h.init hb) hcur (by decide) _ _, ?_, ?_, ?_, ?_, hbl2.setCell (p := ⟨g, k * 12 + 9, none⟩) hgb _⟩
  · have := own_set (i := k * 12 + 9) (u := .slice A' i.nd.args.length c') hn2
    rwa [rnc_set hi] at this
  · rw [← h.nd]
    unfold nds
    rw [List.map_set]
    show (ns.map RN.nd).set k i.nd = _
    refine List.ext_getElem? fun j => ?_
    rw [List.getElem?_set]
    split
    · rename_i hkj
      subst hkj
      rw [List.getElem?_map, hi]
      simp [hkl]
    · rfl
  · intro j i' hj hij
    rw [List.getElem?_set] at hij
    split at hij
    · rename_i hkj
      subst hkj
      injection hij with hij
      subst hij
      exact own_far (own_more ho hz) hcur (by decide) _ _
    · rename_i hkj
      exact own_far (own_below (h.new j i' (by omega) hij) hb) hcur (by decide) _ _
  · intro j hj
    rw [List.getElem?_set, if_neg (by omega)]
    exact h.old j (by omega)
theorem OwnG.set {w : World} {base p j : Nat} {r : RG} {u : Value} {cs : Array Value} (h : OwnG w base r) (hb : Blk w p 38 cs) : OwnG (w.setCell ⟨p, j, none⟩ u) base r :=
  ⟨own_far h.params hb (by decide) _ _, own_far h.kinds hb (by decide) _ _, own_far h.init hb (by decide) _ _, own_far h.nodes hb (by decide) _ _, fun i hi => own_far (h.each i hi) hb (by decide) _ _, h.nd⟩
theorem CgI.all8 {w : World} {base p : Nat} {r : RG} {cs : Array Value} (h : OwnG w base r) (hb : Blk w p 38 cs) (u0 u1 u2 u3 u4 u5 u6 u7 : Value) :
    OwnG ((((((((w.setCell ⟨p, 0, none⟩ u0).setCell ⟨p, 1, none⟩ u1).setCell ⟨p, 2, none⟩ u2).setCell ⟨p, 3, none⟩ u3).setCell ⟨p, 4, none⟩ u4).setCell ⟨p, 5, none⟩ u5).setCell ⟨p, 6, none⟩ u6).setCell ⟨p, 7, none⟩ u7) base r := by
  have b0 := hb.set_ 0 u0
  have b1 := b0.set_ 1 u1
  have b2 := b1.set_ 2 u2
  have b3 := b2.set_ 3 u3
  have b4 := b3.set_ 4 u4
  have b5 := b4.set_ 5 u5
  have b6 := b5.set_ 6 u6
  exact (((((((h.set hb).set b0).set b1).set b2).set b3).set b4).set b5).set b6
theorem blk_2nd (w : World) (a b : Array Value) (s t : TypeId) : Blk ((w.alloc (.cells a s)).alloc (.cells b t)) (w.heap.size + 1) t b := by
  have := Blk.new (w.alloc (.cells a s)) t b
  rwa [show (w.alloc (.cells a s)).heap.size = w.heap.size + 1 by simp] at this
end Go.Proofs.YtcljjacanomggaaDoor
