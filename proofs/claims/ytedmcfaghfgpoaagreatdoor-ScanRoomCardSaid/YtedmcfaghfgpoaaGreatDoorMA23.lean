/-
  Texts of one seat, one behind the other: ORs.
-/
import Derived.Test.YtedmcfaghfgpoaaGreatDoorMA21
import Derived.Test.YtedmcfaghfgpoaaGreatDoorMA14
import Derived.Test.YtedmcfaghfgpoaaGreatDoorMA22

set_option linter.unusedVariables false
set_option linter.unusedSimpArgs false
set_option maxRecDepth 100000
set_option maxHeartbeats 51200000
namespace Go.Proofs.YtedmcfaghfgpoaaGreatDoor
open Go.ChangeShapes Go.WideShapes Go.ChangeAt Go.RowKit
def ivL (s:Iv):List Value:=[.int .i64 s.p,.int .i64 s.f,.int .i64 s.t,.bool s.h]
def ivCs (l:List Iv):List Value:=l.flatMap ivL
theorem ivCs_append (a b:List Iv):ivCs (a ++ b)=ivCs a ++ ivCs b:=by simp [ivCs]
theorem app_iv {w:World} {ops:Array Oper} {rest:List Oper} {o:Oper} {a:Act} {Q:Exit→Act→World→Prop} (hgd:o.guard=none) (s x:Operand)
  (ho:o.op=.call { callee:=.builtin .append,args:=#[s,x],argTypes:=#[48,48] }) (base:Nat)
  (v:Value) (n:Nat) (xs:List Value) (hs:a.eval s=v) (hown:w.ownsRow base 56 4 v n xs)
  (B:Nat) (A:Option Addr) (m c:Nat) (news:List Value) (hx:a.eval x=.slice A m c) (hr:Reads w B 4 A m news) (h1:∀ u ∈ news,u.oneCell'=true)
  (hbytes:(n+m)*32≤140737488355328) (hbase:base≤w.heap.size)
  (h:∀ v' w',w'.ownsRow base 56 4 v' (n+m) (xs ++ news)→w.grownBy w' v.ownBlock→(v'.ownBlock=v.ownBlock∨v'.ownBlock=some w.heap.size)→wpList Tryz.prog ops Q rest (a.put o.dst v') w'):wpList Tryz.prog ops Q (o :: rest) a w:=by
 obtain ⟨i0,hi,hz0,hz1,hz2⟩:=info_parts info_iv
 exact wpList_append_any w hgd s x _ ho base 56 i0 (.agg #[.int .i64 0,.int .i64 0,.int .i64 0,.bool false]) 4 32 Tryz.underlying48 hi hz0 hz1 hz2 rfl (by decide) v n xs hs hown B A m c news hx hr h1 (by unfold maxLen;omega) hbytes hbase h
structure R3I (w:World) (m n nl:Nat) (cs:Array Value) (ns:List Nd) (l:List Int) (A1 A2 A3:Option Addr) (c1 c2 c3:Nat) (vs2 vs3:Nat→Value) (wx:World):Prop where
 gr:Blk wx w.heap.size 35 cs
 line:Reads wx wx.heap.size 1 A1 nl (i64c l)
 in_:OutR w n (.slice A2 n c2) vs2 (liveL ns m) wx
 out:OutR w n (.slice A3 n c3) vs3 (liveOL ns m) wx
 below:Below w.heap.size w wx
theorem OutR.base {W W':World} {k:Nat} {v:Value} {vs:Nat→Value} {f:Nat→List Int} {wr:World} (h:OutR W k v vs f wr) (hb:W'.heap.size≤W.heap.size):OutR W' k v vs f wr:=⟨own_more h.out hb,fun i hi=>own_more (h.own i hi) hb⟩
structure BxI (wB:World) (q:Nat) (s:Iv) (wr:World):Prop where
 box:Blk wr q 56 #[.int .i64 s.p,.int .i64 s.f,.int .i64 s.t,.bool s.h]
 kp:KpB wB wr q
theorem BxI.on {wB wr w2:World} {q:Nat} {s:Iv} (h:BxI wB q s wr) (hb:Below wr.heap.size wr w2):BxI wB q s w2:=⟨h.box.below hb h.box.lt,h.kp.trans (KpB.of_below q hb)⟩
theorem BxI.f {wB wr:World} {q:Nat} {s:Iv} (h:BxI wB q s wr) (x:Int):BxI wB q ⟨s.p,x,s.t,s.h⟩ (wr.setCell ⟨q,1,none⟩ (.int .i64 x)):=⟨h.box.set_ 1 _,h.kp.set _ _⟩
theorem BxI.t {wB wr:World} {q:Nat} {s:Iv} (h:BxI wB q s wr) (x:Int):BxI wB q ⟨s.p,s.f,x,s.h⟩ (wr.setCell ⟨q,2,none⟩ (.int .i64 x)):=⟨h.box.set_ 2 _,h.kp.set _ _⟩
theorem BxI.h {wB wr:World} {q:Nat} {s:Iv} (h:BxI wB q s wr) (x:Bool):BxI wB q ⟨s.p,s.f,s.t,x⟩ (wr.setCell ⟨q,3,none⟩ (.bool x)):=⟨h.box.set_ 3 _,h.kp.set _ _⟩
theorem workB_iff {ns:List Nd} {ps l la:List Int} {p:Int} {k i:Nat} {nd:Nd} (hn:ns[i]?=some nd) (ha:atL l k=i) (hla:p ∈ la↔Live ns p i):workB la (writesOf nd) ps p k=true↔WorkP ns ps l p k:=by
 unfold workB WorkP WorkN
 rw [ha]
 simp only [Bool.or_eq_true,Bool.and_eq_true,decide_eq_true_iff,hla]
 constructor
 ·rintro (h | h | h)
  ·exact .inl (.inl h)
  ·exact .inl (.inr ⟨nd,hn,h⟩)
  ·exact .inr h
 ·rintro ((h | ⟨n2,h1,h2⟩) | h)
  ·exact .inl h
  ·rw [hn] at h1
   injection h1 with h1
   subst h1
   exact .inr (.inl h2)
  ·exact .inr (.inr h)
theorem ivK_h1 {ns:List Nd} {ps l:List Int} {p:Int} {k:Nat} (h:WorkP ns ps l p k) (hh:HeldN ns p (atL l k)):ivK ns ps l p (k+1)=⟨p,if (ivK ns ps l p k).f<0 then (k:Int) else (ivK ns ps l p k).f,k,true⟩:=by
 rw [ivK_yes h]
 simp [hh]
theorem ivK_h0 {ns:List Nd} {ps l:List Int} {p:Int} {k:Nat} (h:WorkP ns ps l p k) (hh:¬ HeldN ns p (atL l k)):ivK ns ps l p (k+1)=⟨p,if (ivK ns ps l p k).f<0 then (k:Int) else (ivK ns ps l p k).f,k,(ivK ns ps l p k).h⟩:=by
 rw [ivK_yes h]
 simp [hh]
theorem rspans_any (B : Nat) (po ko io no : Option Addr) (nP pc m kc nI ic n nc en : Nat) (cells keep : Int) (res : Bool) (rn : List RN) (ps : List Int) (w : World)
    (hN : RdNs w B no n rn) (hP : Reads w B 1 po nP (i64c ps)) (hpl : ps.length = nP) (hp4 : nP ≤ 4) (hB : B ≤ w.heap.size) (hn : n ≤ 4096) (hm : m ≤ 1024) (hv : NextIn (nds rn)) (hen : en < n) :
    Calls Tryz.prog 18 #[.agg #[.slice po nP pc, .slice ko m kc, .int .i64 cells, .slice io nI ic, .bool res, .int .i64 keep, .slice no n nc, .int .i64 en]] w fun e w' => ∃ (A : Option Addr) (k c : Nat), e = .returned (.slice A k c) ∧ k = (spansL (nds rn) ps (lineK (nds rn) en) m).length ∧ w'.ownsRow w.heap.size 56 4 (.slice A k c) k (ivCs (spansL (nds rn) ps (lineK (nds rn) en) m)) ∧ Below w.heap.size w w' := by
  have hb1 : Below w.heap.size w (w.alloc (.cells #[.slice po nP pc, .slice ko m kc, .int .i64 cells, .slice io nI ic, .bool res, .int .i64 keep, .slice no n nc, .int .i64 en] 35)) := (Below.refl _ _).alloc (Nat.le_refl _) _
  have hg1 := Blk.new w 35 #[.slice po nP pc, .slice ko m kc, .int .i64 cells, .slice io nI ic, .bool res, .int .i64 keep, .slice no n nc, .int .i64 en]
  obtain ⟨W1, hW1⟩ : ∃ W, W = (w.alloc (.cells #[.slice po nP pc, .slice ko m kc, .int .i64 cells, .slice io nI ic, .bool res, .int .i64 keep, .slice no n nc, .int .i64 en] 35)) := ⟨_, rfl⟩
  rw [← hW1] at hb1 hg1
  have HG1 := lh hg1
  have HB1 := lh hb1
  have hz1 : w.heap.size < W1.heap.size := hg1.lt
  have HN := lh hN
  have HP := lh hP
  have HV := lh hv
  have HLN : Hid ((nds rn).length = n) := lh (by rw [length_nds]; exact hN.len)
  have HCL : Hid (∀ W, Blk W w.heap.size 35 #[.slice po nP pc, .slice ko m kc, .int .i64 cells, .slice io nI ic, .bool res, .int .i64 keep, .slice no n nc, .int .i64 en] → W.cell? ⟨w.heap.size, 0, none⟩ = some (.slice po nP pc) ∧ W.cell? ⟨w.heap.size, 1, none⟩ = some (.slice ko m kc) ∧ W.cell? ⟨w.heap.size, 2, none⟩ = some (.int .i64 cells) ∧ W.cell? ⟨w.heap.size, 3, none⟩ = some (.slice io nI ic) ∧ W.cell? ⟨w.heap.size, 4, none⟩ = some (.bool res) ∧ W.cell? ⟨w.heap.size, 5, none⟩ = some (.int .i64 keep) ∧ W.cell? ⟨w.heap.size, 6, none⟩ = some (.slice no n nc) ∧ W.cell? ⟨w.heap.size, 7, none⟩ = some (.int .i64 en)) := lh fun W h => ⟨h.cell 0, h.cell 1, h.cell 2, h.cell 3, h.cell 4, h.cell 5, h.cell 6, h.cell 7⟩
  obtain ⟨x0, x1, x2, x3, x4, x5, x6, x7⟩ := HCL.out W1 hg1
  have hb1d : Below w.heap.size w W1.drew := hb1.drew
  have HL1 : Hid (Calls Tryz.prog 35 #[.agg #[.slice po nP pc, .slice ko m kc, .int .i64 cells, .slice io nI ic, .bool res, .int .i64 keep, .slice no n nc, .int .i64 en]] W1.drew (NewO W1.drew (lineK (nds rn) en))) := lh (rline_any B po ko io no nP pc m kc nI ic n nc en cells keep res rn W1.drew (hN.below (hb1d.mono hB)) (by show B ≤ W1.heap.size; omega) hn hv hen)
  have HI1 : Hid (∀ W, Below w.heap.size w W → Calls Tryz.prog 36 #[.agg #[.slice po nP pc, .slice ko m kc, .int .i64 cells, .slice io nI ic, .bool res, .int .i64 keep, .slice no n nc, .int .i64 en]] W (LlPost (liveL (nds rn) m) n W)) := lh fun W hbw => refIn_any B po ko io no nP pc m kc nI ic n nc cells keep en res rn W (hN.below (hbw.mono hB)) (by have := hbw.size; omega) hn hm hv
  have HO1 : Hid (∀ W, Below w.heap.size w W → Calls Tryz.prog 37 #[.agg #[.slice po nP pc, .slice ko m kc, .int .i64 cells, .slice io nI ic, .bool res, .int .i64 keep, .slice no n nc, .int .i64 en]] W (LlPost (liveOL (nds rn) m) n W)) := lh fun W hbw => refOut_any B po ko io no nP pc m kc nI ic n nc cells keep en res rn W (hN.below (hbw.mono hB)) (by have := hbw.size; omega) hn hm hv
  obtain ⟨l, hl⟩ : ∃ l, l = lineK (nds rn) en := ⟨_, rfl⟩
  have HLP : Hid (LineP (nds rn) en l) := lh (by rw [hl]; exact lineK_ok hv (by rw [HLN.out]; exact hen))
  obtain ⟨nl, hnl⟩ : ∃ nl, nl = l.length := ⟨_, rfl⟩
  have HNL := lh hnl
  rw [← hl] at HL1 ⊢
  clear hN hP hv hb1 hg1 hl hnl hb1d
  go_enter Tryz.func18, Tryz.ntmps18
  go_upto_region 1 with fail
  rw [← hW1]
  clear hW1
  go_cut [3, 4, 5] (fun s3 s4 s5 wx => ∃ (A1 A2 A3 : Option Addr) (c1 c2 c3 : Nat) (vs2 vs3 : Nat → Value), s3 = .slice A1 nl c1 ∧ s4 = .slice A2 n c2 ∧ s5 = .slice A3 n c3 ∧ Hid (R3I w m n nl #[.slice po nP pc, .slice ko m kc, .int .i64 cells, .slice io nI ic, .bool res, .int .i64 keep, .slice no n nc, .int .i64 en] (nds rn) l A1 A2 A3 c1 c2 c3 vs2 vs3 wx))
  case first =>
    go_region_law (go_simp; first
      | (go_at_call 35; refine HL1.out.mono ?_; rintro e w2 ⟨A1, c1, rfl, ho1, hc1, hb2⟩; rw [← HNL.out] at ho1 hc1 ⊢; have HR1 := lh ho1; have HB2 := lh (HB1.out.drew.trans (hb2.mono HB1.out.size)); have HG2 := lh (HG1.out.drew.below hb2 HG1.out.lt); obtain ⟨y0, y1, y2, y3, y4, y5, y6, y7⟩ := HCL.out w2 HG2.out; clear ho1 hb2)
      | (go_at_call 36; refine (HI1.out w2 HB2.out).mono ?_; rintro e w3 ⟨hb3, A2, c2, vs2, rfl, ho2⟩; have HR2 := lh (ho2.base (W' := w) HB2.out.size); have HR1b := lh (own_kept HR1.out fun g hg => hb3.block g (own_block_le HR1.out hg).2); have HB3 := lh (HB2.out.trans (hb3.mono HB2.out.size)); have HG3 := lh (HG2.out.below hb3 HG2.out.lt); obtain ⟨z0, z1, z2, z3, z4, z5, z6, z7⟩ := HCL.out w3 HG3.out; clear ho2 hb3)
      | (go_at_call 37; refine (HO1.out w3 HB3.out).mono ?_; rintro e w4 ⟨hb4, A3, c3, vs3, rfl, ho3⟩; have HFIN : Hid (R3I w m n nl #[.slice po nP pc, .slice ko m kc, .int .i64 cells, .slice io nI ic, .bool res, .int .i64 keep, .slice no n nc, .int .i64 en] (nds rn) l A1 A2 A3 c1 c2 c3 vs2 vs3 w4) := lh ⟨HG3.out.below hb4 HG3.out.lt, Reads.of_own (own_kept HR1b.out fun g hg => hb4.block g (own_block_le HR1b.out hg).2), HR2.out.on hb4, ho3.base (W' := w) HB3.out.size, HB3.out.trans (hb4.mono HB3.out.size)⟩; clear ho3 hb4))
    all_goals
      go_wp2_with fail
      go_meet
      exact ⟨_, _, _, _, _, _, _, _, rfl, rfl, rfl, HFIN⟩
  case rest =>
    obtain ⟨A1, A2, A3, c1, c2, c3, vs2, vs3, rfl, rfl, rfl, H3⟩ := hcut
    have hnl0 : 0 < nl := by
      obtain ⟨rl, hrl⟩ := HLP.out.first
      have := HNL.out
      rw [hrl] at this
      simp at this
      omega
    have hnl4 : nl ≤ 4096 := by have h1 := HLP.out.len; rw [HLN.out, ← HNL.out] at h1; omega
    have hn0 : 0 < n := by omega
    obtain ⟨bl, ol, rfl, hbl, hcl⟩ := H3.out.line.lit hnl0 (by decide)
    obtain ⟨b2, o2, rfl, hb2, hc2⟩ := (Reads.of_own H3.out.in_.out).lit hn0 (by decide)
    obtain ⟨b3, o3, rfl, hb3, hc3⟩ := (Reads.of_own H3.out.out.out).lit hn0 (by decide)
    have HC2 := lh hc2
    have HC3 := lh hc3
    have HBN := lh (show bl < wc.heap.size ∧ b2 < wc.heap.size ∧ b3 < wc.heap.size from ⟨hbl, hb2, hb3⟩)
    have k1 : wc.cell? ⟨w.heap.size, 1, none⟩ = some (.slice ko m kc) := H3.out.gr.cell 1
    clear hcl hc2 hc3 hbl hb2 hb3 x0 x1 x2 x3 x4 x5 x6 x7 HL1 HI1 HO1 HG1 HB1 hz1 W1
    go_wp2
    clear k1
    have hwcz := H3.out.below.size
    go_loopw [6, 21] (fun v s wr => ∃ p : Nat, p ≤ m ∧ s = .int .i64 p ∧ Hid (wr.ownsRow wc.heap.size 56 4 v (spansL (nds rn) ps l p).length (ivCs (spansL (nds rn) ps l p))) ∧ Hid (Below wc.heap.size wc wr)) (fun _ s _ => m - (intOf s).toNat)
    case atStart => exact ⟨0, by omega, rfl, lh (own_none _ _ _ _), lh (Below.refl _ _)⟩
    case round =>
      obtain ⟨p, hp, rfl, HO, HB⟩ := hrel
      obtain ⟨Ao, co, rfl⟩ := own_slice HO.out
      by_cases hpm : p < m
      · have HBX0 : Hid (BxI (wr.alloc (.cells #[.int .i64 p, .int .i64 (-1), .int .i64 0, .bool false] 56)) wr.heap.size (ivK (nds rn) ps l p 0) (wr.alloc (.cells #[.int .i64 p, .int .i64 (-1), .int .i64 0, .bool false] 56))) := lh ⟨Blk.new _ _ _, KpB.refl _ _⟩
        have hbA : Below wr.heap.size wr (wr.alloc (.cells #[.int .i64 p, .int .i64 (-1), .int .i64 0, .bool false] 56)) := (Below.refl _ _).alloc (Nat.le_refl _) _
        obtain ⟨wB, hwB⟩ : ∃ wB, wB = wr.alloc (.cells #[.int .i64 p, .int .i64 (-1), .int .i64 0, .bool false] 56) := ⟨_, rfl⟩
        rw [← hwB] at HBX0 hbA
        have HBA := lh hbA
        clear hbA
        obtain ⟨w6, hw6⟩ : ∃ w6, w6 = wr := ⟨_, rfl⟩
        obtain ⟨q, hq⟩ : ∃ q, q = wr.heap.size := ⟨_, rfl⟩
        have HQE := lh hq
        go_upto_region 7 with fail
        rw [← hwB]
        rw [← hq] at HBX0 ⊢
        rw [← hw6] at HO HB HBA HQE
        clear hwB hq hw6
        have HUP : Hid (∀ wx s, BxI wB q s wx → Below w6.heap.size w6 wx) := lh fun wx s hx => HBA.out.trans (hx.kp.out w6.heap.size HBA.out.size (by rw [HQE.out]; exact Nat.le_refl _))
        have HUW : Hid (∀ wx s, BxI wB q s wx → Below wc.heap.size wc wx) := lh fun wx s hx => HB.out.trans ((HUP.out wx s hx).mono HB.out.size)
        go_wp2
        go_loopw [28] (fun s wr => ∃ k : Nat, k ≤ nl ∧ s = .int .i64 k ∧ Hid (BxI wB q (ivK (nds rn) ps l p k) wr)) (fun s _ => nl - (intOf s).toNat)
        case atStart => exact ⟨0, by omega, rfl, HBX0⟩
        case round =>
          clear HBX0
          obtain ⟨k, hk, rfl, HI⟩ := hrel
          have HBC := lh (HUW.out wr _ HI.out)
          have HBW := lh (H3.out.below.trans (HBC.out.mono hwcz))
          have hwz := HBW.out.size
          by_cases hkl : k < nl
          · obtain ⟨bx, ox, x, hxe, hbx, HXX, e1⟩ := ((H3.out.line).below HBC.out).int hkl
            injection hxe with hxe
            injection hxe with hxe1 hxe2
            subst hxe1 hxe2
            obtain ⟨i, rfl, hi⟩ := HLP.out.nat x (List.mem_of_getElem? HXX.out)
            rw [HLN.out] at hi
            have HAT : Hid (atL l k = i) := lh (by unfold atL; rw [List.getD_eq_getElem?_getD, HXX.out]; simp)
            obtain ⟨bn, on, nd, hno, hbn, HXI, HRN1, HWI, u0, u1, u2, u3, u4, u5, u6, u7, u8, u9, u10, u11⟩ := (HN.out.below (HBW.out.mono hB)).nd hi
            have HXN : Hid ((nds rn)[i]? = some nd.nd) := lh (by unfold nds; rw [List.getElem?_map, HXI.out]; rfl)
            obtain ⟨A5, c5, hs5⟩ := own_slice (H3.out.in_.own i hi)
            have HA5 : Hid (Reads wc wc.heap.size 1 A5 (liveL (nds rn) m i).length (i64c (liveL (nds rn) m i))) := lh (by
              have h := H3.out.in_.own i hi
              rw [hs5] at h
              exact Reads.of_own h)
            have e2 : wr.cell? ⟨b2, o2 + i, none⟩ = some (.slice A5 (liveL (nds rn) m i).length c5) := (HBC.out.cell (p := ⟨b2, _, none⟩) HBN.out.2.1).trans (by rw [← hs5]; exact HC2.out i _ (range_at vs2 hi))
            obtain ⟨A8, c8, hs8⟩ := own_slice (H3.out.out.own i hi)
            have HA8 : Hid (Reads wc wc.heap.size 1 A8 (liveOL (nds rn) m i).length (i64c (liveOL (nds rn) m i))) := lh (by
              have h := H3.out.out.own i hi
              rw [hs8] at h
              exact Reads.of_own h)
            have HE3 : Hid (∀ wx, Below wc.heap.size wc wx → wx.cell? ⟨b3, o3 + i, none⟩ = some (.slice A8 (liveOL (nds rn) m i).length c8)) := lh fun wx hx => (hx.cell (p := ⟨b3, _, none⟩) HBN.out.2.2).trans (by rw [← hs8]; exact HC3.out i _ (range_at vs3 hi))
            have hlm := liveL_max (nds rn) m i
            have hlom := liveOL_max (nds rn) m i
            have HG : Hid (Blk wr w.heap.size 35 #[.slice po nP pc, .slice ko m kc, .int .i64 cells, .slice io nI ic, .bool res, .int .i64 keep, .slice no n nc, .int .i64 en]) := lh (H3.out.gr.below HBC.out H3.out.gr.lt)
            obtain ⟨y0, y1, y2, y3, y4, y5, y6, y7⟩ := HCL.out wr HG.out
            have HAW := lh (atwork_any B po ko io no A5 nP pc m kc nI ic n nc nl c1 c2 c5 (liveL (nds rn) m i).length bl ol b2 o2 i k cells keep en p res rn ps (liveL (nds rn) m i) nd wr (HN.out.below (HBW.out.mono hB)) (HP.out.below (HBW.out.mono hB)) hpl hp4 (by omega) hi hn hkl hnl4 e1 e2 ((HA5.out.below HBC.out).more HBC.out.size) rfl (by omega) HXI.out)
            have HWI2 := lh (workB_iff (ps := ps) (la := liveL (nds rn) m i) (p := (p : Int)) HXN.out HAT.out (liveN_mem p hpm))
            clear hs5 hs8
            by_cases hwk : WorkP (nds rn) ps l p k
            · have hwt : workB (liveL (nds rn) m i) (writesOf nd.nd) ps p k = true := HWI2.out.2 hwk
              rw [hwt] at HAW
              obtain ⟨s0, hs0⟩ : ∃ s, s = ivK (nds rn) ps l p k := ⟨_, rfl⟩
              have HSE := lh hs0
              have HSP0 : Hid (s0.p = (p : Int)) := lh (by rw [hs0]; exact ivK_p _ _ _ _ _)
              rw [← hs0] at HI
              clear u0 u1 u2 u3 u4 u5 u6 u7 u8 u9 u10 u11 hno hs0 hwt
              have hcase : decide (s0.f < 0) = true ∨ decide (s0.f < 0) = false := by
                rcases decide (s0.f < 0) with _ | _
                · exact .inr rfl
                · exact .inl rfl
              go_upto_region 11 with (go_at_call 38; refine HAW.out.mono ?_; rintro e w7 ⟨rfl, hb7⟩; have HI7 := lh (HI.out.on hb7); have t1 : w7.cell? ⟨q, 1, none⟩ = some (.int .i64 s0.f) := HI7.out.box.cell 1; have t2 : w7.cell? ⟨q, 2, none⟩ = some (.int .i64 s0.t) := HI7.out.box.cell 2; have f1 : w7.frozen? ⟨q, 1, none⟩ = false := HI7.out.box.frozen 1; have f2 : w7.frozen? ⟨q, 2, none⟩ = false := HI7.out.box.frozen 2; clear hb7)
              clear y0 y1 y2 y3 y4 y5 y6 y7 e1 e2 HG HAW
              rcases hcase with g1 | g1
              all_goals
                go_upto_region 14 with fail
                first
                  | (obtain ⟨w8, hw8⟩ : ∃ w8, w8 = (w7.setCell ⟨q, 1, none⟩ (.int .i64 k)).setCell ⟨q, 2, none⟩ (.int .i64 k) := ⟨_, rfl⟩
                     rw [← hw8]
                     obtain ⟨fz, hfz, HI8⟩ : ∃ fz : Int, Hid (fz = (if s0.f < 0 then (k : Int) else s0.f)) ∧ Hid (BxI wB q ⟨s0.p, fz, k, s0.h⟩ w8) := ⟨k, lh (by rw [if_pos (of_decide_eq_true g1)]), lh (by rw [hw8]; exact (HI7.out.f k).t k)⟩
                     clear hw8)
                  | (obtain ⟨w8, hw8⟩ : ∃ w8, w8 = w7.setCell ⟨q, 2, none⟩ (.int .i64 k) := ⟨_, rfl⟩
                     rw [← hw8]
                     obtain ⟨fz, hfz, HI8⟩ : ∃ fz : Int, Hid (fz = (if s0.f < 0 then (k : Int) else s0.f)) ∧ Hid (BxI wB q ⟨s0.p, fz, k, s0.h⟩ w8) := ⟨s0.f, lh (by rw [if_neg (of_decide_eq_false g1)]), lh (by rw [hw8]; exact HI7.out.t k)⟩
                     clear hw8)
                clear g1 t1 t2 f1 f2 HI7 HI HBC HBW hwz
                have HBC := lh (HUW.out w8 _ HI8.out)
                have HBW := lh (H3.out.below.trans (HBC.out.mono hwcz))
                have hwz := HBW.out.size
                obtain ⟨bn2, on2, nd2, hno, hbn2, HXI2, HRN2, HWI3, u0, u1, u2, u3, u4, u5, u6, u7, u8, u9, u10, u11⟩ := (HN.out.below (HBW.out.mono hB)).nd hi
                obtain rfl : nd = nd2 := by
                  have h := HXI.out
                  rw [HXI2.out] at h
                  injection h with h
                  exact h.symm
                have hbnr : bn2 < w8.heap.size := by omega
                have y6 : w8.cell? ⟨w.heap.size, 6, none⟩ = some (.slice no n nc) := (H3.out.gr.below HBC.out H3.out.gr.lt).cell 6
                rw [hno] at y6
                have HNB := lh (Blk.new w8 47 #[.int .u8 nd.nd.op, .int .u8 nd.nd.bop, .int .i64 nd.nd.d, .int .i64 nd.nd.e, .int .i64 nd.nd.a, .int .i64 nd.nd.b, .int .i64 nd.nd.f, .int .i64 nd.nd.cell, .int .u64 nd.nd.imm, .slice nd.ao nd.nd.args.length nd.ac, .int .i64 nd.nd.next, .int .i64 nd.nd.els])
                have HAB : Hid (Below w8.heap.size w8 (w8.alloc (.cells #[.int .u8 nd.nd.op, .int .u8 nd.nd.bop, .int .i64 nd.nd.d, .int .i64 nd.nd.e, .int .i64 nd.nd.a, .int .i64 nd.nd.b, .int .i64 nd.nd.f, .int .i64 nd.nd.cell, .int .u64 nd.nd.imm, .slice nd.ao nd.nd.args.length nd.ac, .int .i64 nd.nd.next, .int .i64 nd.nd.els] 47))) := lh ((Below.refl _ _).alloc (Nat.le_refl _) _)
                obtain ⟨wA, hwA⟩ : ∃ wA, wA = w8.alloc (.cells #[.int .u8 nd.nd.op, .int .u8 nd.nd.bop, .int .i64 nd.nd.d, .int .i64 nd.nd.e, .int .i64 nd.nd.a, .int .i64 nd.nd.b, .int .i64 nd.nd.f, .int .i64 nd.nd.cell, .int .u64 nd.nd.imm, .slice nd.ao nd.nd.args.length nd.ac, .int .i64 nd.nd.next, .int .i64 nd.nd.els] 47) := ⟨_, rfl⟩
                rw [← hwA] at HNB HAB
                have HIA := lh (HI8.out.on HAB.out)
                have HBCA := lh (HBC.out.trans (HAB.out.mono HBC.out.size))
                have HWX := lh (rwrites_any B nd.nd.op nd.nd.bop nd.nd.d nd.nd.e nd.nd.a nd.nd.b nd.nd.f nd.nd.cell nd.nd.imm nd.nd.args nd.nd.next nd.nd.els nd.ao nd.nd.args.length nd.ac wA HWI.out.o0 HWI.out.o1 HWI.out.d HWI.out.e HWI.out.a HWI.out.b HWI.out.next HWI.out.els (HRN2.out.args.below (HAB.out.mono (by omega))) rfl HWI.out.args HWI.out.al HRN2.out.cap (by have := HAB.out.size; omega))
                obtain ⟨ws, hws⟩ : ∃ ws, ws = writesOf ⟨nd.nd.op, nd.nd.bop, nd.nd.d, nd.nd.e, nd.nd.a, nd.nd.b, nd.nd.f, nd.nd.cell, nd.nd.imm, nd.nd.args, nd.nd.next, nd.nd.els⟩ := ⟨_, rfl⟩
                rw [← hws] at HWX
                have HWS : Hid (writesOf nd.nd = ws) := lh hws.symm
                have hw2 : ws.length ≤ 2 := by rw [hws]; exact lens2 _
                have HINA := lh (in_any wc.heap.size A8 (liveOL (nds rn) m i).length c8 (liveOL (nds rn) m i) p wA (HA8.out.below HBCA.out) rfl (by omega))
                have a3 := HE3.out wA HBCA.out
                have HHN : Hid (HeldN (nds rn) p (atL l k) ↔ (nd.nd.op = 11 ∨ nd.nd.op = 13) ∧ (p : Int) ∈ liveOL (nds rn) m i ∧ (p : Int) ∉ ws) := lh (by
                  rw [HAT.out, liveON_mem p hpm, ← HWS.out]
                  unfold HeldN
                  constructor
                  · rintro ⟨n2, h1, h2, h3, h4⟩
                    rw [HXN.out] at h1
                    injection h1 with h1
                    subst h1
                    exact ⟨h2, h3, h4⟩
                  · rintro ⟨h2, h3, h4⟩
                    exact ⟨nd.nd, HXN.out, h2, h3, h4⟩)
                have HK0 : Hid (¬ HeldN (nds rn) p (atL l k) → ivK (nds rn) ps l p (k + 1) = ⟨s0.p, fz, k, s0.h⟩) := lh fun hh => by rw [ivK_h0 hwk hh, ← HSE.out, ← hfz.out, HSP0.out]
                have HK1 : Hid (HeldN (nds rn) p (atL l k) → ivK (nds rn) ps l p (k + 1) = ⟨s0.p, fz, k, true⟩) := lh fun hh => by rw [ivK_h1 hwk hh, ← HSE.out, ← hfz.out, HSP0.out]
                obtain ⟨qn, hqn⟩ : ∃ qn, qn = w8.heap.size := ⟨_, rfl⟩
                go_upto_region 15 with fail
                rw [← hwA]
                rw [← hqn] at HNB ⊢
                clear hwA hqn u0 u1 u2 u3 u4 u5 u6 u7 u8 u9 u10 u11 y6 hbnr hws hno
                have v0 : wA.cell? ⟨qn, 0, none⟩ = some (.int .u8 nd.nd.op) := HNB.out.cell 0
                have v1 : wA.cell? ⟨qn, 1, none⟩ = some (.int .u8 nd.nd.bop) := HNB.out.cell 1
                have v2 : wA.cell? ⟨qn, 2, none⟩ = some (.int .i64 nd.nd.d) := HNB.out.cell 2
                have v3 : wA.cell? ⟨qn, 3, none⟩ = some (.int .i64 nd.nd.e) := HNB.out.cell 3
                have v4 : wA.cell? ⟨qn, 4, none⟩ = some (.int .i64 nd.nd.a) := HNB.out.cell 4
                have v5 : wA.cell? ⟨qn, 5, none⟩ = some (.int .i64 nd.nd.b) := HNB.out.cell 5
                have v6 : wA.cell? ⟨qn, 6, none⟩ = some (.int .i64 nd.nd.f) := HNB.out.cell 6
                have v7 : wA.cell? ⟨qn, 7, none⟩ = some (.int .i64 nd.nd.cell) := HNB.out.cell 7
                have v8 : wA.cell? ⟨qn, 8, none⟩ = some (.int .u64 nd.nd.imm) := HNB.out.cell 8
                have v9 : wA.cell? ⟨qn, 9, none⟩ = some (.slice nd.ao nd.nd.args.length nd.ac) := HNB.out.cell 9
                have v10 : wA.cell? ⟨qn, 10, none⟩ = some (.int .i64 nd.nd.next) := HNB.out.cell 10
                have v11 : wA.cell? ⟨qn, 11, none⟩ = some (.int .i64 nd.nd.els) := HNB.out.cell 11
                by_cases hop : nd.nd.op = 11 ∨ nd.nd.op = 13
                · have gop : (nd.nd.op == 11) = true ∨ (nd.nd.op == 11) = false ∧ (nd.nd.op == 13) = true := by
                    rcases hop with h | h
                    · exact .inl (by rw [h]; rfl)
                    · exact .inr ⟨by rw [h]; rfl, by rw [h]; rfl⟩
                  have HOP := lh hop
                  clear hop
                  by_cases hlo : (p : Int) ∈ liveOL (nds rn) m i
                  · have HD : Hid (decide ((p : Int) ∈ liveOL (nds rn) m i) = true) := lh (decide_eq_true hlo)
                    rw [HD.out] at HINA
                    by_cases hpw : (p : Int) ∈ ws
                    · have HD2 : Hid (decide ((p : Int) ∈ ws) = true) := lh (decide_eq_true hpw)
                      have HFIN := lh (HK0.out fun h => (HHN.out.1 h).2.2 hpw)
                      clear hlo hpw
                      rcases gop with g11 | ⟨g11, g13⟩
                      all_goals
                        go_wp2_with (first
                          | (go_at_call 31; (with_reducible refine HINA.out.mono ?_); rintro e wx ⟨rfl, hwx⟩; rw [hwx]; clear hwx)
                          | (go_at_call 39; refine HWX.out.mono ?_; rintro e w9 ⟨A9, c9, rfl, hr9, hc9, hb9⟩; have HIN9 := lh (in_any w9.heap.size A9 ws.length c9 ws p w9 hr9 rfl (by omega)); rw [HD2.out] at HIN9; have HI9 := lh (HIA.out.on hb9); clear hr9 hb9)
                          | (go_at_call 31; (with_reducible refine HIN9.out.mono ?_); rintro e wx ⟨rfl, hwx⟩; rw [hwx]; clear hwx))
                        go_roundw
                        case rel => exact ⟨k + 1, by omega, by go_num, by rw [HFIN.out]; exact HI9⟩
                        case measure => simp [intOf]; omega
                    · have HD2 : Hid (decide ((p : Int) ∈ ws) = false) := lh (decide_eq_false hpw)
                      have HFIN := lh (HK1.out (HHN.out.2 ⟨HOP.out, hlo, hpw⟩))
                      clear hlo hpw
                      rcases gop with g11 | ⟨g11, g13⟩
                      all_goals
                        go_wp2_with (first
                          | (go_at_call 31; (with_reducible refine HINA.out.mono ?_); rintro e wx ⟨rfl, hwx⟩; rw [hwx]; clear hwx)
                          | (go_at_call 39; refine HWX.out.mono ?_; rintro e w9 ⟨A9, c9, rfl, hr9, hc9, hb9⟩; have HIN9 := lh (in_any w9.heap.size A9 ws.length c9 ws p w9 hr9 rfl (by omega)); rw [HD2.out] at HIN9; have HI9 := lh (HIA.out.on hb9); have q3 : w9.cell? ⟨q, 3, none⟩ = some (.bool s0.h) := HI9.out.box.cell 3; have fq3 : w9.frozen? ⟨q, 3, none⟩ = false := HI9.out.box.frozen 3; clear hr9 hb9)
                          | (go_at_call 31; (with_reducible refine HIN9.out.mono ?_); rintro e wx ⟨rfl, hwx⟩; rw [hwx]; clear hwx))
                        go_roundw
                        case rel => exact ⟨k + 1, by omega, by go_num, by rw [HFIN.out]; exact lh (HI9.out.h true)⟩
                        case measure => simp [intOf]; omega
                  · have HD : Hid (decide ((p : Int) ∈ liveOL (nds rn) m i) = false) := lh (decide_eq_false hlo)
                    rw [HD.out] at HINA
                    have HFIN := lh (HK0.out fun h => hlo (HHN.out.1 h).2.1)
                    clear hlo
                    rcases gop with g11 | ⟨g11, g13⟩
                    all_goals
                      go_wp2_with (go_at_call 31; (with_reducible refine HINA.out.mono ?_); rintro e wx ⟨rfl, hwx⟩; rw [hwx]; clear hwx)
                      go_roundw
                      case rel => exact ⟨k + 1, by omega, by go_num, by rw [HFIN.out]; exact HIA⟩
                      case measure => simp [intOf]; omega
                · have HFIN := lh (HK0.out fun h => hop (HHN.out.1 h).1)
                  have g11 : (nd.nd.op == 11) = false := by simp; omega
                  have g13 : (nd.nd.op == 13) = false := by simp; omega
                  clear hop
                  go_wp2
                  go_roundw
                  case rel => exact ⟨k + 1, by omega, by go_num, by rw [HFIN.out]; exact HIA⟩
                  case measure => simp [intOf]; omega
            · have hwf : workB (liveL (nds rn) m i) (writesOf nd.nd) ps p k = false := by
                rcases e : workB (liveL (nds rn) m i) (writesOf nd.nd) ps p k with _ | _
                · rfl
                · exact absurd (HWI2.out.1 e) hwk
              rw [hwf] at HAW
              have HNO := lh (ivK_no hwk)
              clear hwf hwk u0 u1 u2 u3 u4 u5 u6 u7 u8 u9 u10 u11 hno
              go_wp2_with (go_at_call 38; refine HAW.out.mono ?_; rintro e w7 ⟨rfl, hb7⟩; have HI7 := lh (HI.out.on hb7); clear hb7)
              go_roundw
              case rel => exact ⟨k + 1, by omega, by go_num, by rw [HNO.out]; exact HI7⟩
              case measure => simp [intOf]; omega
          · have hke : k = nl := by omega
            obtain ⟨s, hs⟩ : ∃ s, s = ivK (nds rn) ps l p l.length := ⟨_, rfl⟩
            have HI9 : Hid (BxI wB q s wr) := lh (by rw [hs, ← HNL.out, ← hke]; exact HI.out)
            have HSU := lh (spansL_succ (nds rn) ps l p)
            rw [← hs] at HSU
            have HO9 := lh (own_kept HO.out fun g hg => (HUP.out wr _ HI.out).block g (own_block_le HO.out hg).2)
            have v0 : wr.cell? ⟨q, 0, none⟩ = some (.int .i64 s.p) := HI9.out.box.cell 0
            have v1 : wr.cell? ⟨q, 1, none⟩ = some (.int .i64 s.f) := HI9.out.box.cell 1
            have v2 : wr.cell? ⟨q, 2, none⟩ = some (.int .i64 s.t) := HI9.out.box.cell 2
            have v3 : wr.cell? ⟨q, 3, none⟩ = some (.bool s.h) := HI9.out.box.cell 3
            have hlen := spansL_len (nds rn) ps l p
            have hbcz := HBC.out.size
            clear hs
            by_cases hsf : 0 ≤ s.f
            · have g1 : decide (s.f ≥ 0) = true := decide_eq_true (by omega)
              have g2 : decide (0 ≤ s.f) = true := decide_eq_true (by omega)
              rw [if_pos hsf] at HSU
              clear hsf
              go_wp2_with (at_builtin; refine app_iv rfl (.tmp 80) (.tmp 82) rfl wc.heap.size _ _ _ rfl (own_alloc HO9.out _) (wr.heap.size + 1) (some ⟨wr.heap.size, 0, none⟩) 1 1 (ivL s) rfl (one_reads wr _ _ 4 rfl) (fun u hu => by unfold ivL at hu; simp at hu; rcases hu with rfl | rfl | rfl | rfl <;> rfl) (by omega) (by simp; omega) ?_; intro v' w8 hown hgr hor; have HO8 := lh hown; have HB8 : Hid (Below wc.heap.size wc w8) := lh ((HBC.out.alloc hbcz _).grown hgr (by simp; omega) fun g hg => (own_block_le HO9.out hg).1); clear hown hgr hor)
              go_roundw
              case rel =>
                refine ⟨p + 1, by omega, by go_num, ?_, HB8⟩
                rw [HSU.out, ivCs_append, List.length_append]
                have e : ivCs [s] = ivL s := by simp [ivCs]
                rw [e]
                exact HO8
              case measure => simp [intOf]; omega
            · have g1 : decide (s.f ≥ 0) = false := decide_eq_false (by omega)
              have g2 : decide (0 ≤ s.f) = false := decide_eq_false (by omega)
              rw [if_neg hsf, List.append_nil] at HSU
              clear hsf
              go_wp2
              go_roundw
              case rel => exact ⟨p + 1, by omega, by go_num, by rw [HSU.out]; exact HO9, HBC⟩
              case measure => simp [intOf]; omega
      · have hpe : p = m := by omega
        rw [hpe] at HO ⊢
        go_wp2
        go_ret
        exact ⟨Ao, (spansL (nds rn) ps l m).length, co, rfl, rfl, own_more HO.out hwcz, H3.out.below.trans (HB.out.mono hwcz)⟩
end Go.Proofs.YtedmcfaghfgpoaaGreatDoor
