/-
  Texts of one seat, one behind the other: OFrm, LRo, ORl, ORw.
-/
import Derived.Test.YtcljjacanomggaaDoorMA12
import Derived.Test.YtcljjacanomggaaDoorMA15
import Derived.Test.YtcljjacanomggaaDoorMA17
import Derived.Test.YtcljjacanomggaaDoorMA13
import Derived.Test.YtcljjacanomggaaDoorMA1
import Derived.Test.YtcljjacanomggaaDoorMA14
import Derived.Test.YtcljjacanomggaaDoorMA16

/-
  The document's walk depth first (from): its memory, and its own walk by induction on what is still unseen.
-/
namespace Go.Proofs.YtcljjacanomggaaDoor
set_option linter.unusedVariables false
set_option linter.unusedSimpArgs false
open Go.ChangeShapes Go.WideShapes Go.ChangeAt Go.RowKit

structure VR (W : World) (b fl n : Nat) (s : DSt) (v : Value) (w : World) : Prop where
  box : Blk w b 64 #[.slice (some ⟨fl, 0, none⟩) n n, v]
  row : Blk w fl 4 (rowA n fun k => .bool (s.seen k))
  own : w.ownsRow W.heap.size 3 1 v s.left.length (i64c s.left)
  below : Below W.heap.size W w
  hb : W.heap.size ≤ b
  hf : W.heap.size ≤ fl
section
variable {W w w' w1 w2 : World} {b fl n : Nat} {s : DSt} {v v1 v2 v' : Value}
theorem VR.on (h : VR W b fl n s v w) (hb : Below w.heap.size w w') : VR W b fl n s v w' :=
  ⟨h.box.below hb h.box.lt, h.row.below hb h.row.lt, own_kept h.own fun g hg => hb.block g (own_block_le h.own hg).2, h.below.trans (hb.mono h.below.size), h.hb, h.hf⟩
theorem VR.mark (h : VR W b fl n s v w) (i : Nat) : VR W b fl n ⟨mkB s.seen i, s.left⟩ v (w.setCell ⟨fl, i, none⟩ (.bool true)) := by
  have hf := h.hf
  refine ⟨h.box.far (p := ⟨fl, i, none⟩) (Blk.ne_ h.box h.row (by decide)) _, ?_, own_far h.own h.row (by decide) _ _, h.below.setCell (p := ⟨fl, i, none⟩) (by show W.heap.size ≤ fl; exact hf) _, h.hb, h.hf⟩
  have h1 := h.row.set_ i (.bool true)
  rw [rowA_set] at h1
  rw [rowA_congr (g := upd (fun k => .bool (s.seen k)) i (.bool true)) (fun k hk => by
    show Value.bool (if k = i then true else s.seen k) = if k = i then _ else _
    by_cases e : k = i
    · rw [if_pos e, if_pos e]
    · rw [if_neg e, if_neg e])]
  exact h1
theorem VR.push {o : Obj} {x : Int} (h : VR W b fl n s v w) (hown : w'.ownsRow W.heap.size 3 1 v' (s.left.length + 1) (i64c s.left ++ [.int .i64 x])) (hg : (w.alloc o).grownBy w' v.ownBlock) (hor : v'.ownBlock = v.ownBlock ∨ v'.ownBlock = some (w.alloc o).heap.size) :
    w'.frozen? ⟨b, 1, none⟩ = false ∧ (∃ y, w'.cell? ⟨b, 1, none⟩ = some y) ∧ Hid (VR W b fl n ⟨s.seen, s.left ++ [x]⟩ v' (w'.setCell ⟨b, 1, none⟩ v')) ∧ Hid (KpV w (w'.setCell ⟨b, 1, none⟩ v') b fl v v') := by
  have ho := own_alloc h.own o
  have hbx := blk_grown (h.box.alloc o) ho hg (by decide)
  have hrw := blk_grown (h.row.alloc o) ho hg (by decide)
  have hz := h.below.size
  have hb := h.hb
  have hgs := hg.size
  simp at hgs
  have hbl : Below W.heap.size W w' := (h.below.alloc hz o).grown hg (by simp; omega) fun g he => by have := (own_block_le ho he).1; omega
  refine ⟨hbx.frozen 1, ⟨_, hbx.cell 1⟩, Lib.hid ⟨hbx.set_ 1 v', hrw.far (p := ⟨b, 1, none⟩) (by show fl ≠ b; exact (Blk.ne_ h.box h.row (by decide)).symm) _, ?_, hbl.setCell (p := ⟨b, 1, none⟩) (by show W.heap.size ≤ b; exact hb) _, h.hb, h.hf⟩, Lib.hid ⟨by simp [World.setCell]; omega, fun g hgl h1 h2 h3 => ?_, ?_⟩⟩
  · have h1 := own_far hown hbx (by decide) 1 v'
    show World.ownsRow _ _ _ _ _ (s.left ++ [x]).length (i64c (s.left ++ [x]))
    rw [i64c_append, List.length_append]
    exact h1
  · refine (Below.heap_setCell w' ⟨b, 1, none⟩ v' g h1).trans ((hg.block g (by simp; omega) (fun e => h3 e.symm)).trans (Below.heap_alloc w o g hgl))
  · rcases hor with h1 | h1
    · exact .inl h1
    · exact .inr ⟨_, h1, by simp⟩
end
def RPost (ns : List Nd) (W : World) (b fl n : Nat) (F i : Nat) (s : DSt) (v : Value) (w : World) (e : Ending) (w' : World) : Prop :=
  e = .returned (.tuple #[]) ∧ ∃ v', VR W b fl n (vis ns F i s) v' w' ∧ KpV w w' b fl v v'
set_option maxRecDepth 100000 in
set_option maxHeartbeats 6400000 in
theorem from_any (B b fl : Nat) (po ko io no : Option Addr) (nP pc nK kc nI ic n nc : Nat) (cells keep entry : Int) (res : Bool) (rn : List RN) (W : World) (hN : RdNs W B no n rn) (hB : B ≤ W.heap.size) (hn : n ≤ 4096) (hv : NextIn (nds rn)) :
    ∀ (F i : Nat) (s : DSt) (v : Value) (w : World), i < n → s.seen i = false → unS s.seen n ≤ F → s.left.length + unS s.seen n ≤ n → VR W b fl n s v w →
      Calls Tryd.prog 26 #[.pointer (some ⟨b, 0, none⟩), .agg #[.slice po nP pc, .slice ko nK kc, .int .i64 cells, .slice io nI ic, .bool res, .int .i64 keep, .slice no n nc, .int .i64 entry], .int .i64 i] w (RPost (nds rn) W b fl n F i s v w) := by
  have HRN := Lib.hid hN
  have HV := Lib.hid hv
  have HLN : Hid ((nds rn).length = n) := Lib.hid (by rw [length_nds]; exact hN.len)
  clear hN hv
  intro F
  induction F with
  | zero => exact fun i s v w hi hs hu _ _ => absurd (unS_pos hi hs) (by omega)
  | succ F ih =>
    intro i s v w hi hs hu hc h
    have IH := Lib.hid ih
    have H := Lib.hid h
    have hum := unS_mark hi hs
    have HU : Hid (unS (mkB s.seen i) n ≤ F) := Lib.hid (by omega)
    have HC : Hid (s.left.length + unS (mkB s.seen i) n + 1 ≤ n) := Lib.hid (by omega)
    clear ih h hs hu hc hum
    have hb0 : Below w.heap.size w (w.alloc (.cells #[.slice po nP pc, .slice ko nK kc, .int .i64 cells, .slice io nI ic, .bool res, .int .i64 keep, .slice no n nc, .int .i64 entry] 38)) := (Below.refl _ _).alloc (Nat.le_refl _) _
    have HG0 := Lib.hid (Blk.new w 38 #[.slice po nP pc, .slice ko nK kc, .int .i64 cells, .slice io nI ic, .bool res, .int .i64 keep, .slice no n nc, .int .i64 entry])
    have K0 := Lib.hid (KpV.of_below hb0 b fl v)
    have HOWN : Hid (∀ g, v.ownBlock = some g → g < w.heap.size) := Lib.hid fun g hg => (own_block_le H.out.own hg).2
    have HBL : Hid (b < w.heap.size ∧ fl < w.heap.size) := Lib.hid ⟨H.out.box.lt, H.out.row.lt⟩
    have H := Lib.hid (H.out.on hb0)
    obtain ⟨w0, hw0⟩ : ∃ w0, w0 = w.alloc (.cells #[.slice po nP pc, .slice ko nK kc, .int .i64 cells, .slice io nI ic, .bool res, .int .i64 keep, .slice no n nc, .int .i64 entry] 38) := ⟨_, rfl⟩
    rw [← hw0] at HG0 K0 H hb0
    have HBW := Lib.hid hb0
    clear hb0
    obtain ⟨Av, cv, hve⟩ := own_slice H.out.own
    have b0 : w0.cell? ⟨b, 0, none⟩ = some (.slice (some ⟨fl, 0, none⟩) n n) := H.out.box.cell 0
    have f1 : w0.frozen? ⟨fl, i, none⟩ = false := H.out.row.frozen i
    have y1 : w0.cell? ⟨fl, i, none⟩ = some (.bool (s.seen i)) := by rw [H.out.row.cell, rowA_at _ hi]
    have hbf : b ≠ fl := Blk.ne_ H.out.box H.out.row (by decide)
    have H1 := Lib.hid (H.out.mark i)
    have K1 := Lib.hid (KpV.mark w0 b fl i v (.bool true))
    obtain ⟨w1, hw1⟩ : ∃ w1, w1 = w0.setCell ⟨fl, i, none⟩ (.bool true) := ⟨_, rfl⟩
    rw [← hw1] at H1 K1
    have HG1 : Hid (Blk w1 w.heap.size 38 #[.slice po nP pc, .slice ko nK kc, .int .i64 cells, .slice io nI ic, .bool res, .int .i64 keep, .slice no n nc, .int .i64 entry]) := Lib.hid (by rw [hw1]; exact HG0.out.far (p := ⟨fl, i, none⟩) (by show w.heap.size ≠ fl; have := HBL.out; omega) _)
    have c0 : w1.cell? ⟨w.heap.size, 6, none⟩ = some (.slice no n nc) := HG1.out.cell 6
    obtain ⟨bn, on, nd, hno, hbn, HXI, HRN1, HWI, u0, u1, u2, u3, u4, u5, u6, u7, u8, u9, u10, u11⟩ := (HRN.out.below (H1.out.below.mono hB)).nd hi
    have HXN : Hid ((nds rn)[i]? = some nd.nd) := Lib.hid (by unfold nds; rw [List.getElem?_map, HXI.out]; rfl)
    have hwz := H1.out.below.size
    have hbnr : bn < w1.heap.size := by omega
    have HNX := Lib.hid (rnext_own nd.nd.op nd.nd.bop nd.nd.d nd.nd.e nd.nd.a nd.nd.b nd.nd.f nd.nd.cell nd.nd.imm nd.nd.args nd.nd.next nd.nd.els nd.ao nd.nd.args.length nd.ac w1 HWI.out.o0 HWI.out.o1)
    have HNO := Lib.hid hno
    rw [hno] at c0 hw0 HG1 IH ⊢
    clear hno HG0
    obtain ⟨xs, hxs⟩ : ∃ xs, xs = nextsOf ⟨nd.nd.op, nd.nd.bop, nd.nd.d, nd.nd.e, nd.nd.a, nd.nd.b, nd.nd.f, nd.nd.cell, nd.nd.imm, nd.nd.args, nd.nd.next, nd.nd.els⟩ := ⟨_, rfl⟩
    rw [← hxs] at HNX
    have HXS : Hid (xs = nxt (nds rn) i) := Lib.hid (by rw [nxt_at HXN.out]; exact hxs)
    have HXI2 : Hid (∀ x ∈ xs, 0 ≤ x ∧ x < (n : Int)) := Lib.hid (by
      rw [HXS.out, ← HLN.out]
      exact fun x hx => nxt_in HV.out hx)
    have hm2 : xs.length ≤ 2 := by rw [hxs]; exact nexts_lenC _
    clear hxs
    go_enter Tryd.func26, Tryd.ntmps26
    go_upto_region 1 with fail
    rw [← hw0]
    clear hw0
    go_upto_region 2 with fail
    rw [← hw1]
    clear hw1 b0 f1 y1
    go_wp2_with (go_at_call 14; refine HNX.out.mono ?_; rintro e w2 ⟨A2, c2, rfl, ho2, hc2, hb2⟩; have HO2 := Lib.hid ho2; have H2 := Lib.hid (H1.out.on hb2); have K2 := Lib.hid ((K0.out.trans K1.out).trans (KpV.of_below hb2 b fl v)); have HG2 := Lib.hid (HG1.out.below hb2 HG1.out.lt); have HS2 := Lib.hid hb2.size; clear hb2 ho2)
    clear u0 u1 u2 u3 u4 u5 u6 u7 u8 u9 u10 u11 hbnr c0
    obtain ⟨m, hm⟩ : ∃ m, m = xs.length := ⟨_, rfl⟩
    rw [← hm] at HO2 hm2 hc2 ⊢
    have HM := Lib.hid hm
    have HKR : Hid (∀ wr vr, KpV w2 wr b fl v vr → wr.ownsRow w1.heap.size 3 1 (.slice A2 m c2) m (i64c xs)) := Lib.hid fun wr vr hk => own_kept HO2.out fun g hg => by
      have hl := own_block_le HO2.out hg
      refine hk.block g hl.2 (fun e => ?_) (fun e => ?_) (fun e => ?_)
      · have := H1.out.box.lt; omega
      · have := H1.out.row.lt; omega
      · have := (own_block_le H1.out.own e).2; omega
    have HKG : Hid (∀ wr vr, KpV w2 wr b fl v vr → Blk wr w.heap.size 38 #[.slice po nP pc, .slice ko nK kc, .int .i64 cells, .slice io nI ic, .bool res, .int .i64 keep, .slice (some ⟨bn, on, none⟩) n nc, .int .i64 entry]) := Lib.hid fun wr vr hk => (hk.block w.heap.size HG2.out.lt (by have := HBL.out; omega) (by have := HBL.out; omega) (fun e => by have := HOWN.out _ e; omega)).trans HG2.out
    clear hm HNX HRN1 K1
    go_loopw [21] (fun sj wr => ∃ (j : Nat) (vr : Value) (sr : DSt), j ≤ m ∧ sj = .int .i64 j ∧ Hid (sr = visL (nds rn) F (xs.take j) ⟨mkB s.seen i, s.left⟩) ∧ Hid (VR W b fl n sr vr wr) ∧ Hid (KpV w2 wr b fl v vr)) (fun sj _ => m - (intOf sj).toNat)
    case atStart => exact ⟨0, v, _, by omega, rfl, Lib.hid rfl, H2, Lib.hid (KpV.refl _ _ _ _)⟩
    case round =>
      clear H2
      obtain ⟨j, vr, sr, hj, rfl, HS, HI, HK⟩ := hrel
      have HCN : Hid (unS sr.seen n ≤ F ∧ sr.left.length + unS sr.seen n + 1 ≤ n) := Lib.hid (by
        have h1 := visL_cnt HV.out (f := F) (xs := xs.take j) (s := ⟨mkB s.seen i, s.left⟩) (fun x hx => by rw [HLN.out]; exact HXI2.out x (List.mem_of_mem_take hx)) (by rw [HLN.out]; exact HU.out)
        rw [← HS.out, HLN.out] at h1
        have h2 := HC.out
        have h3 := h1.2
        simp only at h3
        exact ⟨h1.1, by omega⟩)
      by_cases hjl : j < m
      · obtain ⟨bx, ox, x, hxe, hbx, HXX, x1⟩ := (Reads.of_own (HKR.out wr vr HK.out)).int hjl
        obtain ⟨hx0, hx1⟩ := HXI2.out x (List.mem_of_getElem? HXX.out)
        obtain ⟨y, rfl⟩ : ∃ y : Nat, x = (y : Int) := ⟨x.toNat, by omega⟩
        have hy : y < n := by omega
        have r1 : wr.cell? ⟨b, 0, none⟩ = some (.slice (some ⟨fl, 0, none⟩) n n) := HI.out.box.cell 0
        have HGR := Lib.hid (HKG.out wr vr HK.out)
        have r10 : wr.cell? ⟨w.heap.size, 0, none⟩ = some (.slice po nP pc) := HGR.out.cell 0
        have r11 : wr.cell? ⟨w.heap.size, 1, none⟩ = some (.slice ko nK kc) := HGR.out.cell 1
        have r12 : wr.cell? ⟨w.heap.size, 2, none⟩ = some (.int .i64 cells) := HGR.out.cell 2
        have r13 : wr.cell? ⟨w.heap.size, 3, none⟩ = some (.slice io nI ic) := HGR.out.cell 3
        have r14 : wr.cell? ⟨w.heap.size, 4, none⟩ = some (.bool res) := HGR.out.cell 4
        have r15 : wr.cell? ⟨w.heap.size, 5, none⟩ = some (.int .i64 keep) := HGR.out.cell 5
        have r16 : wr.cell? ⟨w.heap.size, 6, none⟩ = some (.slice (some ⟨bn, on, none⟩) n nc) := HGR.out.cell 6
        have r17 : wr.cell? ⟨w.heap.size, 7, none⟩ = some (.int .i64 entry) := HGR.out.cell 7
        have ry : wr.cell? ⟨fl, y, none⟩ = some (.bool (sr.seen y)) := by rw [HI.out.row.cell, rowA_at _ hy]
        have HSN : Hid (visL (nds rn) F (xs.take (j + 1)) ⟨mkB s.seen i, s.left⟩ = visS (nds rn) F sr (y : Int)) := Lib.hid (by rw [take_at HXX.out, visL_snoc, ← HS.out])
        have HXE := Lib.hid hxe
        rw [hxe]
        clear hxe hx0 hx1 HXX
        rcases hsy : sr.seen y with _ | _
        · have HY := Lib.hid hsy
          have HIH := Lib.hid (IH.out y sr vr wr hy hsy HCN.out.1 (by have := HCN.out.2; omega) HI.out)
          rw [hsy] at ry
          clear hsy
          go_wp2_with (go_at_call 26; refine HIH.out.mono ?_; rintro e w3 ⟨rfl, v3, h3, k3⟩; have H3 := Lib.hid h3; have K3 := Lib.hid k3; clear h3 k3)
          go_roundw
          case rel =>
            refine ⟨j + 1, v3, _, by omega, by go_num, Lib.hid ?_, H3, Lib.hid (HK.out.trans K3.out)⟩
            rw [HSN.out, visS_no (by rw [Int.toNat_natCast]; exact HY.out), Int.toNat_natCast]
          case measure => simp [intOf]; omega
        · have HY := Lib.hid hsy
          rw [hsy] at ry
          clear hsy
          go_wp2
          go_roundw
          case rel =>
            refine ⟨j + 1, vr, sr, by omega, by go_num, Lib.hid ?_, HI, HK⟩
            rw [HSN.out, visS_yes (by rw [Int.toNat_natCast]; exact HY.out)]
          case measure => simp [intOf]; omega
      · have hje : j = m := by omega
        have HSA : Hid (sr = visL (nds rn) F (nxt (nds rn) i) ⟨mkB s.seen i, s.left⟩) := Lib.hid (by
          rw [HS.out, ← HXS.out, List.take_of_length_le (by rw [← HM.out, hje]; exact Nat.le_refl _)])
        have HLEN : Hid (sr.left.length ≤ 4096) := Lib.hid (by have := HCN.out.2; omega)
        obtain ⟨Ar, cr, hre⟩ := own_slice HI.out.own
        subst hre
        have r2 : wr.cell? ⟨b, 1, none⟩ = some (.slice Ar sr.left.length cr) := HI.out.box.cell 1
        have hwrz := HI.out.below.size
        clear hje hj
        go_wp2_with (at_builtin; refine app_int rfl (.tmp 42) (.tmp 44) rfl W.heap.size _ _ _ rfl (own_alloc HI.out.own _) (wr.heap.size + 1) (some ⟨wr.heap.size, 0, none⟩) 1 1 [.int .i64 i] rfl (one_reads wr _ _ 1 rfl) (ints_oneCell .i64 [(i : Int)]) (by have := HLEN.out; omega) (by simp; omega) ?_; intro v4 w4 hown hgr hor; obtain ⟨A4, c4, rfl⟩ := own_slice hown; obtain ⟨fz4, ⟨y4, yy4⟩, HV4, HK4⟩ := HI.out.push hown hgr hor; clear hown hgr hor)
        first | go_end0 | go_ret | (refine bodyPost_ret (v := .tuple #[]) (by simp [results, Tryd.func26]) rfl ?_)
        refine ⟨rfl, _, ?_, (K2.out.trans HK.out).trans HK4.out⟩
        rw [vis_succ, ← HSA.out]
        exact HV4.out
end Go.Proofs.YtcljjacanomggaaDoor

/-
  The document's Out.
-/
namespace Go.Proofs.YtcljjacanomggaaDoor
set_option linter.unusedVariables false
set_option linter.unusedSimpArgs false
open Go.ChangeShapes Go.WideShapes Go.ChangeAt Go.RowKit

theorem liveL_mem {ns : List Nd} {m i p : Nat} (hp : p < m) : (p : Int) ∈ liveL ns m i ↔ Live ns (p : Int) i := by
  unfold liveL
  rw [List.mem_map]
  constructor
  · rintro ⟨a, h1, h2⟩
    have e : a = p := by omega
    subst e
    simpa using (List.mem_filter.1 h1).2
  · intro h
    exact ⟨p, List.mem_filter.2 ⟨List.mem_range.2 hp, by simpa using h⟩, rfl⟩
theorem liveL_le (ns : List Nd) (m i : Nat) : (liveL ns m i).length ≤ m := by
  unfold liveL
  rw [List.length_map]
  refine Nat.le_trans (List.length_filter_le _ _) ?_
  simp
noncomputable def anyO (ns : List Nd) (m : Nat) (nd : Nd) (p j : Nat) : Bool := ((nextsOf nd).take j).any fun x => decide ((p : Int) ∈ liveL ns m x.toNat)
theorem anyO_succ {ns : List Nd} {m : Nat} {nd : Nd} {p j : Nat} {x : Int} (hx : (nextsOf nd)[j]? = some x) : anyO ns m nd p (j + 1) = (anyO ns m nd p j || decide ((p : Int) ∈ liveL ns m x.toNat)) := by
  unfold anyO
  rw [List.take_add_one, hx, List.any_append]
  simp
open Classical in
noncomputable def liveOB (ns : List Nd) (i p : Nat) : Bool := decide (LiveO ns (p : Int) i)
open Classical in
theorem liveOB_list (ns : List Nd) (m i : Nat) : trueL (liveOB ns i) m = liveOL ns m i := rfl
open Classical in
theorem anyO_all {ns : List Nd} {m : Nat} {nd : Nd} {i p j : Nat} (h : ns[i]? = some nd) (hv : ∀ x ∈ nextsOf nd, 0 ≤ x) (hp : p < m) (hj : (nextsOf nd).length ≤ j) : anyO ns m nd p j = liveOB ns i p := by
  unfold anyO liveOB
  rw [List.take_of_length_le hj]
  apply Bool.eq_iff_iff.2
  rw [List.any_eq_true, decide_eq_true_iff]
  constructor
  · rintro ⟨x, hx, h2⟩
    have h3 := (liveL_mem hp).1 (of_decide_eq_true h2)
    exact ⟨nd, h, x.toNat, by rw [Int.toNat_of_nonneg (hv x hx)]; exact hx, h3⟩
  · rintro ⟨n2, h1, x, hx, hl⟩
    rw [h] at h1
    injection h1 with h1
    subst h1
    exact ⟨(x : Int), hx, decide_eq_true ((liveL_mem hp).2 (by rw [Int.toNat_natCast]; exact hl))⟩
set_option maxRecDepth 100000 in
set_option maxHeartbeats 12800000 in
theorem refOut_any (B : Nat) (po ko io no : Option Addr) (nP pc m kc nI ic n nc : Nat) (cells keep entry : Int) (res : Bool) (rn : List RN) (w : World) (hN : RdNs w B no n rn) (hB : B ≤ w.heap.size) (hn : n ≤ 4096) (hm : m ≤ 1024) (hv : NextIn (nds rn)) :
    Calls Tryd.prog 23 #[.agg #[.slice po nP pc, .slice ko m kc, .int .i64 cells, .slice io nI ic, .bool res, .int .i64 keep, .slice no n nc, .int .i64 entry]] w (LlPost (liveOL (nds rn) m) n w) := by
  have hb1 : Below w.heap.size w (w.alloc (.cells #[.slice po nP pc, .slice ko m kc, .int .i64 cells, .slice io nI ic, .bool res, .int .i64 keep, .slice no n nc, .int .i64 entry] 38)) := (Below.refl _ _).alloc (Nat.le_refl _) _
  have HG1 := Lib.hid (Blk.new w 38 #[.slice po nP pc, .slice ko m kc, .int .i64 cells, .slice io nI ic, .bool res, .int .i64 keep, .slice no n nc, .int .i64 entry])
  have HIN := Lib.hid (refIn_any B po ko io no nP pc m kc nI ic n nc cells keep entry res rn (w.alloc (.cells #[.slice po nP pc, .slice ko m kc, .int .i64 cells, .slice io nI ic, .bool res, .int .i64 keep, .slice no n nc, .int .i64 entry] 38)) (hN.below (hb1.mono hB)) (by simp; omega) hn hm hv)
  have HB1 := Lib.hid hb1
  have HRN := Lib.hid hN
  have HV := Lib.hid hv
  have HLN : Hid ((nds rn).length = n) := Lib.hid (by rw [length_nds]; exact hN.len)
  clear hN hv hb1
  go_enter Tryd.func23, Tryd.ntmps23
  go_wp2_with (go_at_call 13; refine HIN.out.mono ?_; rintro e w1 ⟨hb, Ai, ci, vi, rfl, ho⟩; have HW1 := Lib.hid (HB1.out.trans (hb.mono HB1.out.size)); have HOI := Lib.hid ho; have HG2 := Lib.hid (HG1.out.below hb HG1.out.lt); have g6 : w1.cell? ⟨w.heap.size, 6, none⟩ = some (.slice no n nc) := HG2.out.cell 6; clear hb ho)
  clear g6 HIN HG1 HB1
  have HGC : Hid (∀ W, Below w1.heap.size w1 W → W.cell? ⟨w.heap.size, 1, none⟩ = some (.slice ko m kc)) := Lib.hid fun W hb => (HG2.out.below hb HG2.out.lt).cell 1
  obtain ⟨bs, hbs⟩ : ∃ b, b = (w.alloc (.cells #[.slice po nP pc, .slice ko m kc, .int .i64 cells, .slice io nI ic, .bool res, .int .i64 keep, .slice no n nc, .int .i64 entry] 38)) := ⟨_, rfl⟩
  rw [← hbs] at HOI
  have hz1 : w.heap.size ≤ w1.heap.size := HW1.out.size
  clear hbs HG2
  go_loopw [4, 17] (fun v s wr => ∃ (k : Nat) (vs : Nat → Value), k ≤ n ∧ s = .int .i64 k ∧ Hid (Below w1.heap.size w1 wr) ∧ Hid (OutR w1 k v vs (liveOL (nds rn) m) wr)) (fun _ s _ => n - (intOf s).toNat)
  case atStart => exact ⟨0, fun _ => .slice none 0 0, by omega, rfl, Lib.hid (Below.refl _ _), Lib.hid ⟨own_none _ _ _ _, fun i hi => absurd hi (by omega)⟩⟩
  case round =>
    obtain ⟨k, vs, hk, rfl, HB, HO⟩ := hrel
    obtain ⟨Ao, co, rfl⟩ := own_slice HO.out.out
    have hbz := HB.out.size
    by_cases hlt : k < n
    · have HBW := Lib.hid (HW1.out.trans (HB.out.mono hz1))
      obtain ⟨bn, on, i, hno, hbn, HXI, HRI, HWI, u0, u1, u2, u3, u4, u5, u6, u7, u8, u9, u10, u11⟩ := (HRN.out.below (HBW.out.mono hB)).nd hlt
      have HXN : Hid ((nds rn)[k]? = some i.nd) := Lib.hid (by unfold nds; rw [List.getElem?_map, HXI.out]; rfl)
      have hwz := HBW.out.size
      have hbnr : bn < wr.heap.size := by omega
      have hb6 : Below wr.heap.size wr (wr.alloc (.cells #[.int .u8 i.nd.op, .int .u8 i.nd.bop, .int .i64 i.nd.d, .int .i64 i.nd.e, .int .i64 i.nd.a, .int .i64 i.nd.b, .int .i64 i.nd.f, .int .i64 i.nd.cell, .int .u64 i.nd.imm, .slice i.ao i.nd.args.length i.ac, .int .i64 i.nd.next, .int .i64 i.nd.els] 50)) := (Below.refl _ _).alloc (Nat.le_refl _) _
      have HP6 := Lib.hid (Blk.new wr 50 #[.int .u8 i.nd.op, .int .u8 i.nd.bop, .int .i64 i.nd.d, .int .i64 i.nd.e, .int .i64 i.nd.a, .int .i64 i.nd.b, .int .i64 i.nd.f, .int .i64 i.nd.cell, .int .u64 i.nd.imm, .slice i.ao i.nd.args.length i.ac, .int .i64 i.nd.next, .int .i64 i.nd.els])
      have g1 : (wr.alloc (.cells #[.int .u8 i.nd.op, .int .u8 i.nd.bop, .int .i64 i.nd.d, .int .i64 i.nd.e, .int .i64 i.nd.a, .int .i64 i.nd.b, .int .i64 i.nd.f, .int .i64 i.nd.cell, .int .u64 i.nd.imm, .slice i.ao i.nd.args.length i.ac, .int .i64 i.nd.next, .int .i64 i.nd.els] 50)).cell? ⟨w.heap.size, 1, none⟩ = some (.slice ko m kc) := HGC.out _ (HB.out.trans (hb6.mono hbz))
      have HXV : Hid (∀ x ∈ nextsOf i.nd, 0 ≤ x ∧ x < (n : Int)) := Lib.hid (by
        rw [← HLN.out]
        exact nextIn_at HV.out HXN.out)
      have HB6 := Lib.hid (HB.out.trans (hb6.mono hbz))
      have HO6 := Lib.hid (HO.out.on hb6)
      rw [hno]
      have HNO := Lib.hid hno
      clear hno hb6
      go_wp2
      clear u0 u1 u2 u3 u4 u5 u6 u7 u8 u9 u10 u11 hbnr g1
      obtain ⟨p6, hp6⟩ : ∃ p, p = wr.heap.size := ⟨_, rfl⟩
      obtain ⟨w6, hw6⟩ : ∃ W, W = (wr.alloc (.cells #[.int .u8 i.nd.op, .int .u8 i.nd.bop, .int .i64 i.nd.d, .int .i64 i.nd.e, .int .i64 i.nd.a, .int .i64 i.nd.b, .int .i64 i.nd.f, .int .i64 i.nd.cell, .int .u64 i.nd.imm, .slice i.ao i.nd.args.length i.ac, .int .i64 i.nd.next, .int .i64 i.nd.els] 50)) := ⟨_, rfl⟩
      rw [← hp6] at HP6 ⊢
      rw [← hw6] at HB6 HO6 HP6 ⊢
      have hz6 := HB6.out.size
      clear hp6 hw6 HB HO HBW HRI hwz hbz
      go_loopw [7, 24] (fun v s wr => ∃ p : Nat, p ≤ m ∧ s = .int .i64 p ∧ Hid (wr.ownsRow w6.heap.size 3 1 v (trueL (liveOB (nds rn) k) p).length (i64c (trueL (liveOB (nds rn) k) p))) ∧ Hid (Below w6.heap.size w6 wr)) (fun _ s _ => m - (intOf s).toNat)
      case atStart => exact ⟨0, by omega, rfl, Lib.hid (own_none _ _ _ _), Lib.hid (Below.refl _ _)⟩
      case round =>
        obtain ⟨p, hp, rfl, HL, HB⟩ := hrel
        obtain ⟨Al, cl, rfl⟩ := own_slice HL.out
        have hbz := HB.out.size
        by_cases hpm : p < m
        · have HP := Lib.hid (HP6.out.below HB.out HP6.out.lt)
          have v0 : wr.cell? ⟨p6, 0, none⟩ = some (.int .u8 i.nd.op) := HP.out.cell 0
          have v1 : wr.cell? ⟨p6, 1, none⟩ = some (.int .u8 i.nd.bop) := HP.out.cell 1
          have v2 : wr.cell? ⟨p6, 2, none⟩ = some (.int .i64 i.nd.d) := HP.out.cell 2
          have v3 : wr.cell? ⟨p6, 3, none⟩ = some (.int .i64 i.nd.e) := HP.out.cell 3
          have v4 : wr.cell? ⟨p6, 4, none⟩ = some (.int .i64 i.nd.a) := HP.out.cell 4
          have v5 : wr.cell? ⟨p6, 5, none⟩ = some (.int .i64 i.nd.b) := HP.out.cell 5
          have v6 : wr.cell? ⟨p6, 6, none⟩ = some (.int .i64 i.nd.f) := HP.out.cell 6
          have v7 : wr.cell? ⟨p6, 7, none⟩ = some (.int .i64 i.nd.cell) := HP.out.cell 7
          have v8 : wr.cell? ⟨p6, 8, none⟩ = some (.int .u64 i.nd.imm) := HP.out.cell 8
          have v9 : wr.cell? ⟨p6, 9, none⟩ = some (.slice i.ao i.nd.args.length i.ac) := HP.out.cell 9
          have v10 : wr.cell? ⟨p6, 10, none⟩ = some (.int .i64 i.nd.next) := HP.out.cell 10
          have v11 : wr.cell? ⟨p6, 11, none⟩ = some (.int .i64 i.nd.els) := HP.out.cell 11
          have HNX := Lib.hid (rnext_any i.nd.op i.nd.bop i.nd.d i.nd.e i.nd.a i.nd.b i.nd.f i.nd.cell i.nd.imm i.nd.args i.nd.next i.nd.els i.ao i.nd.args.length i.ac wr HWI.out.o0 HWI.out.o1)
          have htl := trueL_len (liveOB (nds rn) k) p
          go_wp2_with (go_at_call 14; refine HNX.out.mono ?_; rintro e w11 ⟨A11, c11, rfl, hr11, hc11, hb11⟩; have HR11 := Lib.hid hr11; have HB11 := Lib.hid (HB.out.trans (hb11.mono hbz)); have HL11 := Lib.hid (own_kept HL.out fun g hg => hb11.block g (own_block_le HL.out hg).2); clear hr11 hb11)
          clear v0 v1 v2 v3 v4 v5 v6 v7 v8 v9 v10 v11
          obtain ⟨l, hl⟩ : ∃ l, l = (nextsOf ⟨i.nd.op, i.nd.bop, i.nd.d, i.nd.e, i.nd.a, i.nd.b, i.nd.f, i.nd.cell, i.nd.imm, i.nd.args, i.nd.next, i.nd.els⟩).length := ⟨_, rfl⟩
          rw [← hl] at HR11 hc11 ⊢
          have HLX : Hid ((nextsOf i.nd).length = l) := Lib.hid hl.symm
          have hl2 : l ≤ 2 := by rw [hl]; exact nexts_len _
          have HR12 : Hid (Reads w11 w11.heap.size 1 A11 l (i64c (nextsOf i.nd))) := Lib.hid HR11.out
          have HOI11 := Lib.hid (HOI.out.on (HB6.out.trans (HB11.out.mono hz6)))
          have hz11 := HB11.out.size
          clear hl HNX HR11 HL HB HP hbz
          go_loopw [30, 9] (fun s t wr => ∃ j : Nat, j ≤ l ∧ s = .int .i64 j ∧ t = .bool (anyO (nds rn) m i.nd p j) ∧ wr = w11) (fun s _ _ => l - (intOf s).toNat)
          case atStart => exact ⟨0, by omega, rfl, rfl, rfl⟩
          case round =>
            obtain ⟨j, hj, rfl, rfl, hwr⟩ := hrel
            rw [hwr]
            clear hwr
            by_cases hjl : j < l
            · obtain ⟨bx, ox, x, hxe, hbx, HXX, x1⟩ := HR12.out.int hjl
              obtain ⟨hx0, hx1⟩ := HXV.out x (List.mem_of_getElem? HXX.out)
              obtain ⟨y, rfl⟩ : ∃ y : Nat, x = (y : Int) := ⟨x.toNat, by omega⟩
              have hy : y < n := by omega
              have HSU := Lib.hid (anyO_succ (ns := nds rn) (m := m) (p := p) HXX.out)
              rw [Int.toNat_natCast] at HSU
              obtain ⟨Ay, cy, hsy⟩ := own_slice (HOI11.out.own y hy)
              obtain ⟨bo, oo, hoe, hbo, hco⟩ := (Reads.of_own HOI11.out.out).lit (by omega) (by omega)
              have ra : w11.cell? ⟨bo, oo + y, none⟩ = some (.slice Ay (liveL (nds rn) m y).length cy) := by rw [← hsy]; exact hco y _ (range_at vi hy)
              have HIN := Lib.hid (in_any w11.heap.size Ay _ cy (liveL (nds rn) m y) p w11 (by
                have h := HOI11.out.own y hy
                rw [hsy] at h
                exact Reads.of_own h) rfl (by have := liveL_le (nds rn) m y; omega))
              have HXE := Lib.hid hxe
              have HOE := Lib.hid hoe
              rw [hxe, hoe]
              clear hxe hoe hx0 hx1 HXX hsy hco
              rcases hak : anyO (nds rn) m i.nd p j with _ | _
              · rw [hak] at HSU
                by_cases hmem : (p : Int) ∈ liveL (nds rn) m y
                · have H1 : Hid (decide ((p : Int) ∈ liveL (nds rn) m y) = true) := Lib.hid (decide_eq_true hmem)
                  rw [H1.out] at HSU HIN
                  clear hak hmem
                  go_wp2_with (go_at_call 15; refine HIN.out.mono ?_; rintro e w12 ⟨rfl, hw12⟩; rw [hw12]; clear hw12)
                  go_roundw
                  case rel => exact ⟨j + 1, by omega, by go_num, by rw [HSU.out]; rfl, by first | rfl | trivial⟩
                  case measure => simp [intOf]; omega
                · have H1 : Hid (decide ((p : Int) ∈ liveL (nds rn) m y) = false) := Lib.hid (decide_eq_false hmem)
                  rw [H1.out] at HSU HIN
                  clear hak hmem
                  go_wp2_with (go_at_call 15; refine HIN.out.mono ?_; rintro e w12 ⟨rfl, hw12⟩; rw [hw12]; clear hw12)
                  go_roundw
                  case rel => exact ⟨j + 1, by omega, by go_num, by rw [HSU.out]; rfl, by first | rfl | trivial⟩
                  case measure => simp [intOf]; omega
              · rw [hak] at HSU
                clear hak
                go_wp2
                go_roundw
                case rel => exact ⟨j + 1, by omega, by go_num, by rw [HSU.out]; rfl, by first | rfl | trivial⟩
                case measure => simp [intOf]; omega
            · have hru : anyO (nds rn) m i.nd p j = liveOB (nds rn) k p := anyO_all HXN.out (fun x hx => (HXV.out x hx).1) hpm (by rw [HLX.out]; omega)
              have HSU := Lib.hid (trueL_succ (liveOB (nds rn) k) p)
              rw [hru]
              rcases hik : liveOB (nds rn) k p with _ | _
              · rw [hik] at HSU
                clear hik hru
                go_wp2
                go_roundw
                case rel => exact ⟨p + 1, by omega, by go_num, by rw [HSU.out, if_neg (by decide), List.append_nil]; exact HL11, HB11⟩
                case measure => simp [intOf]; omega
              · rw [hik] at HSU
                clear hik hru
                go_wp2_with (at_builtin; refine app_int rfl (.tmp 45) (.tmp 47) rfl w6.heap.size _ _ _ rfl (own_alloc HL11.out _) (w11.heap.size + 1) (some ⟨w11.heap.size, 0, none⟩) 1 1 [.int .i64 p] rfl (one_reads w11 _ _ 1 rfl) (ints_oneCell .i64 [(p : Int)]) (by omega) (by simp; omega) ?_; intro v' w8 hown hgr hor; have HO8 := Lib.hid hown; have HB8 : Hid (Below w6.heap.size w6 w8) := Lib.hid ((HB11.out.alloc hz11 _).grown hgr (by simp; omega) fun g hg => (own_block_le HL11.out hg).1); clear hown hgr hor)
                go_roundw
                case rel =>
                  refine ⟨p + 1, by omega, by go_num, ?_, HB8⟩
                  rw [HSU.out, if_pos rfl, i64c_append, List.length_append]
                  exact HO8
                case measure => simp [intOf]; omega
        · have hpe : p = m := by omega
          rw [hpe, liveOB_list] at HL ⊢
          have HO9 := Lib.hid (HO6.out.on HB.out)
          have HL9 : Hid (wr.ownsRow w1.heap.size 3 1 (.slice Al (liveOL (nds rn) m k).length cl) (liveOL (nds rn) m k).length (i64c (liveOL (nds rn) m k))) := Lib.hid (own_more HL.out hz6)
          have HB9 := Lib.hid (HB6.out.trans (HB.out.mono hz6))
          have hz9 := HB9.out.size
          go_wp2_with (at_builtin; refine app_rows rfl (.tmp 50) (.tmp 52) rfl w1.heap.size (.slice Ao k co) k ((List.range k).map vs) rfl (own_alloc HO9.out.out _) (wr.heap.size + 1) (some ⟨wr.heap.size, 0, none⟩) 1 1 [.slice Al (liveOL (nds rn) m k).length cl] rfl (one_reads wr _ _ 1 rfl) (fun u hu => by rw [List.mem_singleton.1 hu]; rfl) (by omega) (by simp; omega) ?_; intro v' w8 hown hgr hor; have HO8 := Lib.hid (HO9.out.push HL9.out hown hgr); have HB8 : Hid (Below w1.heap.size w1 w8) := Lib.hid ((HB9.out.alloc hz9 _).grown hgr (by simp; omega) fun g hg => (own_block_le HO9.out.out hg).1); clear hown hgr hor)
          go_roundw
          case rel => exact ⟨k + 1, _, by omega, by go_num, HB8, HO8⟩
          case measure => simp [intOf]; omega
    · have hkn : k = n := by omega
      rw [hkn] at HO ⊢
      go_wp2
      go_ret
      exact ⟨HW1.out.trans (HB.out.mono hz1), Ao, co, vs, rfl, own_more HO.out.out hz1, fun i hi => own_more (HO.out.own i hi) hz1⟩
end Go.Proofs.YtcljjacanomggaaDoor

/-
  The document's Line: the walk.
-/
namespace Go.Proofs.YtcljjacanomggaaDoor
set_option linter.unusedVariables false
set_option linter.unusedSimpArgs false
open Go.ChangeShapes Go.WideShapes Go.ChangeAt Go.RowKit

theorem VR.start {W w1 : World} (n : Nat) (h : Below W.heap.size W w1) :
    VR W (w1.heap.size + 1) w1.heap.size n ⟨fun _ => false, []⟩ (.slice none 0 0) ((w1.alloc (.cells (madeCells #[.bool false] n) 4)).alloc (.cells #[.slice (some ⟨w1.heap.size, 0, none⟩) n n, .slice none 0 0] 64)) := by
  have hz := h.size
  have h1 := Blk.new w1 4 (madeCells #[.bool false] n)
  have h2 := Blk.new (w1.alloc (.cells (madeCells #[.bool false] n) 4)) 64 #[.slice (some ⟨w1.heap.size, 0, none⟩) n n, .slice none 0 0]
  rw [show (w1.alloc (.cells (madeCells #[.bool false] n) 4)).heap.size = w1.heap.size + 1 by simp] at h2
  rw [rowA_made] at h1 h2 ⊢
  exact ⟨h2, h1.alloc _, own_none _ _ _ _, (h.alloc hz _).alloc (by simp; omega) _, by omega, hz⟩
theorem rev_take {l : List Int} {j : Nat} (h : j < l.length) : l.reverse.take (j + 1) = l.reverse.take j ++ [l.getD (l.length - 1 - j) 0] := by
  have h1 : l.reverse[j]? = some (l.getD (l.length - 1 - j) 0) := by
    rw [List.getElem?_reverse h, List.getD_eq_getElem?_getD, List.getElem?_eq_getElem (by omega)]
    rfl
  exact take_at h1
set_option maxRecDepth 100000 in
set_option maxHeartbeats 3200000 in
theorem rline_any (B : Nat) (po ko io no : Option Addr) (nP pc nK kc nI ic n nc en : Nat) (cells keep : Int) (res : Bool) (rn : List RN) (w : World) (hN : RdNs w B no n rn) (hB : B ≤ w.heap.size) (hn : n ≤ 4096) (hv : NextIn (nds rn)) (hen : en < n) :
    Calls Tryd.prog 12 #[.agg #[.slice po nP pc, .slice ko nK kc, .int .i64 cells, .slice io nI ic, .bool res, .int .i64 keep, .slice no n nc, .int .i64 en]] w (NewO w (lineK (nds rn) en)) := by
  have hmb : ∀ W : World, (Instr.makeSlice 62 (.int .i64 n) (.int .i64 n)).run Tryd.prog W = .ok (.slice (some ⟨W.heap.size, 0, none⟩) n n) (W.alloc (.cells (madeCells #[.bool false] n) 4)) := fun W => run_make_row' _ _ _ 1 Tryd.underlying62 info_bool rfl .i64 .i64 n (by omega) (by omega) W
  have hb1 : Below w.heap.size w (w.alloc (.cells #[.slice po nP pc, .slice ko nK kc, .int .i64 cells, .slice io nI ic, .bool res, .int .i64 keep, .slice no n nc, .int .i64 en] 38)) := (Below.refl _ _).alloc (Nat.le_refl _) _
  have hg1 := Blk.new w 38 #[.slice po nP pc, .slice ko nK kc, .int .i64 cells, .slice io nI ic, .bool res, .int .i64 keep, .slice no n nc, .int .i64 en]
  obtain ⟨W1, hW1⟩ : ∃ W, W = (w.alloc (.cells #[.slice po nP pc, .slice ko nK kc, .int .i64 cells, .slice io nI ic, .bool res, .int .i64 keep, .slice no n nc, .int .i64 en] 38)) := ⟨_, rfl⟩
  rw [← hW1] at hb1 hg1
  have HG1 := Lib.hid hg1
  have hz1 : w.heap.size < W1.heap.size := hg1.lt
  have HN := Lib.hid hN
  have HV := Lib.hid hv
  have HLN : Hid ((nds rn).length = n) := Lib.hid (by rw [length_nds]; exact hN.len)
  have c6 : W1.cell? ⟨w.heap.size, 6, none⟩ = some (.slice no n nc) := hg1.cell 6
  have HS0 := Lib.hid (VR.start (W := w) n hb1)
  have HGS := Lib.hid ((hg1.alloc (.cells (madeCells #[.bool false] n) 4)).alloc (.cells #[.slice (some ⟨W1.heap.size, 0, none⟩) n n, .slice none 0 0] 64))
  obtain ⟨W2, hW2⟩ : ∃ W2, W2 = ((W1.alloc (.cells (madeCells #[.bool false] n) 4)).alloc (.cells #[.slice (some ⟨W1.heap.size, 0, none⟩) n n, .slice none 0 0] 64)) := ⟨_, rfl⟩
  rw [← hW2] at HS0 HGS
  clear hN hv hb1 hg1
  go_enter Tryd.func12, Tryd.ntmps12
  go_upto_region 1 with fail
  rw [← hW1]
  clear hW1
  go_upto_region 2 with fail
  rw [← hW2]
  clear hW2 hmb c6
  obtain ⟨fl, hfl⟩ : ∃ p, p = W1.heap.size := ⟨_, rfl⟩
  obtain ⟨b, hb⟩ : ∃ p, p = fl + 1 := ⟨_, rfl⟩
  rw [← hfl] at HS0 ⊢
  rw [← hb] at HS0 ⊢
  clear hfl hb
  have d0 : W2.cell? ⟨w.heap.size, 0, none⟩ = some (.slice po nP pc) := HGS.out.cell 0
  have d1 : W2.cell? ⟨w.heap.size, 1, none⟩ = some (.slice ko nK kc) := HGS.out.cell 1
  have d2 : W2.cell? ⟨w.heap.size, 2, none⟩ = some (.int .i64 cells) := HGS.out.cell 2
  have d3 : W2.cell? ⟨w.heap.size, 3, none⟩ = some (.slice io nI ic) := HGS.out.cell 3
  have d4 : W2.cell? ⟨w.heap.size, 4, none⟩ = some (.bool res) := HGS.out.cell 4
  have d5 : W2.cell? ⟨w.heap.size, 5, none⟩ = some (.int .i64 keep) := HGS.out.cell 5
  have d6 : W2.cell? ⟨w.heap.size, 6, none⟩ = some (.slice no n nc) := HGS.out.cell 6
  have d7 : W2.cell? ⟨w.heap.size, 7, none⟩ = some (.int .i64 en) := HGS.out.cell 7
  have HVI := Lib.hid (from_any B b fl po ko io no nP pc nK kc nI ic n nc cells keep en res rn w HN.out hB hn HV.out n en ⟨fun _ => false, []⟩ (.slice none 0 0) W2 hen rfl (by rw [show (DSt.mk (fun _ => false) []).seen = fun _ => false from rfl, unS_none]; exact Nat.le_refl _) (by rw [show (DSt.mk (fun _ => false) []).seen = fun _ => false from rfl, unS_none]; show 0 + n ≤ n; omega) HS0.out)
  have hlo := left_ok HV.out (show en < (nds rn).length by rw [HLN.out]; exact hen)
  rw [HLN.out] at hlo
  obtain ⟨q, hq⟩ : ∃ q, q = (leftK (nds rn) en).length := ⟨_, rfl⟩
  rw [← hq] at hlo
  obtain ⟨hq0, hq1⟩ := hlo
  have HQ := Lib.hid hq
  clear hq
  have HLK : Hid ((vis (nds rn) n en ⟨fun _ => false, []⟩).left = leftK (nds rn) en) := Lib.hid (by unfold leftK; rw [HLN.out])
  go_wp2_with (go_at_call 26; refine HVI.out.mono ?_; rintro e w2 ⟨rfl, v2, h2, _⟩; obtain ⟨A2, c2, rfl⟩ := own_slice h2.own; have h2o := h2.own; have h2b := h2.box; rw [HLK.out, ← HQ.out] at h2o h2b; have HO2 := Lib.hid h2o; have HX2 := Lib.hid h2b; have HB2 := Lib.hid h2.below; have x2 : w2.cell? ⟨b, 1, none⟩ = some (.slice A2 q c2) := h2b.cell 1; clear h2 h2o h2b)
  clear d0 d1 d2 d3 d4 d5 d6 d7 x2
  have hz2 := HB2.out.size
  go_loopw [4, 5] (fun v s wr => ∃ j : Nat, j ≤ q ∧ s = .int .i64 ((q : Int) - 1 - j) ∧ Hid (wr.ownsRow w2.heap.size 3 1 v j (i64c ((leftK (nds rn) en).reverse.take j))) ∧ Hid (Below w2.heap.size w2 wr)) (fun _ s _ => ((intOf s) + 1).toNat)
  case atStart => exact ⟨0, by omega, by simp, Lib.hid (own_none _ _ _ _), Lib.hid (Below.refl _ _)⟩
  case round =>
    obtain ⟨j, hj, rfl, HL, HB⟩ := hrel
    obtain ⟨Al, cl, rfl⟩ := own_slice HL.out
    by_cases hjq : j < q
    · obtain ⟨i, hi⟩ : ∃ i, i = q - 1 - j := ⟨_, rfl⟩
      have hii : (q : Int) - 1 - j = i := by omega
      have hiq : i < q := by omega
      obtain ⟨bx, ox, x, hxe, hbx, HXX, x1⟩ := ((Reads.of_own HO2.out).below HB.out).int hiq
      have HTK : Hid ((leftK (nds rn) en).reverse.take (j + 1) = (leftK (nds rn) en).reverse.take j ++ [x]) := Lib.hid (by
        rw [rev_take (by rw [← HQ.out]; exact hjq), ← HQ.out, ← hi, List.getD_eq_getElem?_getD, HXX.out]
        rfl)
      have b1 : wr.cell? ⟨b, 1, none⟩ = some (.slice A2 q c2) := (HX2.out.below HB.out HX2.out.lt).cell 1
      have g1 : decide ((i : Int) ≥ 0) = true := decide_eq_true (by omega)
      have g2 : decide ((0 : Int) ≤ (i : Int)) = true := decide_eq_true (by omega)
      have hbz := HB.out.size
      have HIE : Hid ((i : Int) - 1 = (q : Int) - 1 - ((j + 1 : Nat) : Int)) := Lib.hid (by omega)
      have hme : ((i : Int) - 1 + 1).toNat < ((i : Int) + 1).toNat := by omega
      have HME := Lib.hid hme
      rw [hii]
      rw [hxe] at b1
      clear hxe hi hii hme
      go_wp2_with (at_builtin; refine app_int rfl (.tmp 27) (.tmp 35) rfl w2.heap.size _ _ _ rfl (own_alloc HL.out _) (wr.heap.size + 1) (some ⟨wr.heap.size, 0, none⟩) 1 1 [.int .i64 x] rfl (one_reads wr _ _ 1 rfl) (ints_oneCell .i64 [x]) (by omega) (by simp; omega) ?_; intro v' w8 hown hgr hor; have HO8 := Lib.hid hown; have HB8 : Hid (Below w2.heap.size w2 w8) := Lib.hid ((HB.out.alloc hbz _).grown hgr (by simp; omega) fun g hg => (own_block_le HL.out hg).1); clear hown hgr hor)
      go_roundw
      case rel =>
        refine ⟨j + 1, by omega, by rw [← HIE.out], ?_, HB8⟩
        rw [HTK.out, i64c_append]
        exact HO8
      case measure =>
        simp [intOf]
    · obtain rfl : q = j := by omega
      have g1 : decide ((q : Int) - 1 - q ≥ 0) = false := decide_eq_false (by omega)
      have g2 : decide ((0 : Int) ≤ (q : Int) - 1 - q) = false := decide_eq_false (by omega)
      have HLL : Hid ((lineK (nds rn) en).length = q) := Lib.hid (by unfold lineK; rw [List.length_reverse]; exact HQ.out.symm)
      have HLE : Hid ((leftK (nds rn) en).reverse.take q = lineK (nds rn) en) := Lib.hid (by unfold lineK; rw [List.take_of_length_le (by rw [List.length_reverse, ← HQ.out]; exact Nat.le_refl _)])
      rw [HLE.out] at HL
      go_wp2
      go_ret
      exact ⟨Al, cl, by rw [HLL.out]; rfl, by rw [HLL.out]; exact own_more HL.out hz2, by rw [HLL.out]; exact own_cap HL.out, HB2.out.trans (HB.out.mono hz2)⟩
end Go.Proofs.YtcljjacanomggaaDoor

/-
  The document's AtWork: the walk.
-/
namespace Go.Proofs.YtcljjacanomggaaDoor
set_option linter.unusedVariables false
set_option linter.unusedSimpArgs false
open Go.ChangeShapes Go.WideShapes Go.ChangeAt Go.RowKit

theorem lens2 (n : Nd) : (writesOf n).length ≤ 2 := by
  have h1 := addL_len [] (writeF n)
  unfold writesOf
  have h2 : (writeF n).length ≤ 2 := by
    unfold writeF
    split
    · simp
    · split <;> simp
  simp only [List.length_nil, Nat.zero_add] at h1
  omega
def workB (la ws ps : List Int) (p : Int) (k : Nat) : Bool := decide (p ∈ la) || (decide (p ∈ ws) || (decide (k = 0) && decide (p ∈ ps)))
set_option maxRecDepth 100000 in
set_option maxHeartbeats 6400000 in
theorem atwork_any (B : Nat) (po ko io no Ay : Option Addr) (nP pc nK kc nI ic n nc nl lc ci cy nla bl ol bo oo i k : Nat) (cells keep entry p : Int) (res : Bool) (rn : List RN) (ps la : List Int) (nd : RN) (w : World)
    (hN : RdNs w B no n rn) (hP : Reads w B 1 po nP (i64c ps)) (hpl : ps.length = nP) (hp4 : nP ≤ 4) (hB : B ≤ w.heap.size) (hi : i < n) (hn : n ≤ 4096) (hk : k < nl) (hnl : nl ≤ 4096) (c1 : w.cell? ⟨bl, ol + k, none⟩ = some (.int .i64 i)) (c2 : w.cell? ⟨bo, oo + i, none⟩ = some (.slice Ay nla cy))
    (hla : Reads w w.heap.size 1 Ay nla (i64c la)) (hll : la.length = nla) (hlm : nla ≤ 5000) (hnd : rn[i]? = some nd) :
    Calls Tryd.prog 24 #[.agg #[.slice po nP pc, .slice ko nK kc, .int .i64 cells, .slice io nI ic, .bool res, .int .i64 keep, .slice no n nc, .int .i64 entry], .slice (some ⟨bl, ol, none⟩) nl lc, .slice (some ⟨bo, oo, none⟩) n ci, .int .i64 p, .int .i64 k] w fun e w' => e = .returned (.bool (workB la (writesOf nd.nd) ps p k)) ∧ Below w.heap.size w w' := by
  have hb1 : Below w.heap.size w (w.alloc (.cells #[.slice po nP pc, .slice ko nK kc, .int .i64 cells, .slice io nI ic, .bool res, .int .i64 keep, .slice no n nc, .int .i64 entry] 38)) := (Below.refl _ _).alloc (Nat.le_refl _) _
  have hg1 := Blk.new w 38 #[.slice po nP pc, .slice ko nK kc, .int .i64 cells, .slice io nI ic, .bool res, .int .i64 keep, .slice no n nc, .int .i64 entry]
  obtain ⟨W1, hW1⟩ : ∃ W, W = (w.alloc (.cells #[.slice po nP pc, .slice ko nK kc, .int .i64 cells, .slice io nI ic, .bool res, .int .i64 keep, .slice no n nc, .int .i64 entry] 38)) := ⟨_, rfl⟩
  rw [← hW1] at hb1 hg1
  have HG1 := Lib.hid hg1
  have HB1 := Lib.hid hb1
  have hz1 : w.heap.size < W1.heap.size := hg1.lt
  have HLA := Lib.hid (hla.below hb1)
  have HIN1 : Hid (∀ q, Calls Tryd.prog 15 #[.slice Ay nla cy, .int .i64 p] (W1.drewN q) fun e w' => e = .returned (.bool (decide (p ∈ la))) ∧ w' = W1.drewN q) := Lib.hid fun q => in_any w.heap.size Ay nla cy la p (W1.drewN q) (HLA.out.drewN q) hll (by omega)
  have hbl : bl < w.heap.size := by have := cell_lt c1; exact this
  have hbo : bo < w.heap.size := by have := cell_lt c2; exact this
  have d1 : W1.cell? ⟨bl, ol + k, none⟩ = some (.int .i64 i) := (hb1.cell (p := ⟨bl, _, none⟩) hbl).trans c1
  have d2 : W1.cell? ⟨bo, oo + i, none⟩ = some (.slice Ay nla cy) := (hb1.cell (p := ⟨bo, _, none⟩) hbo).trans c2
  by_cases hpa : p ∈ la
  · have H1 : Hid (decide (p ∈ la) = true) := Lib.hid (decide_eq_true hpa)
    have HR : Hid (workB la (writesOf nd.nd) ps p k = true) := Lib.hid (by unfold workB; rw [H1.out]; rfl)
    rw [H1.out] at HIN1
    clear hpa hN hP hla hg1 c1 c2
    go_enter Tryd.func24, Tryd.ntmps24
    go_upto_region 1 with fail
    rw [← hW1]
    clear hW1
    go_quiet ((go_at_call 15; exact Calls.quiet_of_same (HIN1.out _)))
    go_wp2
    go_ret
    exact ⟨by rw [HR.out]; rfl, below_drewN HB1.out _⟩
  · have H1 : Hid (decide (p ∈ la) = false) := Lib.hid (decide_eq_false hpa)
    rw [H1.out] at HIN1
    obtain ⟨bn, on, nd2, hno, hbn, HXI, HRN1, HWI, u0, u1, u2, u3, u4, u5, u6, u7, u8, u9, u10, u11⟩ := (hN.below (hb1.mono hB)).nd hi
    obtain rfl : nd = nd2 := by
      have h := HXI.out
      rw [hnd] at h
      injection h
    have hbnr : bn < W1.heap.size := by omega
    have HWX := Lib.hid (rwrites_any B nd.nd.op nd.nd.bop nd.nd.d nd.nd.e nd.nd.a nd.nd.b nd.nd.f nd.nd.cell nd.nd.imm nd.nd.args nd.nd.next nd.nd.els nd.ao nd.nd.args.length nd.ac W1.drew HWI.out.o0 HWI.out.o1 HWI.out.d HWI.out.e HWI.out.a HWI.out.b HWI.out.next HWI.out.els HRN1.out.args.drew rfl HWI.out.args HWI.out.al HRN1.out.cap (by show B ≤ W1.heap.size; omega))
    obtain ⟨ws, hws⟩ : ∃ ws, ws = writesOf ⟨nd.nd.op, nd.nd.bop, nd.nd.d, nd.nd.e, nd.nd.a, nd.nd.b, nd.nd.f, nd.nd.cell, nd.nd.imm, nd.nd.args, nd.nd.next, nd.nd.els⟩ := ⟨_, rfl⟩
    rw [← hws] at HWX
    have hw2 : ws.length ≤ 2 := by rw [hws]; exact lens2 _
    have HWS : Hid (writesOf nd.nd = ws) := Lib.hid hws.symm
    have c6 : W1.cell? ⟨w.heap.size, 6, none⟩ = some (.slice no n nc) := HG1.out.cell 6
    have HP := Lib.hid (hP.below (hb1.mono hB))
    rw [hno] at c6 hW1 HG1 ⊢
    have HIN0 : Hid (Calls Tryd.prog 15 #[.slice Ay nla cy, .int .i64 p] W1.drew fun e w' => e = .returned (.bool false) ∧ w' = W1.drew) := Lib.hid (HIN1.out 1)
    clear hws hno hpa hN hP hla hg1 c1 c2
    by_cases hpw : p ∈ ws
    · have H2 : Hid (decide (p ∈ ws) = true) := Lib.hid (decide_eq_true hpw)
      have HR : Hid (workB la (writesOf nd.nd) ps p k = true) := Lib.hid (by unfold workB; rw [HWS.out, H2.out]; simp)
      clear hpw
      go_enter Tryd.func24, Tryd.ntmps24
      go_upto_region 1 with fail
      rw [← hW1]
      clear hW1
      have hud : undef = Value.tuple #[] := rfl
      first | go_region_law (go_simp; first
        | (go_at_call 15; (with_reducible refine HIN0.out.mono ?_); rintro e w2 ⟨rfl, rfl⟩)
        | (go_at_call 25; refine HWX.out.mono ?_; rintro e w3 ⟨A3, c3, rfl, hr3, hc3, hb3⟩; have HIN2 := Lib.hid (in_any w3.heap.size A3 ws.length c3 ws p w3 hr3 rfl (by omega)); rw [H2.out] at HIN2; have HB3 := Lib.hid hb3)
        | (go_at_call 15; (with_reducible refine HIN2.out.mono ?_); rintro e w4 ⟨rfl, rfl⟩)) | fail
      all_goals
        go_wp2
        go_ret
        exact ⟨by rw [HR.out]; rfl, HB1.out.trans (((Below.refl _ _).drew.trans (HB3.out)).mono HB1.out.size)⟩
    · have H2 : Hid (decide (p ∈ ws) = false) := Lib.hid (decide_eq_false hpw)
      clear hpw
      rcases Nat.eq_zero_or_pos k with hk0 | hk0
      · subst hk0
        rw [Nat.add_zero] at d1
        have HR : Hid (workB la (writesOf nd.nd) ps p 0 = decide (p ∈ ps)) := Lib.hid (by unfold workB; rw [HWS.out, H1.out, H2.out]; simp)
        go_enter Tryd.func24, Tryd.ntmps24
        go_upto_region 1 with fail
        rw [← hW1]
        clear hW1
        have hud : undef = Value.tuple #[] := rfl
        first | go_region_law (go_simp; first
          | (go_at_call 15; (with_reducible refine HIN0.out.mono ?_); rintro e w2 ⟨rfl, rfl⟩)
          | (go_at_call 25; refine HWX.out.mono ?_; rintro e w3 ⟨A3, c3, rfl, hr3, hc3, hb3⟩; have HIN2 := Lib.hid (in_any w3.heap.size A3 ws.length c3 ws p w3 hr3 rfl (by omega)); rw [H2.out] at HIN2; have HB3 := Lib.hid hb3; have y0 : w3.cell? ⟨w.heap.size, 0, none⟩ = some (.slice po nP pc) := (HG1.out.below (B := W1.heap.size) ((Below.refl _ _).drew.trans hb3) HG1.out.lt).cell 0; have HIN3 := Lib.hid (in_any B po nP pc ps p w3 (HP.out.below (((Below.refl _ _).drew.trans hb3).mono (by show B ≤ W1.heap.size; omega))) hpl (by omega)))
          | (go_at_call 15; (with_reducible refine HIN2.out.mono ?_); rintro e w4 ⟨rfl, rfl⟩)
          | (go_at_call 15; (with_reducible refine HIN3.out.mono ?_); rintro e w4 ⟨rfl, rfl⟩)) | fail
        all_goals
          go_wp2
          go_ret
          exact ⟨by rw [HR.out]; rfl, HB1.out.trans (((Below.refl _ _).drew.trans (HB3.out)).mono HB1.out.size)⟩
      · have hk1 : ¬ k = 0 := by omega
        have HR : Hid (workB la (writesOf nd.nd) ps p k = false) := Lib.hid (by unfold workB; rw [HWS.out, H1.out, H2.out]; simp [hk1])
        go_enter Tryd.func24, Tryd.ntmps24
        go_upto_region 1 with fail
        rw [← hW1]
        clear hW1
        have hud : undef = Value.tuple #[] := rfl
        first | go_region_law (go_simp; first
          | (go_at_call 15; (with_reducible refine HIN0.out.mono ?_); rintro e w2 ⟨rfl, rfl⟩)
          | (go_at_call 25; refine HWX.out.mono ?_; rintro e w3 ⟨A3, c3, rfl, hr3, hc3, hb3⟩; have HIN2 := Lib.hid (in_any w3.heap.size A3 ws.length c3 ws p w3 hr3 rfl (by omega)); rw [H2.out] at HIN2; have HB3 := Lib.hid hb3)
          | (go_at_call 15; (with_reducible refine HIN2.out.mono ?_); rintro e w4 ⟨rfl, rfl⟩)) | fail
        all_goals
          go_wp2
          go_ret
          exact ⟨by rw [HR.out]; rfl, HB1.out.trans (((Below.refl _ _).drew.trans (HB3.out)).mono HB1.out.size)⟩
end Go.Proofs.YtcljjacanomggaaDoor
