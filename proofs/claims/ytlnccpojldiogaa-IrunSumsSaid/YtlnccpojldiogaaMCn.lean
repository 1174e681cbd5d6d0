/-
  Texts of one seat, one behind the other: IBegW.
-/
import Derived.RegionTactic
import Derived.LoopTactic
import Derived.Deep.LoopGhost
import Derived.Deep.RegionLaw
import Derived.Deep.Cut
import Derived.Deep.DeepCutAuto
import Derived.StillTailTactics
import Derived.Test.YtlnccpojldiogaaMBf

/-
  Package irun: begin: a frame is made, gets its arguments, and becomes the last one.
-/
namespace Go.Proofs.Ytlnccpojldiogaa
set_option linter.unusedVariables false
set_option linter.unusedSimpArgs false
open Go.ChangeShapes Go.WideShapes Go.ChangeAt Go.RowKit

section
variable {w0 W W' : World} {ow ow' : Nat → Nat} {ex : Nat → Prop} {bd : Bool} {base rb tg fa fo rgb n c k : Nat} {rs : List RG} {st st' : IMc} {g g' : IRG} {t t' : IFr} {bl : List IFr} {gl : List Nat} {fb b o : Nat} {r : RG} {p x : Int}
/-- all that a round of laying needs -/
theorem LayI.round {kb : List (Addr × List Value)} {args : List Int} {X : List Int × IFr} {j m : Nat} (h : LayI w0 bd rb tg fa fo n c rs st gl fb rgb r kb args X j W) (hj : j < m) (hm : m = args.length) (ha : args.length = r.gr.params.length) (hl : r.gr.params.length ≤ 4 ∧ r.gr.init.length = r.gr.params.length ∧ (∀ (j : Nat) q, r.gr.params[j]? = some q → PlOk r q) ∧ ∀ (j : Nat) cl, r.gr.init[j]? = some cl → cl = -1 ∨ 0 ≤ cl ∧ cl < 64) :
    ∃ (q cl a : Int), r.gr.params[j]? = some q ∧ r.gr.init[j]? = some cl ∧ args[j]? = some a ∧ (cl = -1 ∨ 0 ≤ cl ∧ cl < 64) ∧ Hid (∀ W', Below W.heap.size W W' → Calls Try.prog (putF bd) #[.pointer (some ⟨fb, 0, none⟩), .int .i64 q, .int .u64 a] W' fun e w' => e = .returned (.tuple #[]) ∧ ∃ rg t2, IRunX w0 bd rb tg fa fo n c rs { st with frames := t2 :: st.frames, regs := rg, hidn := 1, kb := kb } (fb :: gl) rgb w' ∧
      Hid (cl = -1 → ∀ W', Below w'.heap.size w' W' → LayI w0 bd rb tg fa fo n c rs st gl fb rgb r kb args X (j + 1) W') ∧ Hid (cl ≠ -1 → ∀ W', Below w'.heap.size w' W' → Calls Try.prog 44 #[.pointer (some ⟨fb, 4, none⟩), .int .i64 cl, .int .u64 a] W' fun e w2 => e = .returned (.tuple #[]) ∧ LayI w0 bd rb tg fa fo n c rs st gl fb rgb r kb args X (j + 1) w2)) := by
  obtain ⟨rg, t, hX, hrt, hlay⟩ := h
  obtain ⟨h4, hil, hpl, hin⟩ := hl
  have hp : r.gr.params[j]? = some (r.gr.params[j]'(by omega)) := List.getElem?_eq_getElem _
  have hc : r.gr.init[j]? = some (r.gr.init[j]'(by omega)) := List.getElem?_eq_getElem _
  have hx : args[j]? = some (args[j]'(by omega)) := List.getElem?_eq_getElem _
  obtain ⟨q, hq⟩ : ∃ q, q = r.gr.params[j]'(by omega) := ⟨_, rfl⟩
  obtain ⟨cl, hcl⟩ : ∃ q, q = r.gr.init[j]'(by omega) := ⟨_, rfl⟩
  obtain ⟨a, haa⟩ : ∃ q, q = args[j]'(by omega) := ⟨_, rfl⟩
  rw [← hq] at hp
  rw [← hcl] at hc
  rw [← haa] at hx
  have hst := lay_step hp hc hx hlay
  refine ⟨q, cl, a, hp, hc, hx, hin j cl hc, Lib.hid fun W' hW' => ?_⟩
  refine (put_any (x := a) (hX.on hW') rfl hrt (hpl j q hp)).mono ?_
  rintro e w' ⟨rfl, h1⟩
  have h1' : IRunX w0 bd rb tg fa fo n c rs { st with frames := putT (grs rs) bd t q a :: st.frames, regs := putR bd rg q a, hidn := 1, kb := kb } (fb :: gl) rgb w' := h1
  refine ⟨rfl, _, _, h1', Lib.hid fun hn W2 hW2 => ?_, Lib.hid fun hn W2 hW2 => ?_⟩
  · rw [laidT, if_pos hn] at hst
    exact ⟨_, _, h1'.on hW2, by rw [putT_f8]; exact hrt, hst⟩
  · rw [laidT, if_neg hn] at hst
    have hcz : 0 ≤ cl ∧ cl < 64 := (hin j cl hc).resolve_left hn
    have hcc : cl = ((cl.toNat : Nat) : Int) := by omega
    have h2 := (h1'.on hW2).wput (x := a) rfl cl.toNat (by omega)
    rw [← hcc] at h2
    refine h2.mono ?_
    rintro e w3 ⟨rfl, h3⟩
    exact ⟨rfl, _, _, h3, by show rs[(putT (grs rs) bd t q a).f]? = _; rw [putT_f8]; exact hrt, hst⟩
set_option maxRecDepth 100000 in
set_option maxHeartbeats 16000000 in
theorem begin_any (why k : Nat) (AA : Option Addr) (m cA : Nat) (args : List Int) (h : IRunA w0 bd rb tg fa fo n c rs st gl rgb AA m args W) (hkb : st.kb = []) (h0 : st.hidn = 0) (hd : st.doing ≠ 3) (hr : rs[k]? = some r) (hm : m = args.length) (ha : args.length = r.gr.params.length) (hfl : st.frames.length ≤ 1048576) (hdp : st.depth ≤ 1048577) (hbg : st.begun ≤ 1048577) (hcA : m ≤ cA) (hn : AA = none → m = 0) :
    Calls Try.prog 25 #[.pointer (some ⟨rb, 0, none⟩), .int .i64 why, .agg #[.int .i64 k, .slice AA m cA]] W fun e w' => e = .returned (.tuple #[]) ∧ ∃ fb, IRunX w0 bd rb tg fa fo n c rs (st.begin (grs rs) bd why k args) (fb :: gl) rgb w' := by
  obtain ⟨hvl, hprog, hlow⟩ : valid (grs rs) bd ∧ RdP W w0.heap.size (some ⟨fa, fo, none⟩) n rs ∧ Below w0.heap.size w0 W := by
    obtain ⟨g, ow, hR, _⟩ := h
    exact ⟨hR.val, hR.prog, hR.below⟩
  have hl := head_lay hvl hr
  obtain ⟨hG, p0, _, p3, _, _, _, p7, hfz⟩ := prog_cells hprog hr
  have hkn : k < n := by rw [← hprog.len]; exact (List.getElem?_eq_some_iff.1 hr).1
  have hn16 : n ≤ 16 := by rw [← hprog.len]; have := hvl.1.2; rw [length_grs] at this; exact this
  obtain ⟨X, hX⟩ : ∃ X, X = layP (grs rs) bd (r.gr.params.drop 0) (r.gr.init.drop 0) (args.drop 0) (st.regs, newFr (grs rs) why k st.begun) := ⟨_, rfl⟩
  obtain ⟨kb, hkbq⟩ : ∃ kb : List (Addr × List Value), kb = (⟨W.heap.size, 0, none⟩, (#[.int .i64 k, .slice AA m cA] : Array Value).toList) :: kbOf AA args := ⟨_, rfl⟩
  have HBOX : Hid (IRunX w0 bd rb tg fa fo n c rs { st with kb := kb } gl rgb (W.alloc (.cells #[.int .i64 k, .slice AA m cA] 98))) := Lib.hid (by
    rw [hkbq]
    exact h.kb_.box _ _)
  have HKB : Hid (∀ (st2 : IMc) (gl2 : List Nat) (w : World), st2.kb = kb → IRunX w0 bd rb tg fa fo n c rs st2 gl2 rgb w → W.heap.size < w.heap.size ∧ w.cell? ⟨W.heap.size, 0, none⟩ = some (.int .i64 k) ∧ w.cell? ⟨W.heap.size, 1, none⟩ = some (.slice AA m cA) ∧ ∀ (j : Nat) a, args[j]? = some a → ∃ ad, AA = some ad ∧ ad.block < w.heap.size ∧ w.cell? (ad.add j) = some (.int .u64 a)) := Lib.hid fun st2 gl2 w hk hx => by
    have e0 := hx.kbAt (ad := ⟨W.heap.size, 0, none⟩) (xs := [.int .i64 k, .slice AA m cA]) (j := 0) (by rw [hk, hkbq]; simp) rfl
    have e1 := hx.kbAt (ad := ⟨W.heap.size, 0, none⟩) (xs := [.int .i64 k, .slice AA m cA]) (j := 1) (by rw [hk, hkbq]; simp) rfl
    refine ⟨e0.1, e0.2, e1.2, fun j a hj => ?_⟩
    cases args with
    | nil => simp at hj
    | cons a0 l =>
      cases AA with
      | none => rw [hn rfl] at hm; cases hm
      | some ad =>
        have e2 := hx.kbAt (ad := ad) (xs := u64c (a0 :: l)) (j := j) (by rw [hk, hkbq]; simp [kbOf]) (u64c_at hj)
        exact ⟨ad, rfl, e2.1, e2.2⟩
  have HNF : Hid (∀ W', Below (W.heap.size + 1) (W.alloc (.cells #[.int .i64 k, .slice AA m cA] 98)) W' → Calls Try.prog (nfF bd) (nfA bd rgb ++ #[.agg #[.pointer (some ⟨fa, fo + k * 8, none⟩), .int .i64 why, .int .u64 st.begun, .int .i64 r.gr.entry, .slice none 0 0, .slice none 0 0, .int .u64 0]]) W' fun e w' => ∃ fb, e = .returned (ifrV bd fb) ∧ Hid (LayI w0 bd rb tg fa fo n c rs st gl fb rgb r kb args X 0 w')) := Lib.hid fun W' hb => by
    have h1 := newFrame_any (bd := bd) (fa := fa) (fo := fo) (rgb := rgb) (grs rs) why k st.begun W'
    unfold callC at h1
    rw [grOf_at hr] at h1
    refine h1.mono ?_
    rintro e w' ⟨rfl, rfl⟩
    refine ⟨_, rfl, Lib.hid ⟨st.regs, newFr (grs rs) why k st.begun, ?_, hr, hX.symm⟩⟩
    have hb0 : Below (W.alloc (.cells #[.int .i64 k, .slice AA m cA] 98)).heap.size (W.alloc (.cells #[.int .i64 k, .slice AA m cA] 98)) W' := by rw [World.size_alloc]; exact hb
    have h2 := (HBOX.out.on hb0).on ((Below.refl _ _).alloc (Nat.le_refl _) (.cells #[.pointer (some ⟨fa, fo + k * 8, none⟩), .int .i64 why, .int .u64 st.begun, .int .i64 r.gr.entry, .slice none 0 0, .slice none 0 0, .int .u64 0] 133))
    have h3 := h2.fresh why k h0
    rw [World.size_alloc] at h3
    exact h3
  have HRND : Hid (∀ fb j w, LayI w0 bd rb tg fa fo n c rs st gl fb rgb r kb args X j w → j < m → _) := Lib.hid fun fb j w hL hj => hL.round hj hm ha hl
  obtain ⟨po, hpo⟩ : ∃ po, po = r.po := ⟨_, rfl⟩
  obtain ⟨io, hio⟩ : ∃ io, io = r.io := ⟨_, rfl⟩
  have hpm : r.gr.params.length = m := by rw [hm, ha]
  have him : r.gr.init.length = m := by rw [hl.2.1, hpm]
  have HPG : Hid (∀ w, Below w0.heap.size w0 w → fa < w.heap.size ∧ w.cell? ⟨fa, fo + k * 8 + 3, none⟩ = some (.slice io m r.ic) ∧ w.cell? ⟨fa, fo + k * 8, none⟩ = some (.slice po m r.pc) ∧ Reads w w0.heap.size 1 po m (i64c r.gr.params) ∧ Reads w w0.heap.size 1 io m (i64c r.gr.init)) := Lib.hid fun w hw => by
    have hk : ∀ p : Addr, p.block < w0.heap.size → w.cell? p = W.cell? p := fun p hp => (hw.cell hp).trans (hlow.cell hp).symm
    have hP2 := hprog.keep hk
    obtain ⟨hG2, a0, _, a3, _⟩ := prog_cells hP2 hr
    have i1 := hG2.params
    have i2 := hG2.init
    rw [hpm] at a0 i1
    rw [him] at a3 i2
    rw [hpo, hio]
    exact ⟨Nat.lt_of_lt_of_le hfz hw.size, a3, a0, i1, i2⟩
  obtain ⟨hrz, y0, y1, y4, _⟩ := h.runX.cells3
  obtain ⟨sb, hsb⟩ : ∃ sb, sb = st.begun := ⟨_, rfl⟩
  obtain ⟨en, hen⟩ : ∃ en, en = r.gr.entry := ⟨_, rfl⟩
  rw [← hsb] at y4 HNF hbg
  rw [← hen] at p7 HNF
  have hfW : fa < W.heap.size := Nat.lt_of_lt_of_le hfz hlow.size
  have HSB := Lib.hid hsb
  have HGR := Lib.hid (grOf_at hr)
  have HX := Lib.hid hX
  have HD := Lib.hid hd
  have HK0 := Lib.hid hkb
  have H00 := Lib.hid h0
  have HML := Lib.hid hm
  have HPM := Lib.hid hpm
  have HIM := Lib.hid him
  have hm4 : m ≤ 4 := by rw [← hpm]; exact hl.1
  have hpms := put_m bd
  have hnps := nput_m bd
  have hbms := body_m bd
  have hnbs := nbody_m bd
  clear h hvl hprog hlow hG p0 p3 hX hkb h0 hd hm ha hl hr hpo hio hpm him hsb hen HBOX hkbq hn
  cases bd
  · simp only [ptrI, ifrP, ifrV, putF, nfF, nfA, nfV, Bool.false_eq_true, if_false, if_true, List.append_toArray, List.cons_append, List.nil_append] at hpms hnps hbms hnbs y1 HNF HRND ⊢
    go_enter Try.func25, Try.ntmps25
    go_wp2
    go_quiet (fail)
    go_wp2
    go_cut [7] (fun s7 wx => ∃ fb, s7 = .iface 136 (.pointer (some ⟨fb, 0, none⟩)) ∧ Hid (LayI w0 false rb tg fa fo n c rs st gl fb rgb r kb args X 0 wx))
    case first =>
      go_region_law (first
        | (go_simp; go_at_call 22; refine (HNF.out _ (by first | exact below_drewN' (Below.refl _ _) _ | exact (below_drewN' (Below.refl _ _) _).drew | exact (Below.refl _ _).drew)).mono ?_; rintro e w2 ⟨fb, rfl, HL0⟩)
        | (go_simp; go_at_call 24; refine (HNF.out _ (by first | exact below_drewN' (Below.refl _ _) _ | exact (below_drewN' (Below.refl _ _) _).drew | exact (Below.refl _ _).drew)).mono ?_; rintro e w2 ⟨fb, rfl, HL0⟩))
      all_goals
        go_wp2
        go_meet
      all_goals
        exact ⟨fb, rfl, HL0⟩
    case rest =>
      obtain ⟨fb, rfl, HL0⟩ := hcut
      obtain ⟨hf2, z0⟩ : fa < wc.heap.size ∧ wc.cell? ⟨fa, fo + k * 8, none⟩ = some (.slice po m r.pc) := by
        obtain ⟨rg0, t0, hX0, _, _⟩ := HL0.out
        obtain ⟨a1, _, a3, _⟩ := HPG.out _ hX0.low
        exact ⟨a1, a3⟩
      have hpm_ := hpms fb
      have hnp_ := hnps fb
      have hbm_ := hbms fb
      have hnb_ := hnbs fb
      go_wp2
      go_loopw [39] (fun i wr => ∃ j : Nat, j ≤ m ∧ i = .int .i64 j ∧ Hid (LayI w0 false rb tg fa fo n c rs st gl fb rgb r kb args X j wr)) (fun i _ => m - (intOf i).toNat)
      case atStart => exact ⟨0, Nat.zero_le _, rfl, HL0⟩
      case round =>
        clear HL0 z0
        obtain ⟨j, hj, rfl, HL⟩ := hrel
        by_cases hlt : j < m
        · obtain ⟨q, cl, a, e1, e2, e3, hcl, HPUT⟩ := HRND.out _ _ _ HL.out hlt
          obtain ⟨b1, off1, rfl, x1, hb1, ad, rfl, ka, kc, k1, k3⟩ : ∃ b1 off1, po = some ⟨b1, off1, none⟩ ∧ wr.cell? ⟨b1, off1 + j, none⟩ = some (.int .i64 q) ∧ b1 < wr.heap.size ∧ ∃ ad, AA = some ad ∧ ad.block < wr.heap.size ∧ wr.cell? (ad.add j) = some (.int .u64 a) ∧ W.heap.size < wr.heap.size ∧ wr.cell? ⟨W.heap.size, 1, none⟩ = some (.slice AA m cA) := by
            obtain ⟨rg1, t1, hX1, _, _⟩ := HL.out
            obtain ⟨z1, z3, z0, zP, zI⟩ := HPG.out _ hX1.low
            obtain ⟨b1, off1, q', hpo, hb1, HX1, x1⟩ := zP.int hlt
            obtain ⟨k1, k2, k3, k4⟩ := HKB.out _ _ _ rfl hX1
            obtain ⟨ad, hAA, ka, kc⟩ := k4 j a e3
            have hq := HX1.out
            rw [e1] at hq
            injection hq with hq
            subst hq
            exact ⟨b1, off1, hpo, x1, Nat.lt_of_lt_of_le hb1 hX1.low.size, ad, hAA, ka, kc, k1, k3⟩
          clear HL
          go_wp2
          go_still_tail 10, (by kernel_rfl)
          go_wp2_with (go_at_call 205; with_reducible refine (HPUT.out _ (Below.refl _ _).drew).mono ?_; rintro e w4 ⟨rfl, rg4, t4, h4, hN, hY⟩; have H4 := Lib.hid h4; clear h4; refine Hid.out ?_)
          obtain ⟨hz4, i3, b2, off2, rfl, i1, hb2, kc4, k14, k34, ka4⟩ : fa < w4.heap.size ∧ w4.cell? ⟨fa, fo + k * 8 + 3, none⟩ = some (.slice io m r.ic) ∧ ∃ b2 off2, io = some ⟨b2, off2, none⟩ ∧ w4.cell? ⟨b2, off2 + j, none⟩ = some (.int .i64 cl) ∧ b2 < w4.heap.size ∧ w4.cell? (ad.add j) = some (.int .u64 a) ∧ W.heap.size < w4.heap.size ∧ w4.cell? ⟨W.heap.size, 1, none⟩ = some (.slice (some ad) m cA) ∧ ad.block < w4.heap.size := by
            obtain ⟨z1, z3, z0, zP, zI⟩ := HPG.out _ H4.out.low
            obtain ⟨b2, off2, q', hio, hb2, HX2, x2⟩ := zI.int hlt
            obtain ⟨l1, l2, l3, l4⟩ := HKB.out _ _ _ rfl H4.out
            obtain ⟨ad', hAA, la, lc⟩ := l4 j a e3
            injection hAA with hAA
            subst hAA
            have hq := HX2.out
            rw [e2] at hq
            injection hq with hq
            subst hq
            exact ⟨z1, z3, b2, off2, hio, x2, Nat.lt_of_lt_of_le hb2 H4.out.low.size, lc, l1, l3, la⟩
          refine Lib.hid ?_
          rcases hcl with rfl | hcl
          · go_wp2
            go_roundw
            case rel => exact ⟨j + 1, by omega, by go_num, Lib.hid (hN.out rfl _ (Below.refl _ _))⟩
            case measure => simp [intOf]; omega
          · have gy : (cl == -1) = false := by simp; omega
            have HPW := Lib.hid (hY.out (by omega))
            go_wp2
            go_region_law (first
              | (go_simp; go_at_call 203; refine (body_any fb _).mono ?_; rintro e w5 ⟨rfl, rfl⟩)
              | (go_simp; go_at_call 44; with_reducible refine (HPW.out _ (Below.refl _ _).drew).mono ?_; rintro e w6 ⟨rfl, h6⟩; have H6 := Lib.hid h6; clear h6))
            all_goals
              go_wp2
              go_roundw
              case rel => exact ⟨j + 1, by omega, by go_num, H6⟩
              case measure => simp [intOf]; omega
        · obtain rfl : m = j := by omega
          obtain ⟨rg, t, hXX, hrt, hlay⟩ := HL.out
          have hlay2 : X = (rg, t) := by
            rw [List.drop_of_length_le (by rw [HPM.out]; exact Nat.le_refl _), List.drop_of_length_le (by rw [HIM.out]; exact Nat.le_refl _)] at hlay
            exact hlay.symm
          have HLY := Lib.hid hlay2
          obtain ⟨hrz9, _, _, y49, f49⟩ := hXX.cells3
          have y49' : wr.cell? ⟨rb, 4, none⟩ = some (.int .u64 sb) := by rw [HSB.out]; exact y49
          have h9 := hXX.setBegun (by exact HD.out) (sb + 1)
          have e9 : ((sb + 1 : Nat) : Int) = (sb : Int) + 1 := by omega
          rw [e9] at h9
          obtain ⟨sl, hsl⟩ : ∃ sl, sl = st.frames.length := ⟨_, rfl⟩
          rw [← hsl] at hfl
          obtain ⟨fv, xs, y39, hown9, hsz9, hpush⟩ := h9.push (m := sl) (Y := .iface 136 (.pointer (some ⟨fb, 0, none⟩))) rfl rfl (by exact HD.out) hsl rfl
          obtain ⟨w9, hw9⟩ : ∃ w9, w9 = wr.setCell ⟨rb, 4, none⟩ (.int .u64 ((sb : Int) + 1)) := ⟨_, rfl⟩
          have hz9 : wr.heap.size = w9.heap.size := by rw [hw9]; simp
          have HOA := Lib.hid (hown9.alloc (.cells #[.iface 136 (.pointer (some ⟨fb, 0, none⟩))] 135))
          have HRD := Lib.hid (reads_new (wr.setCell ⟨rb, 4, none⟩ (.int .u64 ((sb : Int) + 1))) 135 (.iface 136 (.pointer (some ⟨fb, 0, none⟩))))
          rw [show (wr.setCell ⟨rb, 4, none⟩ (.int .u64 ((sb : Int) + 1))).heap.size = wr.heap.size by simp] at HRD hsz9
          have H1 : Hid (∀ u ∈ [Value.iface 136 (.pointer (some ⟨fb, 0, none⟩))], u.oneCell' = true) := Lib.hid (fun u hu => by simp at hu; subst hu; rfl)
          have HPUSH := Lib.hid hpush
          have y39' : wr.cell? ⟨rb, 3, none⟩ = some fv := by
            rw [World.cell?_setCell_other _ _ _ _ (by simp)] at y39
            exact y39
          have HSL := Lib.hid hsl
          clear HL hXX hrt hlay hlay2 y49 h9 y39 hown9 hpush hw9 hz9 hsl e9
          go_wp2_with (at_builtin; refine app_frm rfl _ _ rfl w0.heap.size fv sl xs rfl HOA.out (wr.heap.size + 1) (some ⟨wr.heap.size, 0, none⟩) 1 1 [.iface 136 (.pointer (some ⟨fb, 0, none⟩))] rfl HRD.out H1.out (by omega) (by simp; omega) ?_; intro v8 w8 hown hgr hor; refine Hid.out ?_)
          obtain ⟨A8, c8, rfl⟩ := own_slice hown
          obtain ⟨d3, f3, hrz8, H8⟩ := HPUSH.out _ w8 A8 c8 ((Below.refl _ _).alloc (Nat.le_refl _) _) hown hgr hor
          have d12 := H8.out.cells12.1
          have f12 := H8.out.cells12.2.1
          have d7 := H8.out.cells12.2.2.1
          have f7 := H8.out.cells12.2.2.2
          rw [World.cell?_setCell_other _ _ _ _ (by simp)] at d12 d7
          simp only [World.frozen?_setCell] at f12 f7
          obtain ⟨dp, hdp2⟩ : ∃ dp, dp = st.depth := ⟨_, rfl⟩
          have d12' : w8.cell? ⟨rb, 12, none⟩ = some (.int .i64 dp) := by rw [hdp2]; exact d12
          rw [← hdp2] at hdp
          have HDP := Lib.hid hdp2
          have HFIN : Hid (∀ y1 : Int, y1 = ((max dp (sl + 1) : Nat) : Int) → ∃ fb, IRunX w0 false rb tg fa fo n c rs (st.begin (grs rs) false why k args) (fb :: gl) rgb (((w8.setCell ⟨rb, 3, none⟩ (.slice A8 (sl + 1) c8)).setCell ⟨rb, 12, none⟩ (.int .i64 y1)).setCell ⟨rb, 7, none⟩ (.int .i64 0)).drew) := Lib.hid fun y1 hy => by
            have h1 := ((H8.out.setDepth (by exact HD.out) (max dp (sl + 1))).setDoing (by exact HD.out) 0 (by decide)).kb0.on (Below.refl _ _).drew
            rw [← hy] at h1
            refine ⟨fb, ?_⟩
            have hX2 := HX.out
            rw [HLY.out] at hX2
            have est : st.begin (grs rs) false why k args = ({ st with frames := t :: st.frames, regs := rg, begun := sb + 1, hidn := 0, kb := [], depth := max dp (sl + 1), doing := 0 } : IMc) := by
              unfold IMc.begin
              have h2 : layP (grs rs) false (grOf (grs rs) k).params (grOf (grs rs) k).init args (st.regs, ⟨why, k, st.begun, (grOf (grs rs) k).entry, fun _ => 0, [], 0, 0, List.replicate 16 0⟩) = (rg, t) := by
                have h3 := hX2.symm
                unfold newFr at h3
                rw [HGR.out] at h3 ⊢
                exact h3
              rw [h2, HSB.out, HSL.out, HDP.out, ← HK0.out, ← H00.out]
            rw [est]
            exact h1
          refine Lib.hid ?_
          clear hown hgr hor d12 HPUSH
          go_wp2
          go_region
          go_wp2
          all_goals
            go_end0
            refine ⟨rfl, HFIN.out _ ?_⟩
            omega
  · simp only [ptrI, ifrP, ifrV, putF, nfF, nfA, nfV, Bool.false_eq_true, if_false, if_true, List.append_toArray, List.cons_append, List.nil_append] at hpms hnps hbms hnbs y1 HNF HRND ⊢
    go_enter Try.func25, Try.ntmps25
    go_wp2
    go_quiet (fail)
    go_wp2
    go_cut [7] (fun s7 wx => ∃ fb, s7 = .iface 142 (.pointer (some ⟨fb, 0, none⟩)) ∧ Hid (LayI w0 true rb tg fa fo n c rs st gl fb rgb r kb args X 0 wx))
    case first =>
      go_region_law (first
        | (go_simp; go_at_call 22; refine (HNF.out _ (by first | exact below_drewN' (Below.refl _ _) _ | exact (below_drewN' (Below.refl _ _) _).drew | exact (Below.refl _ _).drew)).mono ?_; rintro e w2 ⟨fb, rfl, HL0⟩)
        | (go_simp; go_at_call 24; refine (HNF.out _ (by first | exact below_drewN' (Below.refl _ _) _ | exact (below_drewN' (Below.refl _ _) _).drew | exact (Below.refl _ _).drew)).mono ?_; rintro e w2 ⟨fb, rfl, HL0⟩))
      all_goals
        go_wp2
        go_meet
      all_goals
        exact ⟨fb, rfl, HL0⟩
    case rest =>
      obtain ⟨fb, rfl, HL0⟩ := hcut
      obtain ⟨hf2, z0⟩ : fa < wc.heap.size ∧ wc.cell? ⟨fa, fo + k * 8, none⟩ = some (.slice po m r.pc) := by
        obtain ⟨rg0, t0, hX0, _, _⟩ := HL0.out
        obtain ⟨a1, _, a3, _⟩ := HPG.out _ hX0.low
        exact ⟨a1, a3⟩
      have hpm_ := hpms fb
      have hnp_ := hnps fb
      have hbm_ := hbms fb
      have hnb_ := hnbs fb
      go_wp2
      go_loopw [39] (fun i wr => ∃ j : Nat, j ≤ m ∧ i = .int .i64 j ∧ Hid (LayI w0 true rb tg fa fo n c rs st gl fb rgb r kb args X j wr)) (fun i _ => m - (intOf i).toNat)
      case atStart => exact ⟨0, Nat.zero_le _, rfl, HL0⟩
      case round =>
        clear HL0 z0
        obtain ⟨j, hj, rfl, HL⟩ := hrel
        by_cases hlt : j < m
        · obtain ⟨q, cl, a, e1, e2, e3, hcl, HPUT⟩ := HRND.out _ _ _ HL.out hlt
          obtain ⟨b1, off1, rfl, x1, hb1, ad, rfl, ka, kc, k1, k3⟩ : ∃ b1 off1, po = some ⟨b1, off1, none⟩ ∧ wr.cell? ⟨b1, off1 + j, none⟩ = some (.int .i64 q) ∧ b1 < wr.heap.size ∧ ∃ ad, AA = some ad ∧ ad.block < wr.heap.size ∧ wr.cell? (ad.add j) = some (.int .u64 a) ∧ W.heap.size < wr.heap.size ∧ wr.cell? ⟨W.heap.size, 1, none⟩ = some (.slice AA m cA) := by
            obtain ⟨rg1, t1, hX1, _, _⟩ := HL.out
            obtain ⟨z1, z3, z0, zP, zI⟩ := HPG.out _ hX1.low
            obtain ⟨b1, off1, q', hpo, hb1, HX1, x1⟩ := zP.int hlt
            obtain ⟨k1, k2, k3, k4⟩ := HKB.out _ _ _ rfl hX1
            obtain ⟨ad, hAA, ka, kc⟩ := k4 j a e3
            have hq := HX1.out
            rw [e1] at hq
            injection hq with hq
            subst hq
            exact ⟨b1, off1, hpo, x1, Nat.lt_of_lt_of_le hb1 hX1.low.size, ad, hAA, ka, kc, k1, k3⟩
          clear HL
          go_wp2
          go_still_tail 10, (by kernel_rfl)
          go_wp2_with (go_at_call 210; with_reducible refine (HPUT.out _ (Below.refl _ _).drew).mono ?_; rintro e w4 ⟨rfl, rg4, t4, h4, hN, hY⟩; have H4 := Lib.hid h4; clear h4; refine Hid.out ?_)
          obtain ⟨hz4, i3, b2, off2, rfl, i1, hb2, kc4, k14, k34, ka4⟩ : fa < w4.heap.size ∧ w4.cell? ⟨fa, fo + k * 8 + 3, none⟩ = some (.slice io m r.ic) ∧ ∃ b2 off2, io = some ⟨b2, off2, none⟩ ∧ w4.cell? ⟨b2, off2 + j, none⟩ = some (.int .i64 cl) ∧ b2 < w4.heap.size ∧ w4.cell? (ad.add j) = some (.int .u64 a) ∧ W.heap.size < w4.heap.size ∧ w4.cell? ⟨W.heap.size, 1, none⟩ = some (.slice (some ad) m cA) ∧ ad.block < w4.heap.size := by
            obtain ⟨z1, z3, z0, zP, zI⟩ := HPG.out _ H4.out.low
            obtain ⟨b2, off2, q', hio, hb2, HX2, x2⟩ := zI.int hlt
            obtain ⟨l1, l2, l3, l4⟩ := HKB.out _ _ _ rfl H4.out
            obtain ⟨ad', hAA, la, lc⟩ := l4 j a e3
            injection hAA with hAA
            subst hAA
            have hq := HX2.out
            rw [e2] at hq
            injection hq with hq
            subst hq
            exact ⟨z1, z3, b2, off2, hio, x2, Nat.lt_of_lt_of_le hb2 H4.out.low.size, lc, l1, l3, la⟩
          refine Lib.hid ?_
          rcases hcl with rfl | hcl
          · go_wp2
            go_roundw
            case rel => exact ⟨j + 1, by omega, by go_num, Lib.hid (hN.out rfl _ (Below.refl _ _))⟩
            case measure => simp [intOf]; omega
          · have gy : (cl == -1) = false := by simp; omega
            have HPW := Lib.hid (hY.out (by omega))
            go_wp2
            go_region_law (first
              | (go_simp; go_at_call 203; refine (body_any fb _).mono ?_; rintro e w5 ⟨rfl, rfl⟩)
              | (go_simp; go_at_call 44; with_reducible refine (HPW.out _ (Below.refl _ _).drew).mono ?_; rintro e w6 ⟨rfl, h6⟩; have H6 := Lib.hid h6; clear h6))
            all_goals
              go_wp2
              go_roundw
              case rel => exact ⟨j + 1, by omega, by go_num, H6⟩
              case measure => simp [intOf]; omega
        · obtain rfl : m = j := by omega
          obtain ⟨rg, t, hXX, hrt, hlay⟩ := HL.out
          have hlay2 : X = (rg, t) := by
            rw [List.drop_of_length_le (by rw [HPM.out]; exact Nat.le_refl _), List.drop_of_length_le (by rw [HIM.out]; exact Nat.le_refl _)] at hlay
            exact hlay.symm
          have HLY := Lib.hid hlay2
          obtain ⟨hrz9, _, _, y49, f49⟩ := hXX.cells3
          have y49' : wr.cell? ⟨rb, 4, none⟩ = some (.int .u64 sb) := by rw [HSB.out]; exact y49
          have h9 := hXX.setBegun (by exact HD.out) (sb + 1)
          have e9 : ((sb + 1 : Nat) : Int) = (sb : Int) + 1 := by omega
          rw [e9] at h9
          obtain ⟨sl, hsl⟩ : ∃ sl, sl = st.frames.length := ⟨_, rfl⟩
          rw [← hsl] at hfl
          obtain ⟨fv, xs, y39, hown9, hsz9, hpush⟩ := h9.push (m := sl) (Y := .iface 142 (.pointer (some ⟨fb, 0, none⟩))) rfl rfl (by exact HD.out) hsl rfl
          obtain ⟨w9, hw9⟩ : ∃ w9, w9 = wr.setCell ⟨rb, 4, none⟩ (.int .u64 ((sb : Int) + 1)) := ⟨_, rfl⟩
          have hz9 : wr.heap.size = w9.heap.size := by rw [hw9]; simp
          have HOA := Lib.hid (hown9.alloc (.cells #[.iface 142 (.pointer (some ⟨fb, 0, none⟩))] 135))
          have HRD := Lib.hid (reads_new (wr.setCell ⟨rb, 4, none⟩ (.int .u64 ((sb : Int) + 1))) 135 (.iface 142 (.pointer (some ⟨fb, 0, none⟩))))
          rw [show (wr.setCell ⟨rb, 4, none⟩ (.int .u64 ((sb : Int) + 1))).heap.size = wr.heap.size by simp] at HRD hsz9
          have H1 : Hid (∀ u ∈ [Value.iface 142 (.pointer (some ⟨fb, 0, none⟩))], u.oneCell' = true) := Lib.hid (fun u hu => by simp at hu; subst hu; rfl)
          have HPUSH := Lib.hid hpush
          have y39' : wr.cell? ⟨rb, 3, none⟩ = some fv := by
            rw [World.cell?_setCell_other _ _ _ _ (by simp)] at y39
            exact y39
          have HSL := Lib.hid hsl
          clear HL hXX hrt hlay hlay2 y49 h9 y39 hown9 hpush hw9 hz9 hsl e9
          go_wp2_with (at_builtin; refine app_frm rfl _ _ rfl w0.heap.size fv sl xs rfl HOA.out (wr.heap.size + 1) (some ⟨wr.heap.size, 0, none⟩) 1 1 [.iface 142 (.pointer (some ⟨fb, 0, none⟩))] rfl HRD.out H1.out (by omega) (by simp; omega) ?_; intro v8 w8 hown hgr hor; refine Hid.out ?_)
          obtain ⟨A8, c8, rfl⟩ := own_slice hown
          obtain ⟨d3, f3, hrz8, H8⟩ := HPUSH.out _ w8 A8 c8 ((Below.refl _ _).alloc (Nat.le_refl _) _) hown hgr hor
          have d12 := H8.out.cells12.1
          have f12 := H8.out.cells12.2.1
          have d7 := H8.out.cells12.2.2.1
          have f7 := H8.out.cells12.2.2.2
          rw [World.cell?_setCell_other _ _ _ _ (by simp)] at d12 d7
          simp only [World.frozen?_setCell] at f12 f7
          obtain ⟨dp, hdp2⟩ : ∃ dp, dp = st.depth := ⟨_, rfl⟩
          have d12' : w8.cell? ⟨rb, 12, none⟩ = some (.int .i64 dp) := by rw [hdp2]; exact d12
          rw [← hdp2] at hdp
          have HDP := Lib.hid hdp2
          have HFIN : Hid (∀ y1 : Int, y1 = ((max dp (sl + 1) : Nat) : Int) → ∃ fb, IRunX w0 true rb tg fa fo n c rs (st.begin (grs rs) true why k args) (fb :: gl) rgb (((w8.setCell ⟨rb, 3, none⟩ (.slice A8 (sl + 1) c8)).setCell ⟨rb, 12, none⟩ (.int .i64 y1)).setCell ⟨rb, 7, none⟩ (.int .i64 0)).drew) := Lib.hid fun y1 hy => by
            have h1 := ((H8.out.setDepth (by exact HD.out) (max dp (sl + 1))).setDoing (by exact HD.out) 0 (by decide)).kb0.on (Below.refl _ _).drew
            rw [← hy] at h1
            refine ⟨fb, ?_⟩
            have hX2 := HX.out
            rw [HLY.out] at hX2
            have est : st.begin (grs rs) true why k args = ({ st with frames := t :: st.frames, regs := rg, begun := sb + 1, hidn := 0, kb := [], depth := max dp (sl + 1), doing := 0 } : IMc) := by
              unfold IMc.begin
              have h2 : layP (grs rs) true (grOf (grs rs) k).params (grOf (grs rs) k).init args (st.regs, ⟨why, k, st.begun, (grOf (grs rs) k).entry, fun _ => 0, [], 0, 0, List.replicate 16 0⟩) = (rg, t) := by
                have h3 := hX2.symm
                unfold newFr at h3
                rw [HGR.out] at h3 ⊢
                exact h3
              rw [h2, HSB.out, HSL.out, HDP.out, ← HK0.out, ← H00.out]
            rw [est]
            exact h1
          refine Lib.hid ?_
          clear hown hgr hor d12 HPUSH
          go_wp2
          go_region
          go_wp2
          all_goals
            go_end0
            refine ⟨rfl, HFIN.out _ ?_⟩
            omega
end
end Go.Proofs.Ytlnccpojldiogaa
