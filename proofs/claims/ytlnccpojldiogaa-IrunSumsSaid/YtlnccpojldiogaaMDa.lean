/-
  Texts of one seat, one behind the other: IInvD, ISet, IRun.
-/
import Derived.LoopTactic
import Derived.Deep.LoopGhost
import Derived.RegionTactic
import Derived.Test.YtlnccpojldiogaaMCn
import Derived.Test.YtlnccpojldiogaaMCp
import Derived.Test.YtlnccpojldiogaaMBe
import Derived.Test.YtlnccpojldiogaaMCo
import Derived.Test.YtlnccpojldiogaaMAa

/-
  Package irun: invokeDeferred; the last frame is removed.
-/
namespace Go.Proofs.Ytlnccpojldiogaa
set_option linter.unusedVariables false
set_option linter.unusedSimpArgs false
open Go.ChangeShapes Go.WideShapes Go.ChangeAt Go.RowKit

/-- what a run asks of sizes, and of what stands in it -/
structure IBd (rs : List RG) (bd : Bool) (st : IMc) : Prop where
  hid : st.hidn = 0
  kb : st.kb = []
  frames : st.frames.length ≤ 1048576
  depth : st.depth ≤ 1048577
  begun : st.begun ≤ 1048576
  waiting : st.waiting ≤ 1048576
  defers : st.defers ≤ 1048577
  pans : st.panics.length ≤ 1048576
  maxp : st.maxp ≤ 1048577
  evs : st.evs.length ≤ 1048576
  fn : ∀ t ∈ st.frames, ∃ r, rs[t.f]? = some r
  defs : ∀ t ∈ st.frames, t.defs.length ≤ 1048576
  args : ∀ t ∈ st.frames, ∀ d ∈ t.defs, ∃ r, rs[d.fn]? = some r ∧ d.args.length = r.gr.params.length
  ans : bd = false → ∀ t b bl, st.frames = t :: b :: bl → t.why = 1 → b.answer = -1 ∨ ∃ r, rs[b.f]? = some r ∧ PlOk r b.answer
  ser : SerDown st.frames
  why : ∀ t ∈ st.frames, t.why ≤ 3
  srl : ∀ t ∈ st.frames, t.serial ≤ 1048576
section
variable {w0 W W' : World} {ow ow' : Nat → Nat} {ex : Nat → Prop} {bd : Bool} {base rb tg fa fo rgb n c k : Nat} {rs : List RG} {st st' st1 st2 st3 : IMc} {g g' : IRG} {t t' u : IFr} {bl : List IFr} {gl : List Nat} {fb b o fz : Nat} {r : RG} {p x : Int} {d : IDf} {ds : List IDf} {ps : List (Int × Bool)}
theorem fn_small (hv : valid (grs rs) bd) (hr : rs[k]? = some r) : k < 16 := by
  have h1 := (List.getElem?_eq_some_iff.1 hr).1
  have h2 := hv.1.2
  rw [length_grs] at h2
  omega
set_option maxRecDepth 100000 in
set_option maxHeartbeats 1600000 in
theorem invokeDeferred_any (AA : Option Addr) (cA : Nat) (h : IRunA w0 bd rb tg fa fo n c rs st gl rgb AA d.args.length d.args W) (hdo : st.doing = 1 ∨ st.doing = 2) (hkb : st.kb = []) (h0 : st.hidn = 0) (hr : rs[d.fn]? = some r) (ha : d.args.length = r.gr.params.length) (hfl : st.frames.length ≤ 1048576) (hdp : st.depth ≤ 1048577) (hbg : st.begun ≤ 1048577) (hcA : d.args.length ≤ cA) (hn : AA = none → d.args.length = 0) :
    Calls Try.prog 90 #[.pointer (some ⟨rb, 0, none⟩), .agg #[.int .i64 d.fn, .slice AA d.args.length cA]] W fun e w' => e = .returned (.tuple #[]) ∧ ∃ fb, IRunX w0 bd rb tg fa fo n c rs (st.begin (grs rs) bd (if st.doing = 1 then 2 else 3) d.fn d.args) (fb :: gl) rgb w' := by
  obtain ⟨hrz, d7⟩ : rb < W.heap.size ∧ W.cell? ⟨rb, 7, none⟩ = some (.int .i64 st.doing) := by
    obtain ⟨g, ow, hR, _⟩ := h
    exact ⟨hR.run.blk.lt, hR.run.blk.cell 7⟩
  have HB : Hid (∀ W' why, Below W.heap.size W W' → Calls Try.prog 25 #[.pointer (some ⟨rb, 0, none⟩), .int .i64 (why : Nat), .agg #[.int .i64 d.fn, .slice AA d.args.length cA]] W' fun e w' => e = .returned (.tuple #[]) ∧ ∃ fb, IRunX w0 bd rb tg fa fo n c rs (st.begin (grs rs) bd why d.fn d.args) (fb :: gl) rgb w') := Lib.hid fun W' why hb => begin_any why d.fn AA d.args.length cA d.args (h.on hb) hkb h0 (by omega) hr rfl ha hfl hdp hbg hcA hn
  have HB0 : Hid (∀ why, Calls Try.prog 25 #[.pointer (some ⟨rb, 0, none⟩), .int .i64 (why : Nat), .agg #[.int .i64 d.fn, .slice AA d.args.length cA]] (W.alloc (.cells #[.int .i64 d.fn, .slice AA d.args.length cA] 98)) fun e w' => e = .returned (.tuple #[]) ∧ ∃ fb, IRunX w0 bd rb tg fa fo n c rs (st.begin (grs rs) bd why d.fn d.args) (fb :: gl) rgb w') := Lib.hid fun why => HB.out _ why ((Below.refl _ _).alloc (Nat.le_refl _) _)
  obtain ⟨kf, hkf⟩ : ∃ kf, kf = d.fn := ⟨_, rfl⟩
  obtain ⟨m, hm⟩ : ∃ m, m = d.args.length := ⟨_, rfl⟩
  rw [← hkf, ← hm] at HB0
  rw [← hkf, ← hm]
  obtain ⟨dv, hdv⟩ : ∃ v, v = st.doing := ⟨_, rfl⟩
  rw [← hdv] at d7 hdo
  rw [← hdv]
  clear h hkb h0 hr ha hfl hdp hbg hn hcA HB hdv hkf hm
  rcases hdo with rfl | rfl
  · rw [if_pos rfl]
    have H2 := Lib.hid (HB0.out 2)
    clear HB0
    go_enter Try.func90, Try.ntmps90
    go_wp2_with (go_at_call 25; refine H2.out.mono ?_; rintro e w4 ⟨rfl, fb, h4⟩; have H4 := Lib.hid h4; clear h4)
    go_end0
    exact ⟨rfl, fb, H4.out⟩
  · rw [if_neg (by decide)]
    have H2 := Lib.hid (HB0.out 3)
    clear HB0
    go_enter Try.func90, Try.ntmps90
    go_wp2_with (go_at_call 25; refine H2.out.mono ?_; rintro e w4 ⟨rfl, fb, h4⟩; have H4 := Lib.hid h4; clear h4)
    go_end0
    exact ⟨rfl, fb, H4.out⟩
/-- what remains to be read of a frame that was removed -/
structure GoneP (w0 : World) (bd : Bool) (rb tg fa fo n c : Nat) (rs : List RG) (st : IMc) (gl : List Nat) (rgb fz : Nat) (t : IFr) (W : World) : Prop where
  run : IRunX w0 bd rb tg fa fo n c rs st gl rgb W
  lt : fz < W.heap.size
  c0 : W.cell? ⟨fz, 0, none⟩ = some (.pointer (some ⟨fa, fo + t.f * 8, none⟩))
  c1 : W.cell? ⟨fz, 1, none⟩ = some (.int .i64 t.why)
  c6 : W.cell? ⟨fz, 6, none⟩ = some (.int .u64 t.number)
/-- the last frame is removed from the row -/
theorem IRunX.popFrm (h : IRunX w0 bd rb tg fa fo n c rs st (fb :: gl) rgb W) (hf : st.frames = t :: bl) (h0 : st.hidn = 0) (hd : st.doing ≠ 3) :
    ∃ q cq, W.cell? ⟨rb, 3, none⟩ = some (.slice (some ⟨q, 0, none⟩) (bl.length + 1) cq) ∧ bl.length + 1 ≤ cq ∧ W.frozen? ⟨rb, 3, none⟩ = false ∧ rb < W.heap.size ∧ Hid (GoneP w0 bd rb tg fa fo n c rs { st with frames := bl } gl rgb fb t (W.setCell ⟨rb, 3, none⟩ (.slice (some ⟨q, 0, none⟩) bl.length cq))) := by
  obtain ⟨g, ow, fg, gs, hR, hg, rfl, hgl, hrg, hF⟩ := h.open_ hf
  have h4 := hR.frs0 h0
  have hfr := hR.frames
  rw [hf, hg] at h4 hfr
  obtain ⟨q, cq, hq⟩ := h4.form8 (by simp)
  rw [hq] at h4
  simp only [List.length_cons] at h4 hq
  obtain ⟨_, _, _, _, e5, _⟩ := h4.cell8 (k := bl.length) (ifrVs_last hfr.2.len)
  obtain ⟨hB8, hO8, hkr⟩ := cut_set (k := bl.length) hR.run h4 (by omega) (by omega) 3
  have hlv : (ifrVs bd gs).length = bl.length := by rw [length_ifrVs]; exact hfr.2.len
  have htk : (ifrVs bd (fg :: gs)).take (bl.length * 1) = ifrVs bd gs := by
    rw [ifrVs_cons, Nat.mul_one, List.take_append_of_le_length (by omega), List.take_of_length_le (by omega)]
  rw [htk] at hO8
  have hqr : fg.fb ≠ rb := by
    intro he
    have h1 := hF.blk.role
    have h2 := hR.run.role
    rw [he, h2] at h1
    omega
  have hcell : ∀ i, (W.setCell ⟨rb, 3, none⟩ (.slice (some ⟨q, 0, none⟩) bl.length cq)).cell? ⟨fg.fb, i, none⟩ = W.cell? ⟨fg.fb, i, none⟩ := fun i => World.cell?_setCell_other _ _ _ _ (by simp [hqr])
  refine ⟨q, cq, ?_, e5, hR.run.blk.frozen 3, hR.run.blk.lt, Lib.hid ⟨?_, by simpa using hF.blk.blk.lt, by rw [hcell, hF.blk.blk.cell]; exact ifrC_0, by rw [hcell, hF.blk.blk.cell]; exact ifrC_1, by rw [hcell, hF.blk.blk.cell]; exact ifrC_6⟩⟩
  · rw [hR.run.blk.cell]
    show some g.fv = _
    rw [hq]
  · exact ⟨{ g with fv := .slice (some ⟨q, 0, none⟩) bl.length cq, gs := gs }, ow, hR.part (st' := { st with frames := bl }) (g' := { g with fv := .slice (some ⟨q, 0, none⟩) bl.length cq, gs := gs }) hkr (ne1 (by omega)) hB8 (by
      show OR _ _ _ _ _ _ _ (bl.length - st.hidn) ((ifrVs bd gs).take (bl.length - st.hidn))
      rw [h0, Nat.sub_zero, List.take_of_length_le (by omega)]
      exact hO8) (hfr.2.kr hkr (ne1 (by omega)) fun x h1 h2 => ne1 (by omega)) (fun hb => ⟨(hR.regs hb).1.kr hkr (ne1 (by omega)), (hR.regs hb).2⟩) (hR.pan.kr hkr (ne1 (by omega))) (hR.tr.kr hkr (ne1 (by omega)) (ne1 (by omega)) (ne1 (by omega))) (fun _ => hR.res hd) (fun h3 => absurd h3 hd), hgl, hrg⟩
/-- what resume does, as the frame below is read -/
def resumed (gs : List Gr) (bd : Bool) (st : IMc) (t b : IFr) (bl : List IFr) : IMc :=
  if bd = true then { st with regs := resumeR bd b.before (grOf gs t.f).result t.number } else if b.answer = -1 then st else st.put gs false b bl b.answer t.number
def ResumeOK (bd : Bool) : Prop := ∀ (w0 W : World) (rb tg fa fo n c rgb : Nat) (rs : List RG) (st : IMc) (gl : List Nat) (fb fz : Nat) (t b : IFr) (bl : List IFr) (r : RG), IRunX w0 bd rb tg fa fo n c rs st (fb :: gl) rgb W → st.frames = b :: bl → st.doing ≠ 3 → rs[t.f]? = some r → (bd = false → b.answer = -1 ∨ ∃ r, rs[b.f]? = some r ∧ PlOk r b.answer) →
  fz < W.heap.size → W.cell? ⟨fz, 0, none⟩ = some (.pointer (some ⟨fa, fo + t.f * 8, none⟩)) → W.cell? ⟨fz, 6, none⟩ = some (.int .u64 t.number) →
  Calls Try.prog (resumeF bd) #[.pointer (some ⟨fb, 0, none⟩), .pointer (some ⟨fz, 0, none⟩)] W fun e w' => e = .returned (.tuple #[]) ∧ IRunX w0 bd rb tg fa fo n c rs (resumed (grs rs) bd st t b bl) (fb :: gl) rgb w'
theorem resumed_doing (gs : List Gr) (bd : Bool) (st : IMc) (t b : IFr) (bl : List IFr) : (resumed gs bd st t b bl).doing = st.doing := by
  unfold resumed
  split
  · rfl
  · split <;> rfl
/-- ended, joined to the plain machine -/
theorem ended_set (HRES : ResumeOK bd) (hb : IBd rs bd st1) (hd1 : st1.doing = 1) (hf : st1.frames = t :: bl) (hdf : t.defs = []) (e3 : settleI1 (grs rs) bd st1 = some st3) (hg : GoneP w0 bd rb tg fa fo n c rs { st1 with frames := bl } gl rgb fz t W) :
    Calls Try.prog 91 #[.pointer (some ⟨rb, 0, none⟩), .pointer (some ⟨fz, 0, none⟩)] W fun e w' => e = .returned (.tuple #[]) ∧ ∃ gl2, IRunX w0 bd rb tg fa fo n c rs st3 gl2 rgb w' := by
  have hd3 : st1.doing ≠ 3 := by omega
  have hfl := hb.frames
  rw [hf] at hfl
  simp only [List.length_cons] at hfl
  have hev : st1.evs.length ≤ 1048577 := by have := hb.evs; omega
  have hpl : st1.panics.length ≤ 1048577 := by have := hb.pans; omega
  obtain ⟨r, hr⟩ := hb.fn t (by rw [hf]; exact List.mem_cons_self)
  unfold settleI1 at e3
  rw [hf] at e3
  simp only [hdf, hd1, if_true] at e3
  have c1 := hg.c1
  by_cases y0 : t.why = 0
  · rw [if_pos y0] at e3
    injection e3 with e3
    subst e3
    rw [y0] at c1
    exact (ended_first hg.run hd3 hev hg.lt c1).mono fun e w' ⟨he, h⟩ => ⟨he, gl, by rw [hd1] at *; exact h⟩
  rw [if_neg y0] at e3
  by_cases y1 : t.why = 1
  · rw [if_pos y1] at e3
    rw [y1] at c1
    cases hbl : bl with
    | nil => rw [hbl] at e3; cases e3
    | cons b bl' =>
      subst hbl
      simp only [] at e3
      obtain ⟨fb, gl', rfl⟩ : ∃ fb gl', gl = fb :: gl' := by
        obtain ⟨g, ow, hR, hgl, _⟩ := hg.run
        have := hR.frames.len
        cases hgs : g.gs with
        | nil => rw [hgs] at this; cases this
        | cons x xs => rw [hgs] at hgl; exact ⟨_, _, hgl.symm⟩
      have hst3 : st3 = { resumed (grs rs) bd { st1 with frames := b :: bl' } t b bl' with doing := 0 } := by
        unfold resumed
        by_cases hbd : bd = true
        · rw [if_pos hbd] at e3 ⊢
          injection e3 with e3
          exact e3.symm
        · rw [if_neg hbd] at e3 ⊢
          have hbf : bd = false := by simpa using hbd
          by_cases ha : b.answer = -1
          · rw [if_pos ha] at e3 ⊢
            injection e3 with e3
            exact e3.symm
          · rw [if_neg ha] at e3 ⊢
            injection e3 with e3
            rw [hbf] at e3
            exact e3.symm
      rw [hst3]
      refine (ended_called (st := { st1 with frames := b :: bl' }) (st2 := resumed (grs rs) bd { st1 with frames := b :: bl' } t b bl') hg.run rfl hb.hid (by rw [resumed_doing]; exact hd3) (by simp only [List.length_cons] at hfl; omega) hg.lt c1 fun W' hW => ?_).mono fun e w' ⟨he, h⟩ => ⟨he, _, h⟩
      exact HRES w0 W' rb tg fa fo n c rgb rs _ gl' fb fz t b bl' r (hg.run.on hW) rfl hd3 hr (fun hbf => hb.ans hbf t b bl' hf y1) (Nat.lt_of_lt_of_le hg.lt hW.size) ((hW.cell (p := ⟨fz, 0, none⟩) hg.lt).trans hg.c0) ((hW.cell (p := ⟨fz, 6, none⟩) hg.lt).trans hg.c6)
  rw [if_neg y1] at e3
  by_cases y2 : t.why = 2
  · rw [if_pos y2] at e3
    injection e3 with e3
    subst e3
    rw [y2] at c1
    exact (ended_deferred hg.run hg.lt c1).mono fun e w' ⟨he, h⟩ => ⟨he, gl, by rw [hd1] at *; exact h⟩
  rw [if_neg y2] at e3
  have y3 : t.why = 3 := by have := hb.why t (by rw [hf]; exact List.mem_cons_self); omega
  rw [y3] at c1
  cases hp : st1.panics with
  | nil => rw [hp] at e3; cases e3
  | cons p ps =>
    obtain ⟨v, rc⟩ := p
    rw [hp] at e3 hpl
    simp only [List.length_cons] at hpl
    cases rc with
    | false =>
      simp only [] at e3
      injection e3 with e3
      subst e3
      refine ended_panic hg.lt c1 ((returned_no v ps hg.run hp hd3 (by omega)).mono fun e w' ⟨he, h⟩ => ⟨he, gl, ?_⟩)
      rw [← hp]
      exact h
    | true =>
      cases hbl : bl with
      | nil => rw [hbl] at e3; cases e3
      | cons b bl' =>
        subst hbl
        simp only [] at e3
        injection e3 with e3
        subst e3
        obtain ⟨fb, gl', rfl⟩ : ∃ fb gl', gl = fb :: gl' := by
          obtain ⟨g, ow, hR, hgl, _⟩ := hg.run
          have := hR.frames.len
          cases hgs : g.gs with
          | nil => rw [hgs] at this; cases this
          | cons x xs => rw [hgs] at hgl; exact ⟨_, _, hgl.symm⟩
        obtain ⟨rb', hrb⟩ := hb.fn b (by rw [hf]; simp)
        simp only [List.length_cons] at hfl
        refine ended_panic hg.lt c1 ((returned_yes v ps hg.run rfl hb.hid hrb hp hd3 (by omega) (by omega)).mono fun e w' ⟨he, h⟩ => ⟨he, fb :: gl', ?_⟩)
        rw [hd1] at *
        exact h
/-- passed, joined to the plain machine -/
theorem passed_set (hb : IBd rs bd st1) (hd2 : st1.doing = 2) (hf : st1.frames = t :: bl) (hdf : t.defs = []) (e3 : settleI1 (grs rs) bd st1 = some st3) (hg : GoneP w0 bd rb tg fa fo n c rs { st1 with frames := bl } gl rgb fz t W) :
    Calls Try.prog 92 #[.pointer (some ⟨rb, 0, none⟩), .pointer (some ⟨fz, 0, none⟩)] W fun e w' => e = .returned (.tuple #[]) ∧ ∃ gl2, IRunX w0 bd rb tg fa fo n c rs st3 gl2 rgb w' := by
  have hd3 : st1.doing ≠ 3 := by omega
  have hfl := hb.frames
  rw [hf] at hfl
  simp only [List.length_cons] at hfl
  have hev : st1.evs.length ≤ 1048577 := by have := hb.evs; omega
  have hpl : st1.panics.length ≤ 1048576 := hb.pans
  have hn1 : ¬ st1.doing = 1 := by omega
  unfold settleI1 at e3
  rw [hf] at e3
  simp only [hdf] at e3
  rw [if_neg hn1] at e3
  have c1 := hg.c1
  by_cases y3 : t.why = 3
  · rw [if_pos y3] at e3
    rw [y3] at c1
    rcases hp : st1.panics with _ | ⟨p, _ | ⟨p2, ps⟩⟩
    · rw [hp] at e3; cases e3
    · rw [hp] at e3; cases e3
    · rw [hp] at e3 hpl
      simp only [List.length_cons] at hpl e3
      refine passed_panic hg.run hb.hid hp hd3 (by omega) (by show bl.length ≤ _; omega) hev hg.lt c1 (fun hne w' h => ⟨gl, ?_⟩) fun he w' h => ⟨gl, ?_⟩
      · cases hbl : bl with
        | nil => exact absurd hbl hne
        | cons b bl' =>
          rw [hbl] at e3 h
          simp only [] at e3
          injection e3 with e3
          rw [← e3]
          exact h
      · have he' : bl = [] := he
        rw [he'] at e3 h
        simp only [] at e3
        injection e3 with e3
        rw [← e3]
        exact h
  · rw [if_neg y3] at e3
    simp only [] at e3
    cases hbl : bl with
    | nil =>
      rw [hbl] at e3 hg
      simp only [] at e3
      cases hp : st1.panics with
      | nil => rw [hp] at e3; cases e3
      | cons p ps =>
        rw [hp] at e3 hpl
        simp only [List.length_cons] at e3 hpl
        injection e3 with e3
        refine (passed_end t.why hg.run hb.hid rfl hp hd3 (by omega) hev hg.lt c1 (by omega)).mono fun e w' ⟨he, h⟩ => ⟨he, gl, ?_⟩
        rw [← e3, ← hp]
        exact h
    | cons b bl' =>
      rw [hbl] at e3 hg
      simp only [] at e3
      injection e3 with e3
      refine (passed_go t.why hg.run hb.hid rfl (by rw [hbl] at hfl; simp only [List.length_cons] at hfl; omega) hg.lt c1 (by omega)).mono fun e w' ⟨he, h⟩ => ⟨he, gl, ?_⟩
      rw [← e3]
      exact h
end
end Go.Proofs.Ytlnccpojldiogaa

/-
  Package irun: settle, joined to the plain machine.
-/
namespace Go.Proofs.Ytlnccpojldiogaa
set_option linter.unusedVariables false
set_option linter.unusedSimpArgs false
open Go.ChangeShapes Go.WideShapes Go.ChangeAt Go.RowKit

section
variable {w0 W W' : World} {ow ow' : Nat → Nat} {ex : Nat → Prop} {bd : Bool} {base rb tg fa fo rgb n c k : Nat} {rs : List RG} {st st' st1 st2 st3 : IMc} {g g' : IRG} {t t' u : IFr} {bl : List IFr} {gl : List Nat} {fb b o fz : Nat} {r : RG} {p x : Int} {d : IDf} {ds : List IDf} {ps : List (Int × Bool)}
/-- a run and all that settle makes of it keep the bounds -/
def IBds (rs : List RG) (bd : Bool) : Nat → IMc → Prop
  | 0, _ => True
  | n + 1, st => IBd rs bd st ∧ ∀ st', settleI1 (grs rs) bd st = some st' → IBds rs bd n st'
theorem IRunX.uncons (h : IRunX w0 bd rb tg fa fo n c rs st gl rgb W) (hf : st.frames = t :: bl) : ∃ fb gl', gl = fb :: gl' := by
  obtain ⟨g, ow, hR, hgl, _⟩ := h
  have := hR.frames.len
  rw [hf] at this
  cases hgs : g.gs with
  | nil => rw [hgs] at this; cases this
  | cons x xs => rw [hgs] at hgl; exact ⟨_, _, hgl.symm⟩
theorem GoneP.on (h : GoneP w0 bd rb tg fa fo n c rs st gl rgb fz t W) (hb : Below W.heap.size W W') : GoneP w0 bd rb tg fa fo n c rs st gl rgb fz t W' :=
  ⟨h.run.on hb, Nat.lt_of_lt_of_le h.lt hb.size, (hb.cell (p := ⟨fz, 0, none⟩) h.lt).trans h.c0, (hb.cell (p := ⟨fz, 1, none⟩) h.lt).trans h.c1, (hb.cell (p := ⟨fz, 6, none⟩) h.lt).trans h.c6⟩
set_option maxRecDepth 100000 in
set_option maxHeartbeats 16000000 in
theorem settle_any (HRES : ResumeOK bd) (N : Nat) (hset : settleI (grs rs) bd N st = some st2) (hrn : IBds rs bd N st) (h : IRunX w0 bd rb tg fa fo n c rs st gl rgb W) :
    Calls Try.prog 47 #[.pointer (some ⟨rb, 0, none⟩)] W fun e w' => e = .returned (.tuple #[]) ∧ ∃ gl', IRunX w0 bd rb tg fa fo n c rs st2 gl' rgb w' := by
  have HS := Lib.hid hset
  have HR := Lib.hid hrn
  have H := Lib.hid h
  have HRES := Lib.hid HRES
  have hbms := body_m bd
  have hnbs := nbody_m bd
  clear hset hrn h
  cases bd
  · simp only [ptrI, ifrP, Bool.false_eq_true, if_false, if_true] at hbms hnbs
    go_enter Try.func47, Try.ntmps47
    go_wp2
    go_loopg [] N (fun gk wr => ∃ st1 gl1, Hid (IRunX w0 false rb tg fa fo n c rs st1 gl1 rgb wr) ∧ Hid (settleI (grs rs) false gk st1 = some st2) ∧ Hid (IBds rs false gk st1))
    case atStart => exact ⟨st, gl, H, HS, HR⟩
    case round =>
      clear HS HR H
      obtain ⟨st1, gl1, H, HS, HR⟩ := hrel
      obtain ⟨m, rfl⟩ : ∃ m, gk = m + 1 := by
        cases gk with
        | zero => exact absurd HS.out (by simp [settleI])
        | succ m => exact ⟨m, rfl⟩
      have hs := HS.out
      rw [settleI] at hs
      obtain ⟨hrz, d7, _, _, _⟩ := H.out.cells8
      by_cases hdo : st1.doing = 1 ∨ st1.doing = 2
      · rw [if_pos hdo] at hs
        obtain ⟨st3, e3, e4⟩ := Option.bind_eq_some_iff.1 hs
        obtain ⟨hn, hnx⟩ := HR.out
        have HR3 := Lib.hid (hnx st3 e3)
        have HS3 := Lib.hid e4
        have HN := Lib.hid hn
        obtain ⟨t, bl, hf⟩ : ∃ t bl, st1.frames = t :: bl := by
          cases hx : st1.frames with
          | nil => unfold settleI1 at e3; rw [hx] at e3; cases e3
          | cons t bl => exact ⟨t, bl, rfl⟩
        obtain ⟨fb, gl', rfl⟩ := H.out.uncons hf
        have hd3 : st1.doing ≠ 3 := by omega
        have hfl : bl.length + 1 ≤ 1048576 := by have := hn.frames; rw [hf] at this; simpa using this
        have htm : t ∈ st1.frames := by rw [hf]; exact List.mem_cons_self
        have hfb := (H.out.top8 hf 0).1
        have HT := Lib.hid (last_any H.out hf hn.hid (by omega))
        simp only [ifrP, Bool.false_eq_true, if_false, if_true] at HT
        have hbm := hbms fb
        have hnb := hnbs fb
        cases hdf : t.defs with
        | nil =>
          have HU : Hid (∀ W', Below wr.heap.size wr W' → Calls Try.prog 89 #[.pointer (some ⟨rb, 0, none⟩), .pointer (some ⟨fb, 0, none⟩)] W' fun e w' => e = .returned (.tuple #[.agg #[.int .i64 0, .slice none 0 0], .bool false]) ∧ IRunX w0 false rb tg fa fo n c rs st1 (fb :: gl') rgb w') := Lib.hid fun W' hb => undefer_none (H.out.on hb) hf hdf
          obtain ⟨bm, hbm1⟩ : ∃ bm, bm = bl.length := ⟨_, rfl⟩
          rw [← hbm1] at hfl
          obtain ⟨sP, hsP⟩ : ∃ s, s = ({ st1 with frames := bl } : IMc) := ⟨_, rfl⟩
          have HPOP : Hid (∀ W', IRunX w0 false rb tg fa fo n c rs st1 (fb :: gl') rgb W' → ∃ q cq, W'.cell? ⟨rb, 3, none⟩ = some (.slice (some ⟨q, 0, none⟩) (bm + 1) cq) ∧ bm + 1 ≤ cq ∧ W'.frozen? ⟨rb, 3, none⟩ = false ∧ rb < W'.heap.size ∧ Hid (GoneP w0 false rb tg fa fo n c rs sP gl' rgb fb t (W'.setCell ⟨rb, 3, none⟩ (.slice (some ⟨q, 0, none⟩) bm cq)))) := Lib.hid fun W' h' => by
            rw [hbm1, hsP]
            exact h'.popFrm hf hn.hid hd3
          have HEND : Hid (∀ W', st1.doing = 1 → GoneP w0 false rb tg fa fo n c rs sP gl' rgb fb t W' → Calls Try.prog 91 #[.pointer (some ⟨rb, 0, none⟩), .pointer (some ⟨fb, 0, none⟩)] W' fun e w' => e = .returned (.tuple #[]) ∧ ∃ gl2, IRunX w0 false rb tg fa fo n c rs st3 gl2 rgb w') := Lib.hid fun W' hd1 hg => by
            rw [hsP] at hg
            exact ended_set HRES.out hn hd1 hf hdf e3 hg
          have HPAS : Hid (∀ W', st1.doing = 2 → GoneP w0 false rb tg fa fo n c rs sP gl' rgb fb t W' → Calls Try.prog 92 #[.pointer (some ⟨rb, 0, none⟩), .pointer (some ⟨fb, 0, none⟩)] W' fun e w' => e = .returned (.tuple #[]) ∧ ∃ gl2, IRunX w0 false rb tg fa fo n c rs st3 gl2 rgb w') := Lib.hid fun W' hd1 hg => by
            rw [hsP] at hg
            exact passed_set hn hd1 hf hdf e3 hg
          obtain ⟨dv, hdv⟩ : ∃ dv, dv = st1.doing := ⟨_, rfl⟩
          have HD7 : Hid (∀ W', IRunX w0 false rb tg fa fo n c rs st1 (fb :: gl') rgb W' → rb < W'.heap.size ∧ W'.cell? ⟨rb, 7, none⟩ = some (.int .i64 dv)) := Lib.hid fun W' h' => by
            rw [hdv]
            exact ⟨h'.cells8.1, h'.cells8.2.1⟩
          rw [← hdv] at d7 hdo HEND HPAS
          have bm1 : ((bm : Int) + 1) - 1 = (bm : Int) := by omega
          clear H HS HR hs e3 e4 hn hnx hf hd3 htm hdf hdv hbm1 hsP
          rcases hdo with rfl | rfl
          all_goals
            first
              | (have HE2 := Lib.hid (fun W' => HEND.out W' rfl))
              | (have HE2 := Lib.hid (fun W' => HPAS.out W' rfl))
            clear HEND HPAS
            go_wp2_with (first
              | (go_at_call 45; refine HT.out.mono ?_; rintro e w2 ⟨rfl, hb2⟩; have HB2 := Lib.hid hb2; clear hb2)
              | (go_at_call 203; refine (body_any fb _).mono ?_; rintro e w3 ⟨rfl, rfl⟩)
              | (go_at_call 89; refine (HU.out _ HB2.out).mono ?_; rintro e w4 ⟨rfl, h4⟩; have H4 := Lib.hid (h4.on ((Below.refl _ _).alloc (Nat.le_refl _) (.cells #[.int .i64 0, .slice none 0 0] 98))); clear h4))
            obtain ⟨q5, cq5, z3, zc, zf, zr, HG⟩ := HPOP.out _ H4.out
            have z7 := (HD7.out _ H4.out).2
            go_region
            go_wp2_with (first
              | (go_at_call 91; refine (HE2.out _ (HG.out.on (Below.refl _ _).drew)).mono ?_; rintro e w6 ⟨rfl, gl6, h6⟩; have H6 := Lib.hid h6; clear h6)
              | (go_at_call 92; refine (HE2.out _ (HG.out.on (Below.refl _ _).drew)).mono ?_; rintro e w6 ⟨rfl, gl6, h6⟩; have H6 := Lib.hid h6; clear h6))
            go_roundg m
            case measure => omega
            case rel => exact ⟨st3, gl6, H6, HS3, HR3⟩
        | cons d ds =>
          obtain ⟨r, hr, hargl⟩ := hn.args t htm d (by rw [hdf]; exact List.mem_cons_self)
          obtain ⟨hw0, hst3⟩ : 0 < st1.waiting ∧ st3 = ({ st1.top { t with defs := ds } bl with waiting := st1.waiting - 1 } : IMc).begin (grs rs) false (if st1.doing = 1 then 2 else 3) d.fn d.args := by
            unfold settleI1 at e3
            rw [hf] at e3
            simp only [hdf] at e3
            by_cases hc : 0 < st1.waiting
            · rw [if_pos hc] at e3
              injection e3 with e3
              exact ⟨hc, e3.symm⟩
            · rw [if_neg hc] at e3; cases e3
          have hdl := hn.defs t htm
          rw [hdf] at hdl
          simp only [List.length_cons] at hdl
          have hvl : valid (grs rs) false := by
            obtain ⟨g, ow, hR, _⟩ := H.out
            exact hR.val
          have hfn := fn_small hvl hr
          have HU : Hid (∀ W', Below wr.heap.size wr W' → Calls Try.prog 89 #[.pointer (some ⟨rb, 0, none⟩), .pointer (some ⟨fb, 0, none⟩)] W' fun e w' => ∃ AA cA, e = .returned (.tuple #[.agg #[.int .i64 d.fn, .slice AA d.args.length cA], .bool true]) ∧ d.args.length ≤ cA ∧ (AA = none → d.args.length = 0) ∧ IRunA w0 false rb tg fa fo n c rs { st1.top { t with defs := ds } bl with waiting := st1.waiting - 1 } (fb :: gl') rgb AA d.args.length d.args w') := Lib.hid fun W' hb => undefer_some (H.out.on hb) hf hdf hd3 (by omega) hw0 (by have := hn.waiting; omega) (by omega)
          have HC : Hid (∀ W' AA cA, d.args.length ≤ cA → (AA = none → d.args.length = 0) → IRunA w0 false rb tg fa fo n c rs { st1.top { t with defs := ds } bl with waiting := st1.waiting - 1 } (fb :: gl') rgb AA d.args.length d.args W' → Calls Try.prog 90 #[.pointer (some ⟨rb, 0, none⟩), .agg #[.int .i64 d.fn, .slice AA d.args.length cA]] W' fun e w' => e = .returned (.tuple #[]) ∧ ∃ gl', IRunX w0 false rb tg fa fo n c rs st3 gl' rgb w') := Lib.hid fun W' AA cA a1 a2 a3 => by
            rw [hst3]
            exact (invokeDeferred_any AA cA a3 hdo hn.kb hn.hid hr hargl (by show bl.length + 1 ≤ _; exact hfl) hn.depth (by have := hn.begun; show st1.begun ≤ _; omega) a1 a2).mono fun e w' ⟨he, fb2, h2⟩ => ⟨he, _, h2⟩
          obtain ⟨kf, hkf⟩ : ∃ k, k = d.fn := ⟨_, rfl⟩
          obtain ⟨p, hp⟩ : ∃ k, k = d.args.length := ⟨_, rfl⟩
          rw [← hkf, ← hp] at HU HC
          obtain ⟨dv, hdv⟩ : ∃ v, v = st1.doing := ⟨_, rfl⟩
          rw [← hdv] at d7 hdo
          clear H HS HR hs e3 e4 hn hnx hf hd3 hfl htm hdf hr hargl hw0 hst3 hdl hvl hfn hkf hp hdv
          rcases hdo with rfl | rfl
          all_goals
            go_wp2_with (first
              | (go_at_call 45; refine HT.out.mono ?_; rintro e w2 ⟨rfl, hb2⟩; have HB2 := Lib.hid hb2; clear hb2)
              | (go_at_call 203; refine (body_any fb _).mono ?_; rintro e w3 ⟨rfl, rfl⟩)
              | (go_at_call 89; refine (HU.out _ HB2.out).mono ?_; rintro e w4 ⟨AA, cA, rfl, hpc, hpz, h4⟩; have HPZ := Lib.hid hpz; have H4 := Lib.hid (h4.on ((Below.refl _ _).alloc (Nat.le_refl _) (.cells #[.int .i64 kf, .slice AA p cA] 98))); clear h4 hpz)
              | (go_at_call 90; refine (HC.out _ AA cA hpc HPZ.out H4.out).mono ?_; rintro e w6 ⟨rfl, gl6, h6⟩; have H6 := Lib.hid h6; clear h6))
            go_roundg m
            case measure => omega
            case rel => exact ⟨st3, gl6, H6, HS3, HR3⟩
      · rw [if_neg hdo] at hs
        injection hs with hs
        subst hs
        have g1 : (st1.doing == 1) = false := by simp; omega
        have g2 : (st1.doing == 2) = false := by simp; omega
        clear HS HR
        go_wp2
        go_end0
        exact ⟨rfl, gl1, H.out⟩
  · simp only [ptrI, ifrP, Bool.false_eq_true, if_false, if_true] at hbms hnbs
    go_enter Try.func47, Try.ntmps47
    go_wp2
    go_loopg [] N (fun gk wr => ∃ st1 gl1, Hid (IRunX w0 true rb tg fa fo n c rs st1 gl1 rgb wr) ∧ Hid (settleI (grs rs) true gk st1 = some st2) ∧ Hid (IBds rs true gk st1))
    case atStart => exact ⟨st, gl, H, HS, HR⟩
    case round =>
      clear HS HR H
      obtain ⟨st1, gl1, H, HS, HR⟩ := hrel
      obtain ⟨m, rfl⟩ : ∃ m, gk = m + 1 := by
        cases gk with
        | zero => exact absurd HS.out (by simp [settleI])
        | succ m => exact ⟨m, rfl⟩
      have hs := HS.out
      rw [settleI] at hs
      obtain ⟨hrz, d7, _, _, _⟩ := H.out.cells8
      by_cases hdo : st1.doing = 1 ∨ st1.doing = 2
      · rw [if_pos hdo] at hs
        obtain ⟨st3, e3, e4⟩ := Option.bind_eq_some_iff.1 hs
        obtain ⟨hn, hnx⟩ := HR.out
        have HR3 := Lib.hid (hnx st3 e3)
        have HS3 := Lib.hid e4
        have HN := Lib.hid hn
        obtain ⟨t, bl, hf⟩ : ∃ t bl, st1.frames = t :: bl := by
          cases hx : st1.frames with
          | nil => unfold settleI1 at e3; rw [hx] at e3; cases e3
          | cons t bl => exact ⟨t, bl, rfl⟩
        obtain ⟨fb, gl', rfl⟩ := H.out.uncons hf
        have hd3 : st1.doing ≠ 3 := by omega
        have hfl : bl.length + 1 ≤ 1048576 := by have := hn.frames; rw [hf] at this; simpa using this
        have htm : t ∈ st1.frames := by rw [hf]; exact List.mem_cons_self
        have hfb := (H.out.top8 hf 0).1
        have HT := Lib.hid (last_any H.out hf hn.hid (by omega))
        simp only [ifrP, Bool.false_eq_true, if_false, if_true] at HT
        have hbm := hbms fb
        have hnb := hnbs fb
        cases hdf : t.defs with
        | nil =>
          have HU : Hid (∀ W', Below wr.heap.size wr W' → Calls Try.prog 89 #[.pointer (some ⟨rb, 0, none⟩), .pointer (some ⟨fb, 0, none⟩)] W' fun e w' => e = .returned (.tuple #[.agg #[.int .i64 0, .slice none 0 0], .bool false]) ∧ IRunX w0 true rb tg fa fo n c rs st1 (fb :: gl') rgb w') := Lib.hid fun W' hb => undefer_none (H.out.on hb) hf hdf
          obtain ⟨bm, hbm1⟩ : ∃ bm, bm = bl.length := ⟨_, rfl⟩
          rw [← hbm1] at hfl
          obtain ⟨sP, hsP⟩ : ∃ s, s = ({ st1 with frames := bl } : IMc) := ⟨_, rfl⟩
          have HPOP : Hid (∀ W', IRunX w0 true rb tg fa fo n c rs st1 (fb :: gl') rgb W' → ∃ q cq, W'.cell? ⟨rb, 3, none⟩ = some (.slice (some ⟨q, 0, none⟩) (bm + 1) cq) ∧ bm + 1 ≤ cq ∧ W'.frozen? ⟨rb, 3, none⟩ = false ∧ rb < W'.heap.size ∧ Hid (GoneP w0 true rb tg fa fo n c rs sP gl' rgb fb t (W'.setCell ⟨rb, 3, none⟩ (.slice (some ⟨q, 0, none⟩) bm cq)))) := Lib.hid fun W' h' => by
            rw [hbm1, hsP]
            exact h'.popFrm hf hn.hid hd3
          have HEND : Hid (∀ W', st1.doing = 1 → GoneP w0 true rb tg fa fo n c rs sP gl' rgb fb t W' → Calls Try.prog 91 #[.pointer (some ⟨rb, 0, none⟩), .pointer (some ⟨fb, 0, none⟩)] W' fun e w' => e = .returned (.tuple #[]) ∧ ∃ gl2, IRunX w0 true rb tg fa fo n c rs st3 gl2 rgb w') := Lib.hid fun W' hd1 hg => by
            rw [hsP] at hg
            exact ended_set HRES.out hn hd1 hf hdf e3 hg
          have HPAS : Hid (∀ W', st1.doing = 2 → GoneP w0 true rb tg fa fo n c rs sP gl' rgb fb t W' → Calls Try.prog 92 #[.pointer (some ⟨rb, 0, none⟩), .pointer (some ⟨fb, 0, none⟩)] W' fun e w' => e = .returned (.tuple #[]) ∧ ∃ gl2, IRunX w0 true rb tg fa fo n c rs st3 gl2 rgb w') := Lib.hid fun W' hd1 hg => by
            rw [hsP] at hg
            exact passed_set hn hd1 hf hdf e3 hg
          obtain ⟨dv, hdv⟩ : ∃ dv, dv = st1.doing := ⟨_, rfl⟩
          have HD7 : Hid (∀ W', IRunX w0 true rb tg fa fo n c rs st1 (fb :: gl') rgb W' → rb < W'.heap.size ∧ W'.cell? ⟨rb, 7, none⟩ = some (.int .i64 dv)) := Lib.hid fun W' h' => by
            rw [hdv]
            exact ⟨h'.cells8.1, h'.cells8.2.1⟩
          rw [← hdv] at d7 hdo HEND HPAS
          have bm1 : ((bm : Int) + 1) - 1 = (bm : Int) := by omega
          clear H HS HR hs e3 e4 hn hnx hf hd3 htm hdf hdv hbm1 hsP
          rcases hdo with rfl | rfl
          all_goals
            first
              | (have HE2 := Lib.hid (fun W' => HEND.out W' rfl))
              | (have HE2 := Lib.hid (fun W' => HPAS.out W' rfl))
            clear HEND HPAS
            go_wp2_with (first
              | (go_at_call 45; refine HT.out.mono ?_; rintro e w2 ⟨rfl, hb2⟩; have HB2 := Lib.hid hb2; clear hb2)
              | (go_at_call 203; refine (body_any fb _).mono ?_; rintro e w3 ⟨rfl, rfl⟩)
              | (go_at_call 89; refine (HU.out _ HB2.out).mono ?_; rintro e w4 ⟨rfl, h4⟩; have H4 := Lib.hid (h4.on ((Below.refl _ _).alloc (Nat.le_refl _) (.cells #[.int .i64 0, .slice none 0 0] 98))); clear h4))
            obtain ⟨q5, cq5, z3, zc, zf, zr, HG⟩ := HPOP.out _ H4.out
            have z7 := (HD7.out _ H4.out).2
            go_region
            go_wp2_with (first
              | (go_at_call 91; refine (HE2.out _ (HG.out.on (Below.refl _ _).drew)).mono ?_; rintro e w6 ⟨rfl, gl6, h6⟩; have H6 := Lib.hid h6; clear h6)
              | (go_at_call 92; refine (HE2.out _ (HG.out.on (Below.refl _ _).drew)).mono ?_; rintro e w6 ⟨rfl, gl6, h6⟩; have H6 := Lib.hid h6; clear h6))
            go_roundg m
            case measure => omega
            case rel => exact ⟨st3, gl6, H6, HS3, HR3⟩
        | cons d ds =>
          obtain ⟨r, hr, hargl⟩ := hn.args t htm d (by rw [hdf]; exact List.mem_cons_self)
          obtain ⟨hw0, hst3⟩ : 0 < st1.waiting ∧ st3 = ({ st1.top { t with defs := ds } bl with waiting := st1.waiting - 1 } : IMc).begin (grs rs) true (if st1.doing = 1 then 2 else 3) d.fn d.args := by
            unfold settleI1 at e3
            rw [hf] at e3
            simp only [hdf] at e3
            by_cases hc : 0 < st1.waiting
            · rw [if_pos hc] at e3
              injection e3 with e3
              exact ⟨hc, e3.symm⟩
            · rw [if_neg hc] at e3; cases e3
          have hdl := hn.defs t htm
          rw [hdf] at hdl
          simp only [List.length_cons] at hdl
          have hvl : valid (grs rs) true := by
            obtain ⟨g, ow, hR, _⟩ := H.out
            exact hR.val
          have hfn := fn_small hvl hr
          have HU : Hid (∀ W', Below wr.heap.size wr W' → Calls Try.prog 89 #[.pointer (some ⟨rb, 0, none⟩), .pointer (some ⟨fb, 0, none⟩)] W' fun e w' => ∃ AA cA, e = .returned (.tuple #[.agg #[.int .i64 d.fn, .slice AA d.args.length cA], .bool true]) ∧ d.args.length ≤ cA ∧ (AA = none → d.args.length = 0) ∧ IRunA w0 true rb tg fa fo n c rs { st1.top { t with defs := ds } bl with waiting := st1.waiting - 1 } (fb :: gl') rgb AA d.args.length d.args w') := Lib.hid fun W' hb => undefer_some (H.out.on hb) hf hdf hd3 (by omega) hw0 (by have := hn.waiting; omega) (by omega)
          have HC : Hid (∀ W' AA cA, d.args.length ≤ cA → (AA = none → d.args.length = 0) → IRunA w0 true rb tg fa fo n c rs { st1.top { t with defs := ds } bl with waiting := st1.waiting - 1 } (fb :: gl') rgb AA d.args.length d.args W' → Calls Try.prog 90 #[.pointer (some ⟨rb, 0, none⟩), .agg #[.int .i64 d.fn, .slice AA d.args.length cA]] W' fun e w' => e = .returned (.tuple #[]) ∧ ∃ gl', IRunX w0 true rb tg fa fo n c rs st3 gl' rgb w') := Lib.hid fun W' AA cA a1 a2 a3 => by
            rw [hst3]
            exact (invokeDeferred_any AA cA a3 hdo hn.kb hn.hid hr hargl (by show bl.length + 1 ≤ _; exact hfl) hn.depth (by have := hn.begun; show st1.begun ≤ _; omega) a1 a2).mono fun e w' ⟨he, fb2, h2⟩ => ⟨he, _, h2⟩
          obtain ⟨kf, hkf⟩ : ∃ k, k = d.fn := ⟨_, rfl⟩
          obtain ⟨p, hp⟩ : ∃ k, k = d.args.length := ⟨_, rfl⟩
          rw [← hkf, ← hp] at HU HC
          obtain ⟨dv, hdv⟩ : ∃ v, v = st1.doing := ⟨_, rfl⟩
          rw [← hdv] at d7 hdo
          clear H HS HR hs e3 e4 hn hnx hf hd3 hfl htm hdf hr hargl hw0 hst3 hdl hvl hfn hkf hp hdv
          rcases hdo with rfl | rfl
          all_goals
            go_wp2_with (first
              | (go_at_call 45; refine HT.out.mono ?_; rintro e w2 ⟨rfl, hb2⟩; have HB2 := Lib.hid hb2; clear hb2)
              | (go_at_call 203; refine (body_any fb _).mono ?_; rintro e w3 ⟨rfl, rfl⟩)
              | (go_at_call 89; refine (HU.out _ HB2.out).mono ?_; rintro e w4 ⟨AA, cA, rfl, hpc, hpz, h4⟩; have HPZ := Lib.hid hpz; have H4 := Lib.hid (h4.on ((Below.refl _ _).alloc (Nat.le_refl _) (.cells #[.int .i64 kf, .slice AA p cA] 98))); clear h4 hpz)
              | (go_at_call 90; refine (HC.out _ AA cA hpc HPZ.out H4.out).mono ?_; rintro e w6 ⟨rfl, gl6, h6⟩; have H6 := Lib.hid h6; clear h6))
            go_roundg m
            case measure => omega
            case rel => exact ⟨st3, gl6, H6, HS3, HR3⟩
      · rw [if_neg hdo] at hs
        injection hs with hs
        subst hs
        have g1 : (st1.doing == 1) = false := by simp; omega
        have g2 : (st1.doing == 2) = false := by simp; omega
        clear HS HR
        go_wp2
        go_end0
        exact ⟨rfl, gl1, H.out⟩
end
end Go.Proofs.Ytlnccpojldiogaa

/-
  Package irun: a trace made; a run at its beginning; steps, as long as there is fuel.
-/
namespace Go.Proofs.Ytlnccpojldiogaa
set_option linter.unusedVariables false
set_option linter.unusedSimpArgs false
open Go.ChangeShapes Go.WideShapes Go.ChangeAt Go.RowKit

set_option maxHeartbeats 800000 in
theorem clone_u64 (B : Nat) (ao : Option Addr) (n c : Nat) (xs : List Int) (w : World) (h : Reads w B 1 ao n (u64c xs)) (hB : B ≤ w.heap.size) (hr : n * 8 ≤ 140737488355328) :
    Calls Try.prog 43 #[.slice ao n c] w fun e w' => ∃ v', e = .returned v' ∧ w'.ownsRow w.heap.size 30 1 v' n (u64c xs) ∧ Below w.heap.size w w' := by
  obtain ⟨i0, hi, hz0, hz1, hz2⟩ := info_parts info_u64'
  have q22 : ∀ (w : World) (a : Option Addr) (n c n' c' : Nat), (binOp .eql 25 (.slice a n c) (.slice none n' c')).run Try.prog w = .ok (.bool a.isNone) w := fun w a n c n' c' => Lib.run_eql_slice_nil w _ _ a n c n' c' Try.underlying25
  have HH := Lib.hid h
  clear h
  cases ao with
  | none =>
    have hn : n = 0 := by
      rcases Nat.eq_zero_or_pos n with h0 | h0
      · exact h0
      · obtain ⟨ad, e, _⟩ := HH.out.2 h0
        cases e
    go_enter Try.func43, Try.ntmps43
    go_wp2
    go_ret
    refine ⟨_, rfl, ?_, Below.refl _ _⟩
    have hl := HH.out.1
    subst hn
    have hx : u64c xs = [] := List.eq_nil_of_length_eq_zero (by simpa using hl)
    rw [hx]
    exact ⟨rfl, .inl ⟨rfl, rfl⟩⟩
  | some ad =>
    go_enter Try.func43, Try.ntmps43
    go_wp2_with (at_builtin; refine wpList_append_any _ rfl _ _ 25 rfl w.heap.size 30 i0 (.int .u64 0) 1 8 Try.underlying25 hi hz0 hz1 hz2 rfl (by decide) _ 0 [] rfl (World.ownsRow_made w #[] 0 (Nat.le_refl _) (Nat.zero_le _) (by simp)) B (some ad) n c (u64c xs) rfl (HH.out.alloc hB _) (u64c_one xs) (by unfold maxLen; omega) (by omega) (by simp) ?_; intro v' w1 hown hgr _)
    go_wp2
    go_ret
    refine ⟨v', rfl, by simpa using hown, ((Below.refl _ _).alloc (Nat.le_refl _) _).grown hgr (by simp) ?_⟩
    intro k hk
    injection hk with hk
    exact Nat.le_of_eq hk
/-- what a new trace is -/
def NewT (w : World) (n : Nat) (tape : List Int) (e : Ending) (w' : World) : Prop := ∃ tg v', e = .returned (.pointer (some ⟨tg, 0, none⟩)) ∧ w.heap.size ≤ tg ∧ w'.ownsRow w.heap.size 30 1 v' n (u64c tape) ∧ Blk w' tg 141 #[v', .slice none 0 0] ∧ Below w.heap.size w w'
set_option maxRecDepth 100000 in
set_option maxHeartbeats 1600000 in
theorem new_any (B : Nat) (ao : Option Addr) (n c : Nat) (tape : List Int) (w : World) (h : Reads w B 1 ao n (u64c tape)) (hB : B ≤ w.heap.size) (hr : n * 8 ≤ 140737488355328) :
    Calls Try.prog 23 #[.slice ao n c] w (NewT w n tape) := by
  have HC := Lib.hid (clone_u64 B ao n c tape w h hB hr)
  clear h
  go_enter Try.func23, Try.ntmps23
  go_wp2_with (first | (go_at_call 43; refine HC.out.mono ?_; rintro e w2 ⟨v', rfl, hown, hb2⟩; obtain ⟨A2, c2, rfl⟩ := own_slice hown; have HO := Lib.hid hown; have HB2 := Lib.hid hb2; clear hown hb2))
  go_ret
  exact ⟨w2.heap.size, _, rfl, HB2.out.size, HO.out.alloc _, Blk.new w2 _ _, HB2.out.alloc HB2.out.size _⟩
/-- what execute does with a node, wherever the run lies -/
def ExecC (rs : List RG) (bd : Bool) (st : IMc) (t : IFr) (bl : List IFr) (nd : RN) (st1 : IMc) : Prop := ∀ (w0 W : World) (rb tg fa fo n c rgb : Nat) (gl : List Nat) (fb b o : Nat), IRunX w0 bd rb tg fa fo n c rs (st.top t bl) (fb :: gl) rgb W → NdAt w0 b o nd → b < w0.heap.size → RdN w0 w0.heap.size nd →
  Calls Try.prog 46 #[.pointer (some ⟨rb, 0, none⟩), ifrV bd fb, .pointer (some ⟨b, o, none⟩)] W fun e w' => e = .returned (.tuple #[]) ∧ ∃ gl', IRunX w0 bd rb tg fa fo n c rs st1 gl' rgb w'
/-- a step that can be walked -/
def StepB (rs : List RG) (bd : Bool) (st st2 : IMc) : Prop := ∃ (t : IFr) (bl : List IFr) (r : RG) (nd : RN) (x : Nat) (st1 : IMc) (N : Nat), st.frames = t :: bl ∧ st.hidn = 0 ∧ rs[t.f]? = some r ∧ r.ns[x]? = some nd ∧ t.at_ = (x : Int) ∧ st.steps ≤ 1048576 ∧ bl.length ≤ 1048577 ∧
  ExecC rs bd { st with steps := st.steps + 1 } { t with at_ := nd.nd.next } bl nd st1 ∧ execI (grs rs) bd { st with steps := st.steps + 1 } { t with at_ := nd.nd.next } bl nd.nd = some st1 ∧ settleI (grs rs) bd N st1 = some st2 ∧ IBds rs bd N st1 ∧ st2.steps = st.steps + 1 ∧ st2.evs.length ≤ 1048577
/-- steps that can be walked, as many as there is fuel, or to the run's end -/
def RunB (rs : List RG) (bd : Bool) : Nat → IMc → IMc → Prop
  | 0, st, st' => st' = st
  | n + 1, st, st' => if st.doing = 3 then st' = st else ∃ st2, StepB rs bd st st2 ∧ RunB rs bd n st2 st'
theorem RunB.over {rs : List RG} {bd : Bool} {n : Nat} {st st' : IMc} (h : RunB rs bd n st st') (hd : st.doing = 3) : st' = st := by
  cases n with
  | zero => exact h
  | succ n => unfold RunB at h; rw [if_pos hd] at h; exact h
def mcI0 (bd : Bool) (tape : List Int) : IMc := ⟨tape, [], [], 0, [], 0, 0, 0, 0, 0, 0, 0, 0, if bd = true then List.replicate 16 0 else [], 0, []⟩
section
variable {w0 W W' : World} {ow ow' : Nat → Nat} {ex : Nat → Prop} {bd : Bool} {base rb tg fa fo rgb n c k : Nat} {rs : List RG} {st st' st1 st2 st3 : IMc} {g g' : IRG} {t t' u : IFr} {bl : List IFr} {gl : List Nat} {fb b o fz : Nat} {r : RG} {p x : Int} {d : IDf} {ds : List IDf} {ps : List (Int × Bool)}
variable {m : Nat} {tape : List Int} {v' : Value}
theorem stepB_any (HRES : ResumeOK bd) (h : IRunX w0 bd rb tg fa fo n c rs st gl rgb W) (hs : StepB rs bd st st2) :
    Calls Try.prog 26 #[.pointer (some ⟨rb, 0, none⟩)] W fun e w' => e = .returned (.tuple #[]) ∧ ∃ gl', IRunX w0 bd rb tg fa fo n c rs st2 gl' rgb w' := by
  obtain ⟨t, bl, r, nd, x, st1, N, hf, h0, hr, hnd, hat, hst, hbl, hex, _, hset, hrn, _⟩ := hs
  obtain ⟨fb, gl', rfl⟩ := h.uncons hf
  obtain ⟨hnl, hrd⟩ : r.gr.nodes.length ≤ 4096 ∧ RdN w0 w0.heap.size nd := by
    obtain ⟨g, ow, hR, _⟩ := h
    obtain ⟨_, _, _, _, _, _, h1, _⟩ := val_head hR.val hr
    have hk : ∀ p : Addr, p.block < w0.heap.size → w0.cell? p = W.cell? p := fun p hp => (hR.below.cell hp).symm
    exact ⟨h1, (((prog_cells hR.prog hr).1).keep hk).nodes.each nd (List.mem_of_getElem? hnd)⟩
  refine step_any (Q1 := fun w => ∃ gl1, IRunX w0 bd rb tg fa fo n c rs st1 gl1 rgb w) (Q := fun w => ∃ gl', IRunX w0 bd rb tg fa fo n c rs st2 gl' rgb w) h hf h0 hr hnd hat hst hbl hnl (fun b o W' hN hb h1 => ?_) fun W' ⟨gl1, h1⟩ => ?_
  · exact hex w0 W' rb tg fa fo n c rgb gl' fb b o h1 hN hb hrd
  · exact settle_any HRES N hset hrn h1
theorem IRunX.start (hb : Below w0.heap.size w0 W) (hp : RdP W w0.heap.size (some ⟨fa, fo, none⟩) n rs) (hvl : valid (grs rs) bd) (ht : Blk W tg 141 #[v', .slice none 0 0]) (hv : W.ownsRow w0.heap.size 30 1 v' m (u64c tape)) (htg : w0.heap.size ≤ tg) (hrb : w0.heap.size ≤ rb)
    (hr : Blk W rb 91 #[.slice (some ⟨fa, fo, none⟩) n c, nfV bd rgb, ptrI tg, .slice none 0 0, .int .u64 0, .slice none 0 0, .int .i64 0, .int .i64 0, .slice none 0 0, .int .i64 0, .int .u64 0, .int .i64 0, .int .i64 0, .int .i64 0, .int .i64 0])
    (hg : bd = true → w0.heap.size ≤ rgb ∧ Blk W rgb 94 (u64c (List.replicate 16 0)).toArray) :
    IRunX w0 bd rb tg fa fo n c rs (mcI0 bd tape) [] rgb W := by
  have hne : tg ≠ rb := ht.ne_ hr (by decide)
  have hg1 : bd = true → rgb ≠ rb ∧ rgb ≠ tg := fun h => ⟨(hg h).2.ne_ hr (by decide), (hg h).2.ne_ ht (by decide)⟩
  obtain ⟨ow, how⟩ : ∃ ow : Nat → Nat, ow = fun i => if i < w0.heap.size then 9 else if i = rb then 0 else if i = tg then 1 else if bd = true ∧ i = rgb then 5 else if v'.ownBlock = some i then 2 else 10 := ⟨_, rfl⟩
  have o9 : ∀ i, i < w0.heap.size → ow i = 9 := fun i hi => by rw [how]; exact if_pos hi
  have o0 : ow rb = 0 := by rw [how]; show (if _ then _ else _) = _; rw [if_neg (by omega), if_pos rfl]
  have o1 : ow tg = 1 := by rw [how]; show (if _ then _ else _) = _; rw [if_neg (by omega), if_neg hne, if_pos rfl]
  have o5 : bd = true → ow rgb = 5 := fun h => by
    have h1 := hg1 h
    have h2 := (hg h).1
    rw [how]
    show (if _ then _ else _) = _
    rw [if_neg (by omega), if_neg h1.1, if_neg h1.2, if_pos ⟨h, rfl⟩]
  have hlen : tape.length = m := by have h1 := hv.1; rw [length_u64c] at h1; omega
  have nn : ∀ (e : TypeId) (s r : Nat), OR W ow w0.heap.size r e s (.slice none 0 0) 0 [] := fun e s r => ⟨own_none _ _ _ _, fun g hg => by cases hg⟩
  refine ⟨⟨.slice none 0 0, .slice none 0 0, .slice none 0 0, v', .slice none 0 0, [], rgb⟩, ow, ⟨⟨hr, o0, hrb⟩, nn _ _ _, trivial, fun h => ⟨⟨by show Blk W rgb _ (u64c (if bd = true then _ else _)).toArray; rw [if_pos h]; exact (hg h).2, o5 h, (hg h).1⟩, by show (if bd = true then _ else _ : List Int).length = 16; rw [if_pos h]; simp⟩, nn _ _ _, ⟨⟨ht, o1, htg⟩, ?_, nn _ _ _⟩, fun _ => rfl, (fun h => by cases h), hp, hvl, hb, o9, fun x hx => by cases hx⟩, rfl, rfl⟩
  rcases hv.2 with ⟨rfl, h0⟩ | ⟨g, cap, cur, rfl, hgg, hgb, hnc, hmx, hcs, htk⟩
  · exact ⟨none, 0, 0, rfl, Nat.le_refl _, Nat.zero_le _, (by show tape.length = 0; omega), fun _ => rfl, fun h => absurd h (by omega)⟩
  · refine ⟨some ⟨g, 0, none⟩, m, cap, rfl, hnc, hmx, hlen, (fun h => by cases h), fun hm => ⟨g, 0, cur, rfl, hgg, ?_, hgb, fun j x hj => ?_⟩⟩
    · have hgB : Blk W g 30 cur := hgb
      have e1 : g ≠ rb := hgB.ne_ hr (by decide)
      have e2 : g ≠ tg := hgB.ne_ ht (by decide)
      have e3 : ¬ (bd = true ∧ g = rgb) := fun h => hgB.ne_ (hg h.1).2 (by decide) h.2
      rw [how]
      show (if _ then _ else _) = _
      rw [if_neg (by omega), if_neg e1, if_neg e2, if_neg e3, if_pos (by rfl)]
    · have hjl : j < tape.length := (List.getElem?_eq_some_iff.1 hj).1
      rw [Nat.zero_add, ← Array.getElem?_toList]
      have h1 : (u64c tape)[j]? = some (.int .u64 x) := u64c_at hj
      rw [← htk, List.getElem?_take, if_pos (by omega)] at h1
      exact h1
theorem IRunX.toA (h : IRunX w0 bd rb tg fa fo n c rs st gl rgb W) : IRunA w0 bd rb tg fa fo n c rs st gl rgb none 0 [] W := by
  obtain ⟨g, ow, h1, h2, h3⟩ := h
  exact ⟨g, ow, h1, h2, h3, Reads.none_, fun ad h => by cases h⟩
/-- the first frame -/
theorem begin_first (h : IRunX w0 bd rb tg fa fo n c rs (mcI0 bd tape) [] rgb W) :
    Calls Try.prog 25 #[.pointer (some ⟨rb, 0, none⟩), .int .i64 0, .agg #[.int .i64 0, .slice none 0 0]] W fun e w' => e = .returned (.tuple #[]) ∧ ∃ fb, IRunX w0 bd rb tg fa fo n c rs (startI (grs rs) bd tape) [fb] rgb w' := by
  have hvl : valid (grs rs) bd := by
    obtain ⟨g, ow, hR, _⟩ := h
    exact hR.val
  obtain ⟨r, hr⟩ : ∃ r, rs[0]? = some r := by
    have h1 := hvl.1.1
    rw [length_grs] at h1
    exact ⟨_, List.getElem?_eq_getElem h1⟩
  have hp : r.gr.params.length = 0 := by
    have h1 := hvl.2.1.1
    unfold grAt grs at h1
    rw [List.getD_eq_getElem?_getD, show (0 : Int).toNat = 0 from rfl, List.getElem?_map, hr] at h1
    exact h1
  have h1 := begin_any (why := 0) (k := 0) (AA := none) (m := 0) (cA := 0) [] h.toA rfl rfl (by show (0 : Int) ≠ 3; decide) hr rfl hp.symm (by show 0 ≤ _; omega) (by show 0 ≤ _; omega) (by show 0 ≤ _; omega) (Nat.le_refl _) (fun _ => rfl)
  exact h1
end
end Go.Proofs.Ytlnccpojldiogaa
