/-
  Texts of one seat, one behind the other: IRet.
-/
import Derived.Test.YtlnccpojldiogaaMBc

/-
  Package irun: ret.
-/
namespace Go.Proofs.Ytlnccpojldiogaa
set_option linter.unusedVariables false
set_option linter.unusedSimpArgs false
open Go.ChangeShapes Go.WideShapes Go.ChangeAt Go.RowKit

section
variable {w0 W W' : World} {bd : Bool} {rb tg fa fo rgb n c k : Nat} {rs : List RG} {st st' : IMc} {t t' : IFr} {bl : List IFr} {gl : List Nat} {fb b o : Nat} {r : RG} {p x : Int} {nd : RN}
theorem IRunX.doing_ (h : IRunX w0 bd rb tg fa fo n c rs st gl rgb W) (d : Int) (h3 : st.doing ≠ 3) (hd : d ≠ 3) : IRunX w0 bd rb tg fa fo n c rs { st with doing := d } gl rgb (W.setCell ⟨rb, 7, none⟩ (.int .i64 d)) := by
  obtain ⟨g, ow, hR, h1, h2⟩ := h
  have k := Kr.set hR.run 7 (.int .i64 d)
  exact ⟨g, ow, hR.part k (ne1 (by omega)) (hR.run.set_ 7 _) (hR.frs.kr k (ne1 (by omega))) (hR.frames.kr k (ne1 (by omega)) fun x h1 h2 => ne1 (by omega)) (fun hb => ⟨(hR.regs hb).1.kr k (ne1 (by omega)), (hR.regs hb).2⟩) (hR.pan.kr k (ne1 (by omega))) (hR.tr.kr k (ne1 (by omega)) (ne1 (by omega)) (ne1 (by omega))) (fun _ => hR.res h3) (fun h => absurd h hd), h1, h2⟩
theorem IRunX.cell7 (h : IRunX w0 bd rb tg fa fo n c rs st gl rgb W) : rb < W.heap.size ∧ W.cell? ⟨rb, 7, none⟩ = some (.int .i64 st.doing) ∧ W.frozen? ⟨rb, 7, none⟩ = false := by
  obtain ⟨g, ow, hR, _⟩ := h
  exact ⟨hR.run.blk.lt, hR.run.blk.cell 7, hR.run.blk.frozen 7⟩
set_option maxRecDepth 100000 in
set_option maxHeartbeats 3200000 in
theorem ret_none (h : IRunX w0 bd rb tg fa fo n c rs st (fb :: gl) rgb W) (hf : st.frames = t :: bl) (hN : NdAt w0 b o nd) (hb : b < w0.heap.size) (ha : nd.nd.a = -1) (hd : st.doing ≠ 3) :
    Calls Try.prog 83 #[.pointer (some ⟨rb, 0, none⟩), ifrV bd fb, .pointer (some ⟨b, o, none⟩)] W fun e w' => e = .returned (.tuple #[]) ∧ IRunX w0 bd rb tg fa fo n c rs { st.top t bl with doing := 1 } (fb :: gl) rgb w' := by
  have c4 := (hN.kept hb h.low).c4
  rw [ha] at c4
  obtain ⟨hrz, c7, f7⟩ := h.cell7
  have e0 : ({ st.top t bl with doing := 1 } : IMc) = { st with doing := 1 } := by unfold IMc.top; rw [← hf]
  rw [e0]
  have HX := Lib.hid (h.doing_ 1 hd (by omega))
  clear h hN ha e0
  unfold ifrV
  go_enter Try.func83, Try.ntmps83
  go_wp2
  go_end0
  exact ⟨rfl, HX.out⟩
set_option maxRecDepth 100000 in
set_option maxHeartbeats 3200000 in
theorem ret_some (h : IRunX w0 bd rb tg fa fo n c rs st (fb :: gl) rgb W) (hf : st.frames = t :: bl) (hr : rs[t.f]? = some r) (hN : NdAt w0 b o nd) (hb : b < w0.heap.size) (ha : ¬ nd.nd.a = -1) (pa : PlOk r nd.nd.a) (hd : st.doing ≠ 3) :
    Calls Try.prog 83 #[.pointer (some ⟨rb, 0, none⟩), ifrV bd fb, .pointer (some ⟨b, o, none⟩)] W fun e w' => e = .returned (.tuple #[]) ∧ IRunX w0 bd rb tg fa fo n c rs { st.top { t with number := getP (grs rs) bd st.regs t nd.nd.a } bl with doing := 1 } (fb :: gl) rgb w' := by
  have c4 := (hN.kept hb h.low).c4
  have ga : (nd.nd.a == -1) = false := by simp; exact ha
  obtain ⟨v, hv⟩ : ∃ v, v = getP (grs rs) bd st.regs t nd.nd.a := ⟨_, rfl⟩
  have HGET := Lib.hid (get_run h hf hr pa)
  have HGED := Lib.hid (get_run (h.on (Below.refl _ _).drew) hf hr pa)
  rw [← hv] at HGET HGED ⊢
  have HT : Hid (∀ W', IRunX w0 bd rb tg fa fo n c rs st (fb :: gl) rgb W' → fb < W'.heap.size ∧ rb < W'.heap.size ∧ W'.cell? ⟨fb, 6, none⟩ = some (.int .u64 t.number) ∧ W'.frozen? ⟨fb, 6, none⟩ = false ∧ (W'.setCell ⟨fb, 6, none⟩ (.int .u64 v)).cell? ⟨rb, 7, none⟩ = some (.int .i64 st.doing) ∧ (W'.setCell ⟨fb, 6, none⟩ (.int .u64 v)).frozen? ⟨rb, 7, none⟩ = false ∧ Hid (IRunX w0 bd rb tg fa fo n c rs { st.top { t with number := v } bl with doing := 1 } (fb :: gl) rgb ((W'.setCell ⟨fb, 6, none⟩ (.int .u64 v)).setCell ⟨rb, 7, none⟩ (.int .i64 1)))) := Lib.hid fun W' h' => by
    obtain ⟨a1, _, _, _, a2, a3, _, hX⟩ := h'.top8 hf v
    obtain ⟨_, b1, b2⟩ := hX.cell7
    exact ⟨a1, h'.cell7.1, a2, a3, b1, b2, Lib.hid (hX.doing_ 1 hd (by omega))⟩
  clear h hN ha hv
  unfold ifrV
  have hbm := body_m bd fb
  have hgm := get_m bd fb
  have hng := nget_m bd fb
  cases bd
  all_goals
    simp only [ptrI, ifrP, getF, Bool.false_eq_true, if_false, if_true] at hbm hgm hng HGET HGED HT ⊢
    go_enter Try.func83, Try.ntmps83
    go_wp2
    go_region_law (first
      | (go_simp; go_at_call 203; with_reducible refine (body_any fb _).mono ?_; rintro e w3 ⟨rfl, rfl⟩)
      | (go_simp; go_at_call 204; with_reducible refine HGED.out.mono ?_; rintro e w2 ⟨rfl, h2⟩; obtain ⟨a1, a2, a3, a4, a5, a6, H2⟩ := HT.out _ h2; clear h2)
      | (go_simp; go_at_call 209; with_reducible refine HGED.out.mono ?_; rintro e w2 ⟨rfl, h2⟩; obtain ⟨a1, a2, a3, a4, a5, a6, H2⟩ := HT.out _ h2; clear h2))
    go_wp2
    all_goals
      go_end0
      exact ⟨rfl, H2.out⟩
end
end Go.Proofs.Ytlnccpojldiogaa
