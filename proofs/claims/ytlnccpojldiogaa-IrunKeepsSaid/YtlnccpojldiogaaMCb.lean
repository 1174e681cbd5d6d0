/-
  Texts of one seat, one behind the other: IExeO.
-/
import Derived.Test.YtlnccpojldiogaaMBc

/-
  Package irun: execute: out.
-/
namespace Go.Proofs.Ytlnccpojldiogaa
set_option linter.unusedVariables false
set_option linter.unusedSimpArgs false
open Go.ChangeShapes Go.WideShapes Go.ChangeAt Go.RowKit

section
variable {w0 W W' : World} {bd : Bool} {rb tg fa fo rgb n c k : Nat} {rs : List RG} {st st' : IMc} {t t' : IFr} {bl : List IFr} {gl : List Nat} {fb b o : Nat} {r : RG} {p x : Int} {nd : RN}
set_option maxRecDepth 100000 in
set_option maxHeartbeats 3200000 in
theorem exe_out (h : IRunX w0 bd rb tg fa fo n c rs st (fb :: gl) rgb W) (hf : st.frames = t :: bl) (hr : rs[t.f]? = some r) (hN : NdAt w0 b o nd) (hb : b < w0.heap.size) (hop : nd.nd.op = 17) (hp : PlOk r nd.nd.a) (hd : st.doing ≠ 3) (hs : st.evs.length ≤ 1048576) :
    Calls Try.prog 46 #[.pointer (some ⟨rb, 0, none⟩), ifrV bd fb, .pointer (some ⟨b, o, none⟩)] W fun e w' => e = .returned (.tuple #[]) ∧ IRunX w0 bd rb tg fa fo n c rs { st with evs := st.evs ++ [(1, getP (grs rs) bd st.regs t nd.nd.a)] } (fb :: gl) rgb w' := by
  have hNW := hN.kept hb h.low
  have c0 := hNW.c0
  rw [hop] at c0
  have c4 := hNW.c4
  have HX2 : Hid (∀ W', IRunX w0 bd rb tg fa fo n c rs st (fb :: gl) rgb W' → W'.cell? ⟨rb, 2, none⟩ = some (.pointer (some ⟨tg, 0, none⟩))) := Lib.hid fun W' h' => by
    obtain ⟨g, ow, hR, _⟩ := h'
    exact hR.run.blk.cell 2
  have x2 := HX2.out _ h
  obtain ⟨v, hv⟩ : ∃ v, v = getP (grs rs) bd st.regs t nd.nd.a := ⟨_, rfl⟩
  have HGET := Lib.hid (get_run (h.on (Below.refl _ _).drew) hf hr hp)
  rw [← hv] at HGET ⊢
  have HOUT : Hid (∀ W', IRunX w0 bd rb tg fa fo n c rs st (fb :: gl) rgb W' → Calls Try.prog 88 #[.pointer (some ⟨tg, 0, none⟩), .int .u64 v] W' fun e w' => e = .returned (.tuple #[]) ∧ IRunX w0 bd rb tg fa fo n c rs { st with evs := st.evs ++ [(1, v)] } (fb :: gl) rgb w') := Lib.hid fun W' h' => out_any v h' hd hs
  clear h hN hNW hv
  unfold ifrV
  have hbm := body_m bd fb
  have hgm := get_m bd fb
  have hng := nget_m bd fb
  cases bd
  all_goals
    simp only [ptrI, ifrP, getF, Bool.false_eq_true, if_false, if_true] at hbm hgm hng HGET ⊢
    go_enter Try.func46, Try.ntmps46
    go_wp2_with (go_at_call 203; refine (body_any fb _).mono ?_; rintro e w3 ⟨rfl, rfl⟩)
    go_region_law (first
      | (go_simp; go_at_call 204; with_reducible refine HGET.out.mono ?_; rintro e w2 ⟨rfl, h2⟩; have y2 := HX2.out _ h2; have H2 := Lib.hid h2; clear h2)
      | (go_simp; go_at_call 209; with_reducible refine HGET.out.mono ?_; rintro e w2 ⟨rfl, h2⟩; have y2 := HX2.out _ h2; have H2 := Lib.hid h2; clear h2)
      | (go_simp; go_at_call 88; with_reducible refine (HOUT.out _ H2.out).mono ?_; rintro e w4 ⟨rfl, h4⟩; have H4 := Lib.hid h4; clear h4))
    go_wp2
    all_goals
      go_end0
      exact ⟨rfl, H4.out⟩
end
end Go.Proofs.Ytlnccpojldiogaa
