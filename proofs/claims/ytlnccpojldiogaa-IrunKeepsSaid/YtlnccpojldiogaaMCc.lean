/-
  Texts of one seat, one behind the other: IExeI.
-/
import Derived.Test.YtlnccpojldiogaaMBc

/-
  Package irun: execute: in.
-/
namespace Go.Proofs.Ytlnccpojldiogaa
set_option linter.unusedVariables false
set_option linter.unusedSimpArgs false
open Go.ChangeShapes Go.WideShapes Go.ChangeAt Go.RowKit

section
variable {w0 W W' : World} {bd : Bool} {rb tg fa fo rgb n c k : Nat} {rs : List RG} {st st' : IMc} {t t' : IFr} {bl : List IFr} {gl : List Nat} {fb b o : Nat} {r : RG} {p x : Int} {nd : RN}
set_option maxRecDepth 100000 in
set_option maxHeartbeats 3200000 in
theorem exe_in (h : IRunX w0 bd rb tg fa fo n c rs st (fb :: gl) rgb W) (hf : st.frames = t :: bl) (hr : rs[t.f]? = some r) (hN : NdAt w0 b o nd) (hb : b < w0.heap.size) (hop : nd.nd.op = 16) (pd : PlOk r nd.nd.d) (hd : st.doing ≠ 3) (hs : st.evs.length ≤ 1048576) :
    Calls Try.prog 46 #[.pointer (some ⟨rb, 0, none⟩), ifrV bd fb, .pointer (some ⟨b, o, none⟩)] W fun e w' => e = .returned (.tuple #[]) ∧ IRunX w0 bd rb tg fa fo n c rs ({ st with tape := st.tape.tail, evs := st.evs ++ [(2, st.tape.headD 0)] }.put (grs rs) bd t bl nd.nd.d (st.tape.headD 0)) (fb :: gl) rgb w' := by
  have hNW := hN.kept hb h.low
  have c0 := hNW.c0
  rw [hop] at c0
  have c2 := hNW.c2
  have x2 : W.cell? ⟨rb, 2, none⟩ = some (.pointer (some ⟨tg, 0, none⟩)) := by
    obtain ⟨g, ow, hR, _⟩ := h
    exact hR.run.blk.cell 2
  have HC2 : Hid (∀ W', Below w0.heap.size w0 W' → W'.cell? ⟨b, o + 2, none⟩ = some (.int .i64 nd.nd.d)) := Lib.hid fun W' h' => (hN.kept hb h').c2
  obtain ⟨st2, hst2⟩ : ∃ s2 : IMc, s2 = { st with tape := st.tape.tail, evs := st.evs ++ [(2, st.tape.headD 0)] } := ⟨_, rfl⟩
  have hf2 : st2.frames = t :: bl := by rw [hst2]; exact hf
  have HTR := Lib.hid (in_any (h.on (Below.refl _ _).drew) hd hs)
  rw [← hst2] at HTR ⊢
  obtain ⟨v, hv⟩ : ∃ v, v = st.tape.headD 0 := ⟨_, rfl⟩
  rw [← hv] at HTR ⊢
  have HPUT : Hid (∀ W', IRunX w0 bd rb tg fa fo n c rs st2 (fb :: gl) rgb W' → Calls Try.prog (putF bd) #[.pointer (some ⟨fb, 0, none⟩), .int .i64 nd.nd.d, .int .u64 v] W' fun e w' => e = .returned (.tuple #[]) ∧ IRunX w0 bd rb tg fa fo n c rs (st2.put (grs rs) bd t bl nd.nd.d v) (fb :: gl) rgb w') := Lib.hid fun W' h' => put_any h' hf2 hr pd
  clear h hN hNW hv hst2 hf2
  unfold ifrV
  have hbm := body_m bd fb
  have hpm := put_m bd fb
  have hnp := nput_m bd fb
  cases bd
  all_goals
    simp only [ptrI, ifrP, putF, Bool.false_eq_true, if_false, if_true] at hbm hpm hnp HTR HPUT ⊢
    go_enter Try.func46, Try.ntmps46
    go_wp2_with (go_at_call 203; refine (body_any fb _).mono ?_; rintro e w3 ⟨rfl, rfl⟩)
    go_region_law (first
      | (go_simp; go_at_call 87; with_reducible refine HTR.out.mono ?_; rintro e w2 ⟨rfl, h2⟩; have y2 := HC2.out _ (IRunX.low h2); have H2 := Lib.hid h2; clear h2)
      | (go_simp; go_at_call 205; with_reducible refine (HPUT.out _ H2.out).mono ?_; rintro e w4 ⟨rfl, h4⟩; have H4 := Lib.hid h4; clear h4)
      | (go_simp; go_at_call 210; with_reducible refine (HPUT.out _ H2.out).mono ?_; rintro e w4 ⟨rfl, h4⟩; have H4 := Lib.hid h4; clear h4))
    go_wp2
    all_goals
      go_end0
      exact ⟨rfl, H4.out⟩
end
end Go.Proofs.Ytlnccpojldiogaa
