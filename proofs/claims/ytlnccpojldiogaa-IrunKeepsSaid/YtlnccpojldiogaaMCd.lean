/-
  Texts of one seat, one behind the other: IExeA.
-/
import Derived.Test.YtlnccpojldiogaaMBc

/-
  Package irun: execute: a pointer.
-/
namespace Go.Proofs.Ytlnccpojldiogaa
set_option linter.unusedVariables false
set_option linter.unusedSimpArgs false
open Go.ChangeShapes Go.WideShapes Go.ChangeAt Go.RowKit

section
variable {w0 W W' : World} {bd : Bool} {rb tg fa fo rgb n c k : Nat} {rs : List RG} {st st' : IMc} {t t' : IFr} {bl : List IFr} {gl : List Nat} {fb b o : Nat} {r : RG} {p x : Int} {nd : RN}
set_option maxRecDepth 100000 in
set_option maxHeartbeats 16000000 in
theorem exe_addr (h : IRunX w0 bd rb tg fa fo n c rs st (fb :: gl) rgb W) (hf : st.frames = t :: bl) (hr : rs[t.f]? = some r) (hN : NdAt w0 b o nd) (hb : b < w0.heap.size) (hop : nd.nd.op = 6) (pd : PlOk r nd.nd.d) (k0 : 0 ≤ nd.nd.cell) (k1 : nd.nd.cell < 64) (hs : t.serial ≤ 1048577) :
    Calls Try.prog 46 #[.pointer (some ⟨rb, 0, none⟩), ifrV bd fb, .pointer (some ⟨b, o, none⟩)] W fun e w' => e = .returned (.tuple #[]) ∧ IRunX w0 bd rb tg fa fo n c rs (st.put (grs rs) bd t bl nd.nd.d ((iFirst + t.serial * 64 + nd.nd.cell) % 18446744073709551616)) (fb :: gl) rgb w' := by
  have hNW := hN.kept hb h.low
  have c0 := hNW.c0
  rw [hop] at c0
  have c2 := hNW.c2
  have c7 := hNW.c7
  have HC2 : Hid (∀ W', Below w0.heap.size w0 W' → W'.cell? ⟨b, o + 2, none⟩ = some (.int .i64 nd.nd.d)) := Lib.hid fun W' h' => (hN.kept hb h').c2
  obtain ⟨cl, hcl⟩ : ∃ cl, cl = nd.nd.cell := ⟨_, rfl⟩
  rw [← hcl] at c7 k0 k1 ⊢
  obtain ⟨v, hv⟩ : ∃ v, v = (iFirst + t.serial * 64 + cl) % 18446744073709551616 := ⟨_, rfl⟩
  obtain ⟨s2, hfz⟩ := h.serial_ hf
  have hP := pointer_any (W := W.drew) t.serial cl s2 hfz k0 k1 hs
  rw [← hv] at hP ⊢
  have HPTR := Lib.hid hP
  have HON : Hid (∀ W', (∃ q, W' = W.drew.drewN q) → IRunX w0 bd rb tg fa fo n c rs st (fb :: gl) rgb W') := Lib.hid fun W' ⟨q, hq⟩ => by
    rw [hq]
    exact h.on (below_drewN' (Below.refl _ _).drew q)
  have HPUT : Hid (∀ W', IRunX w0 bd rb tg fa fo n c rs st (fb :: gl) rgb W' → Calls Try.prog (putF bd) #[.pointer (some ⟨fb, 0, none⟩), .int .i64 nd.nd.d, .int .u64 v] W' fun e w' => e = .returned (.tuple #[]) ∧ IRunX w0 bd rb tg fa fo n c rs (st.put (grs rs) bd t bl nd.nd.d v) (fb :: gl) rgb w') := Lib.hid fun W' h' => put_any h' hf hr pd
  clear h hN hNW hv hP hcl k0 k1 hs s2
  unfold ifrV
  have hbm := body_m bd fb
  have hpm := put_m bd fb
  have hnp := nput_m bd fb
  cases bd
  all_goals
    simp only [ptrI, ifrP, putF, Bool.false_eq_true, if_false, if_true] at hbm hpm hnp HPUT ⊢
    go_enter Try.func46, Try.ntmps46
    go_wp2_with (go_at_call 203; refine (body_any fb _).mono ?_; rintro e w3 ⟨rfl, rfl⟩)
    go_region_law (first
      | (go_simp; go_at_call 79; with_reducible refine HPTR.out.mono ?_; rintro e w2 ⟨rfl, hq⟩; have h2 := HON.out _ hq; have y2 := HC2.out _ (IRunX.low h2); have H2 := Lib.hid h2; clear h2 hq)
      | (go_simp; go_at_call 205; with_reducible refine (HPUT.out _ H2.out).mono ?_; rintro e w4 ⟨rfl, h4⟩; have H4 := Lib.hid h4; clear h4)
      | (go_simp; go_at_call 210; with_reducible refine (HPUT.out _ H2.out).mono ?_; rintro e w4 ⟨rfl, h4⟩; have H4 := Lib.hid h4; clear h4))
    go_wp2
    all_goals
      go_end0
      exact ⟨rfl, H4.out⟩
end
end Go.Proofs.Ytlnccpojldiogaa
