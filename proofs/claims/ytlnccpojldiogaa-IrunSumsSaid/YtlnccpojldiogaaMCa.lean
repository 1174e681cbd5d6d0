/-
  Texts of one seat, one behind the other: IExeB.
-/
import Derived.Test.YtlnccpojldiogaaMBc

/-
  Package irun: execute: branch, exit.
-/
namespace Go.Proofs.Ytlnccpojldiogaa
set_option linter.unusedVariables false
set_option linter.unusedSimpArgs false
open Go.ChangeShapes Go.WideShapes Go.ChangeAt Go.RowKit

section
variable {w0 W W' : World} {bd : Bool} {rb tg fa fo rgb n c k : Nat} {rs : List RG} {st st' : IMc} {t t' : IFr} {bl : List IFr} {gl : List Nat} {fb b o : Nat} {r : RG} {p x : Int} {nd : RN}
set_option maxRecDepth 100000 in
set_option maxHeartbeats 3200000 in
theorem exe_branch (h : IRunX w0 bd rb tg fa fo n c rs st (fb :: gl) rgb W) (hf : st.frames = t :: bl) (hr : rs[t.f]? = some r) (hN : NdAt w0 b o nd) (hb : b < w0.heap.size) (hop : nd.nd.op = 9) (hp : PlOk r nd.nd.a) :
    Calls Try.prog 46 #[.pointer (some ⟨rb, 0, none⟩), ifrV bd fb, .pointer (some ⟨b, o, none⟩)] W fun e w' => e = .returned (.tuple #[]) ∧ IRunX w0 bd rb tg fa fo n c rs (st.top { t with at_ := if getP (grs rs) bd st.regs t nd.nd.a = 0 then nd.nd.els else t.at_ } bl) (fb :: gl) rgb w' := by
  have hNW := hN.kept hb h.low
  have c0 := hNW.c0
  rw [hop] at c0
  have c4 := hNW.c4
  have c11 := hNW.c11
  obtain ⟨v, hv⟩ : ∃ v, v = getP (grs rs) bd st.regs t nd.nd.a := ⟨_, rfl⟩
  have HGET : Hid (∀ m, Calls Try.prog (getF bd) #[.pointer (some ⟨fb, 0, none⟩), .int .i64 nd.nd.a] (W.drewN m) fun e w' => e = .returned (.int .u64 v) ∧ ∃ q, w' = (W.drewN m).drewN q) := Lib.hid fun m => by
    rw [hv]
    exact get_any (h.on (below_drewN' (Below.refl _ _) m)) hf hr hp
  have HX : Hid (∀ q, fb < (W.drewN q).heap.size ∧ (W.drewN q).cell? ⟨fb, 3, none⟩ = some (.int .i64 t.at_) ∧ (W.drewN q).frozen? ⟨fb, 3, none⟩ = false ∧ IRunX w0 bd rb tg fa fo n c rs (st.top t bl) (fb :: gl) rgb (W.drewN q) ∧ IRunX w0 bd rb tg fa fo n c rs (st.top { t with at_ := nd.nd.els } bl) (fb :: gl) rgb ((W.drewN q).setCell ⟨fb, 3, none⟩ (.int .i64 nd.nd.els))) := Lib.hid fun q => by
    have h2 := h.on (below_drewN' (Below.refl W.heap.size W) q)
    obtain ⟨e1, e2, e3, e4, _, _, e5, _⟩ := h2.top8 hf nd.nd.els
    refine ⟨e1, e3, e4, ?_, e5⟩
    have : st.top t bl = st := by unfold IMc.top; rw [← hf]
    rw [this]
    exact h2
  rw [← hv]
  have hfz := h.top8 hf 0
  obtain ⟨fz, _, f3, ff3, _⟩ := hfz
  clear h hN hNW hv
  unfold ifrV
  have hbm := body_m bd fb
  have hgm := get_m bd fb
  have hng := nget_m bd fb
  cases bd
  all_goals
    simp only [ptrI, ifrP, getF, Bool.false_eq_true, if_false, if_true] at hbm hgm hng HGET ⊢
    by_cases hz : v = 0
    · have hg1 : (v == 0) = true := by simpa using hz
      rw [if_pos hz]
      clear hz
      go_enter Try.func46, Try.ntmps46
      go_wp2_with (go_at_call 203; refine (body_any fb _).mono ?_; rintro e w3 ⟨rfl, rfl⟩)
      go_quiet (first
        | (go_at_call 204; with_reducible exact Calls.quiet_of (HGET.out _))
        | (go_at_call 209; with_reducible exact Calls.quiet_of (HGET.out _)))
      obtain ⟨_, _, _, _, e5⟩ := HX.out nq
      have HE := Lib.hid e5
      clear e5
      go_wp2
      go_end0
      exact ⟨rfl, HE.out⟩
    · have hg1 : (v == 0) = false := by simpa using hz
      rw [if_neg hz]
      clear hz
      go_enter Try.func46, Try.ntmps46
      go_wp2_with (go_at_call 203; refine (body_any fb _).mono ?_; rintro e w3 ⟨rfl, rfl⟩)
      go_quiet (first
        | (go_at_call 204; with_reducible exact Calls.quiet_of (HGET.out _))
        | (go_at_call 209; with_reducible exact Calls.quiet_of (HGET.out _)))
      obtain ⟨_, _, _, e4, _⟩ := HX.out nq
      have HE := Lib.hid e4
      clear e4
      go_wp2
      go_end0
      exact ⟨rfl, HE.out⟩
set_option maxRecDepth 100000 in
set_option maxHeartbeats 3200000 in
theorem exe_exit (h : IRunX w0 bd rb tg fa fo n c rs st (fb :: gl) rgb W) (hf : st.frames = t :: bl) (hr : rs[t.f]? = some r) (hN : NdAt w0 b o nd) (hb : b < w0.heap.size) (hop : nd.nd.op = 18) (hp : PlOk r nd.nd.a) (hd : st.doing ≠ 3) (hs : st.evs.length ≤ 1048577) :
    Calls Try.prog 46 #[.pointer (some ⟨rb, 0, none⟩), ifrV bd fb, .pointer (some ⟨b, o, none⟩)] W fun e w' => e = .returned (.tuple #[]) ∧ IRunX w0 bd rb tg fa fo n c rs (st.over 1 (getP (grs rs) bd st.regs t nd.nd.a)) (fb :: gl) rgb w' := by
  have hNW := hN.kept hb h.low
  have c0 := hNW.c0
  rw [hop] at c0
  have c4 := hNW.c4
  obtain ⟨v, hv⟩ : ∃ v, v = getP (grs rs) bd st.regs t nd.nd.a := ⟨_, rfl⟩
  have HGET := Lib.hid (get_run (h.on (Below.refl _ _).drew) hf hr hp)
  rw [← hv] at HGET ⊢
  have HEND : Hid (∀ W', IRunX w0 bd rb tg fa fo n c rs st (fb :: gl) rgb W' → Calls Try.prog 27 #[.pointer (some ⟨rb, 0, none⟩), .int .i64 1, .int .u64 v] W' fun e w' => e = .returned (.tuple #[]) ∧ IRunX w0 bd rb tg fa fo n c rs (st.over 1 v) (fb :: gl) rgb w') := Lib.hid fun W' h' => end_any 1 v h' hd hs
  clear h hN hNW hv
  unfold ifrV
  have hbm := body_m bd fb
  have hgm := get_m bd fb
  have hng := nget_m bd fb
  cases bd
  all_goals
    simp only [ptrI, ifrP, getF, Bool.false_eq_true, if_false, if_true] at hbm hgm hng HGET ⊢
    go_enter Try.func46, Try.ntmps46
    go_wp2_with (go_at_call 203; refine (body_any fb _).mono ?_; rintro e w3 ⟨rfl, rfl⟩)
    go_region_law (first
      | (go_simp; go_at_call 204; with_reducible refine HGET.out.mono ?_; rintro e w2 ⟨rfl, h2⟩; have H2 := Lib.hid h2; clear h2)
      | (go_simp; go_at_call 209; with_reducible refine HGET.out.mono ?_; rintro e w2 ⟨rfl, h2⟩; have H2 := Lib.hid h2; clear h2)
      | (go_simp; go_at_call 27; with_reducible refine (HEND.out _ H2.out).mono ?_; rintro e w4 ⟨rfl, h4⟩; have H4 := Lib.hid h4; clear h4))
    go_wp2
    all_goals
      go_end0
      exact ⟨rfl, H4.out⟩
end
end Go.Proofs.Ytlnccpojldiogaa
