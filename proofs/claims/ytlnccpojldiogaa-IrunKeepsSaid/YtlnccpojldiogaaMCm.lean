/-
  Texts of one seat, one behind the other: IExeMF.
-/
import Derived.Test.YtlnccpojldiogaaMBc

/-
  Package irun: execute: move.
-/
namespace Go.Proofs.Ytlnccpojldiogaa
set_option linter.unusedVariables false
set_option linter.unusedSimpArgs false
open Go.ChangeShapes Go.WideShapes Go.ChangeAt Go.RowKit

section
variable {w0 W W' : World} {rb tg fa fo rgb n c k : Nat} {rs : List RG} {st st' : IMc} {t t' : IFr} {bl : List IFr} {gl : List Nat} {fb b o : Nat} {r : RG} {p x : Int} {nd : RN}
set_option maxRecDepth 100000 in
set_option maxHeartbeats 16000000 in
theorem exe_move_F (h : IRunX w0 false rb tg fa fo n c rs st (fb :: gl) rgb W) (hf : st.frames = t :: bl) (hr : rs[t.f]? = some r) (hN : NdAt w0 b o nd) (hb : b < w0.heap.size) (hop : nd.nd.op = 2) (hp : PlOk r nd.nd.a) (pd : PlOk r nd.nd.d) :
    Calls Try.prog 46 #[.pointer (some ⟨rb, 0, none⟩), ifrV false fb, .pointer (some ⟨b, o, none⟩)] W fun e w' => e = .returned (.tuple #[]) ∧ IRunX w0 false rb tg fa fo n c rs (st.put (grs rs) false t bl nd.nd.d (getP (grs rs) false st.regs t nd.nd.a)) (fb :: gl) rgb w' := by
  have hNW := hN.kept hb h.low
  have c0 := hNW.c0
  rw [hop] at c0
  have c2 := hNW.c2
  have c4 := hNW.c4
  obtain ⟨v, hv⟩ : ∃ v, v = getP (grs rs) false st.regs t nd.nd.a := ⟨_, rfl⟩
  have HGET := Lib.hid (get_any (h.on (Below.refl _ _).drew) hf hr hp)
  rw [← hv] at HGET ⊢
  have HPUT : Hid (∀ q, Calls Try.prog (putF false) #[.pointer (some ⟨fb, 0, none⟩), .int .i64 nd.nd.d, .int .u64 v] (W.drewN q) fun e w' => e = .returned (.tuple #[]) ∧ IRunX w0 false rb tg fa fo n c rs (st.put (grs rs) false t bl nd.nd.d v) (fb :: gl) rgb w') := Lib.hid fun q => put_any (h.on (below_drewN' (Below.refl _ _) q)) hf hr pd
  clear h hN hNW hv
  have hbm := body_m false fb
  have hgm := get_m false fb
  have hng := nget_m false fb
  have hpm := put_m false fb
  have hnp := nput_m false fb
  clear hf hr hb hop hp pd
  simp only [ifrV, ptrI, ifrP, getF, putF, Bool.false_eq_true, if_false, if_true] at hbm hgm hng hpm hnp HGET HPUT ⊢
  go_enter Try.func46, Try.ntmps46
  go_wp2_with (go_at_call 203; refine (body_any fb _).mono ?_; rintro e w3 ⟨rfl, rfl⟩)
  clear hbm c0
  go_region_law (first
    | (go_simp; go_at_call 204; with_reducible refine HGET.out.mono ?_; rintro e w2 ⟨rfl, q2, rfl⟩)
    | (go_simp; go_at_call 205; with_reducible refine (HPUT.out _).mono ?_; rintro e w4 ⟨rfl, h4⟩; have H4 := Lib.hid h4; clear h4))
  go_wp2
  all_goals
    go_end0
    exact ⟨rfl, H4.out⟩
end
end Go.Proofs.Ytlnccpojldiogaa
