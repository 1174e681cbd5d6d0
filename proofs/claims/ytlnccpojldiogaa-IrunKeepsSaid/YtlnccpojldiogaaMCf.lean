/-
  Texts of one seat, one behind the other: IExeG.
-/
import Derived.Test.YtlnccpojldiogaaMBc

/-
  Package irun: execute: a cell read.
-/
namespace Go.Proofs.Ytlnccpojldiogaa
set_option linter.unusedVariables false
set_option linter.unusedSimpArgs false
open Go.ChangeShapes Go.WideShapes Go.ChangeAt Go.RowKit

section
variable {w0 W W' : World} {bd : Bool} {rb tg fa fo rgb n c k : Nat} {rs : List RG} {st st' : IMc} {t t' : IFr} {bl : List IFr} {gl : List Nat} {fb b o : Nat} {r : RG} {p x : Int} {nd : RN}
set_option maxRecDepth 100000 in
set_option maxHeartbeats 16000000 in
theorem exe_cellget (h : IRunX w0 bd rb tg fa fo n c rs st (fb :: gl) rgb W) (hf : st.frames = t :: bl) (hr : rs[t.f]? = some r) (hN : NdAt w0 b o nd) (hb : b < w0.heap.size) (hop : nd.nd.op = 4) (pd : PlOk r nd.nd.d) (k0 : 0 ≤ nd.nd.cell) (k1 : nd.nd.cell < 64) :
    Calls Try.prog 46 #[.pointer (some ⟨rb, 0, none⟩), ifrV bd fb, .pointer (some ⟨b, o, none⟩)] W fun e w' => e = .returned (.tuple #[]) ∧ IRunX w0 bd rb tg fa fo n c rs (st.put (grs rs) bd t bl nd.nd.d (t.words nd.nd.cell.toNat)) (fb :: gl) rgb w' := by
  have hNW := hN.kept hb h.low
  have c0 := hNW.c0
  rw [hop] at c0
  have c2 := hNW.c2
  have c7 := hNW.c7
  obtain ⟨a, ha⟩ : ∃ a : Nat, a = nd.nd.cell.toNat := ⟨_, rfl⟩
  have hca : nd.nd.cell = (a : Int) := by omega
  rw [hca] at c7
  rw [← ha]
  obtain ⟨v, hv⟩ : ∃ v, v = t.words a := ⟨_, rfl⟩
  have hG0 := (h.on (Below.refl _ _).drew).wget hf a (by omega) 0
  have hG : Calls Try.prog 78 #[.pointer (some ⟨fb, 4, none⟩), .int .i64 a] W.drew fun e w' => e = .returned (.int .u64 (t.words a)) ∧ w' = W.drew := hG0
  rw [← hv] at hG ⊢
  have HGET := Lib.hid hG
  have HPUT := Lib.hid (put_any (x := v) (h.on (Below.refl _ _).drew) hf hr pd)
  clear h hN hNW hv hG hG0 ha hca
  unfold ifrV
  have hbm := body_m bd fb
  have hpm := put_m bd fb
  have hnp := nput_m bd fb
  cases bd
  all_goals
    simp only [ptrI, ifrP, putF, Bool.false_eq_true, if_false, if_true] at hbm hpm hnp HPUT ⊢
    go_enter Try.func46, Try.ntmps46
    go_wp2_with (go_at_call 203; refine (body_any fb _).mono ?_; rintro e w3 ⟨rfl, rfl⟩)
    go_region_law (first
      | (go_simp; go_at_call 78; with_reducible refine HGET.out.mono ?_; rintro e w2 ⟨rfl, rfl⟩)
      | (go_simp; go_at_call 205; with_reducible refine HPUT.out.mono ?_; rintro e w4 ⟨rfl, h4⟩; have H4 := Lib.hid h4; clear h4)
      | (go_simp; go_at_call 210; with_reducible refine HPUT.out.mono ?_; rintro e w4 ⟨rfl, h4⟩; have H4 := Lib.hid h4; clear h4))
    go_wp2
    all_goals
      go_end0
      exact ⟨rfl, H4.out⟩
end
end Go.Proofs.Ytlnccpojldiogaa
