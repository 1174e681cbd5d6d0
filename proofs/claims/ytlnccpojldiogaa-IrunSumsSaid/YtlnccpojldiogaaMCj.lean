/-
  Texts of one seat, one behind the other: IExeP, ICatN.
-/
import Derived.Test.YtlnccpojldiogaaMBc
import Derived.Test.YtlnccpojldiogaaMBd

/-
  Package irun: execute: panic.
-/
namespace Go.Proofs.Ytlnccpojldiogaa
set_option linter.unusedVariables false
set_option linter.unusedSimpArgs false
open Go.ChangeShapes Go.WideShapes Go.ChangeAt Go.RowKit

section
variable {w0 W W' : World} {bd : Bool} {rb tg fa fo rgb n c k : Nat} {rs : List RG} {st st' : IMc} {t t' : IFr} {bl : List IFr} {gl : List Nat} {fb b o : Nat} {r : RG} {p x : Int} {nd : RN}
set_option maxRecDepth 100000 in
set_option maxHeartbeats 3200000 in
theorem exe_panic (h : IRunX w0 bd rb tg fa fo n c rs st (fb :: gl) rgb W) (hf : st.frames = t :: bl) (hr : rs[t.f]? = some r) (hN : NdAt w0 b o nd) (hb : b < w0.heap.size) (hop : nd.nd.op = 14) (hp : PlOk r nd.nd.a) (hd : st.doing ≠ 3) (hs : st.panics.length ≤ 1048576) (hmx : st.maxp ≤ 1048577) :
    Calls Try.prog 46 #[.pointer (some ⟨rb, 0, none⟩), ifrV bd fb, .pointer (some ⟨b, o, none⟩)] W fun e w' => e = .returned (.tuple #[]) ∧ IRunX w0 bd rb tg fa fo n c rs (st.raise (getP (grs rs) bd st.regs t nd.nd.a)) (fb :: gl) rgb w' := by
  have hNW := hN.kept hb h.low
  have c0 := hNW.c0
  rw [hop] at c0
  have c4 := hNW.c4
  obtain ⟨v, hv⟩ : ∃ v, v = getP (grs rs) bd st.regs t nd.nd.a := ⟨_, rfl⟩
  have HGET := Lib.hid (get_run (h.on (Below.refl _ _).drew) hf hr hp)
  rw [← hv] at HGET ⊢
  have HEND : Hid (∀ W', IRunX w0 bd rb tg fa fo n c rs st (fb :: gl) rgb W' → Calls Try.prog 85 #[.pointer (some ⟨rb, 0, none⟩), .int .u64 v] W' fun e w' => e = .returned (.tuple #[]) ∧ IRunX w0 bd rb tg fa fo n c rs (st.raise v) (fb :: gl) rgb w') := Lib.hid fun W' h' => raise_any v h' hd hs hmx
  clear h hN hNW hv
  unfold ifrV
  have hbm := body_m bd fb
  have hgm := get_m bd fb
  have hng := nget_m bd fb
  cases bd
  all_goals
    simp only [ptrI, ifrP, getF, Bool.false_eq_true, if_false, if_true] at hbm hgm hng HGET ⊢
    go_enter Try.func46, Try.ntmps46
    go_wp2_with (go_at_call 203; refine (body_any fb _).mono ?_; rintro e w3 ⟨rfl, rfl⟩)
    go_region_law (first
      | (go_simp; go_at_call 204; with_reducible refine HGET.out.mono ?_; rintro e w2 ⟨rfl, h2⟩; have H2 := Lib.hid h2; clear h2)
      | (go_simp; go_at_call 209; with_reducible refine HGET.out.mono ?_; rintro e w2 ⟨rfl, h2⟩; have H2 := Lib.hid h2; clear h2)
      | (go_simp; go_at_call 85; with_reducible refine (HEND.out _ H2.out).mono ?_; rintro e w4 ⟨rfl, h4⟩; have H4 := Lib.hid h4; clear h4))
    go_wp2
    all_goals
      go_end0
      exact ⟨rfl, H4.out⟩
end
end Go.Proofs.Ytlnccpojldiogaa

/-
  Package irun: catch, where the active panic is recovered already.
-/
namespace Go.Proofs.Ytlnccpojldiogaa
set_option linter.unusedVariables false
set_option linter.unusedSimpArgs false
open Go.ChangeShapes Go.WideShapes Go.ChangeAt Go.RowKit

section
variable {w0 W W' : World} {bd : Bool} {rb tg fa fo rgb n c k : Nat} {rs : List RG} {st st' : IMc} {t t' : IFr} {bl : List IFr} {gl : List Nat} {fb b o : Nat} {r : RG} {p x : Int} {nd : RN}
set_option maxRecDepth 100000 in
set_option maxHeartbeats 3200000 in
theorem catch_no {v : Int} {ps : List (Int × Bool)} (h : IRunX w0 bd rb tg fa fo n c rs st (fb :: gl) rgb W) (hf : st.frames = t :: bl) (hr : rs[t.f]? = some r) (hN : NdAt w0 b o nd) (hb : b < w0.heap.size) (pd : PlOk r nd.nd.d) (pe : PlOk r nd.nd.e) (hw : t.why = 3) (hp : st.panics = (v, true) :: ps) (hd : st.doing ≠ 3) (hs : ps.length ≤ 1048577) :
    Calls Try.prog 86 #[.pointer (some ⟨rb, 0, none⟩), ifrV bd fb, .pointer (some ⟨b, o, none⟩)] W fun e w' => e = .returned (.tuple #[]) ∧ IRunX w0 bd rb tg fa fo n c rs ((st.put (grs rs) bd t bl nd.nd.d 0).put2 (grs rs) bd bl nd.nd.e 0) (fb :: gl) rgb w' := by
  obtain ⟨q, cq, c1, _, d5, _, hqz, hrz, hcq, _⟩ := h.actv hp hd
  obtain ⟨m, hm⟩ : ∃ m, m = ps.length := ⟨_, rfl⟩
  rw [← hm] at c1 d5 hcq hs
  have c1w : W.cell? ⟨fb, 1, none⟩ = some (.int .i64 3) := by have := h.why_ hf; rw [hw] at this; exact this
  have HAC := Lib.hid (active_any (v := v) (rc := true) (ps := ps) hs c1 hqz hrz hcq)
  have HC3 : Hid (∀ W', Below w0.heap.size w0 W' → W'.cell? ⟨b, o + 3, none⟩ = some (.int .i64 nd.nd.e)) := Lib.hid fun W' h' => (hN.kept hb h').c3
  have HA : Hid (∀ W', (∃ k, W' = W.drewN k) → W'.cell? ⟨q, m * 2 + 1, none⟩ = some (.bool true) ∧ W'.cell? ⟨b, o + 2, none⟩ = some (.int .i64 nd.nd.d) ∧ Hid (Calls Try.prog (putF bd) #[.pointer (some ⟨fb, 0, none⟩), .int .i64 nd.nd.d, .int .u64 0] W'.drew fun e w' => e = .returned (.tuple #[]) ∧ IRunX w0 bd rb tg fa fo n c rs (st.put (grs rs) bd t bl nd.nd.d 0) (fb :: gl) rgb w')) := Lib.hid fun W' ⟨k, hk⟩ => by
    subst hk
    have h' := h.on (below_drewN' (Below.refl _ _) k)
    exact ⟨d5, (hN.kept hb h'.low).c2, Lib.hid (put_any (h'.on (Below.refl _ _).drew) hf hr pd)⟩
  have HP2 : Hid (∀ W', IRunX w0 bd rb tg fa fo n c rs (st.put (grs rs) bd t bl nd.nd.d 0) (fb :: gl) rgb W' → W'.cell? ⟨b, o + 3, none⟩ = some (.int .i64 nd.nd.e) ∧ Hid (Calls Try.prog (putF bd) #[.pointer (some ⟨fb, 0, none⟩), .int .i64 nd.nd.e, .int .u64 0] W'.drew fun e w' => e = .returned (.tuple #[]) ∧ IRunX w0 bd rb tg fa fo n c rs ((st.put (grs rs) bd t bl nd.nd.d 0).put2 (grs rs) bd bl nd.nd.e 0) (fb :: gl) rgb w')) := Lib.hid fun W' h' =>
    ⟨HC3.out _ h'.low, Lib.hid (put2_any (h'.on (Below.refl _ _).drew) hr pe)⟩
  clear h hN hf hr hp hd hs hm c1 d5 hqz hcq
  unfold ifrV
  have hbm := body_m bd fb
  have hpm := put_m bd fb
  have hnp := nput_m bd fb
  cases bd
  all_goals
    simp only [ptrI, ifrP, putF, Bool.false_eq_true, if_false, if_true] at hbm hpm hnp HA HP2 ⊢
    go_enter Try.func86, Try.ntmps86
    go_wp2_with (first
      | (go_at_call 203; refine (body_any fb _).mono ?_; rintro e w3 ⟨rfl, rfl⟩)
      | (go_at_call 123; with_reducible refine HAC.out.mono ?_; rintro e w5 ⟨rfl, h5⟩; obtain ⟨z1, z2, HP1⟩ := HA.out _ h5; clear h5))
    go_still_tail 8, (by kernel_rfl)
    go_wp2_with ((first | go_at_call 205 | go_at_call 210); with_reducible refine HP1.out.mono ?_; rintro e w2 ⟨rfl, h2⟩; obtain ⟨y3, H2⟩ := HP2.out _ h2; clear h2)
    go_still_tail 8, (by kernel_rfl)
    go_wp2_with ((first | go_at_call 205 | go_at_call 210); with_reducible refine H2.out.mono ?_; rintro e w4 ⟨rfl, h4⟩; have H4 := Lib.hid h4; clear h4)
    all_goals
      first
        | go_end0
        | go_ret
        | refine bodyPost_ret (v := .tuple #[]) (by simp [results, Try.results86]) rfl ?_
        | trace_state
      exact ⟨rfl, H4.out⟩
end
end Go.Proofs.Ytlnccpojldiogaa
