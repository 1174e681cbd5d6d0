/-
  Texts of one seat, one behind the other: IReck, IReckZ.
-/
import Derived.Test.YtlnccpojldiogaaMBc

/-
  Package irun: reckon, where nothing is divided by 0.
-/
namespace Go.Proofs.Ytlnccpojldiogaa
set_option linter.unusedVariables false
set_option linter.unusedSimpArgs false
open Go.ChangeShapes Go.WideShapes Go.ChangeAt Go.RowKit

section
variable {w0 W W' : World} {bd : Bool} {rb tg fa fo rgb n c k : Nat} {rs : List RG} {st st' : IMc} {t t' : IFr} {bl : List IFr} {gl : List Nat} {fb b o : Nat} {r : RG} {p x : Int} {nd : RN}
set_option maxRecDepth 100000 in
set_option maxHeartbeats 3200000 in
theorem reckon_ok (h : IRunX w0 bd rb tg fa fo n c rs st (fb :: gl) rgb W) (hf : st.frames = t :: bl) (hr : rs[t.f]? = some r) (hN : NdAt w0 b o nd) (hb : b < w0.heap.size) (h7 : 7 ≤ nd.nd.bop) (h20 : nd.nd.bop ≤ 20) (pa : PlOk r nd.nd.a) (pb : PlOk r nd.nd.b) (pd : PlOk r nd.nd.d)
    (hw : isW (getP (grs rs) bd st.regs t nd.nd.b)) (he : doE nd.nd.bop (getP (grs rs) bd st.regs t nd.nd.b) = 0) :
    Calls Try.prog 77 #[.pointer (some ⟨rb, 0, none⟩), ifrV bd fb, .pointer (some ⟨b, o, none⟩)] W fun e w' => e = .returned (.tuple #[]) ∧ IRunX w0 bd rb tg fa fo n c rs (st.put (grs rs) bd t bl nd.nd.d (doV nd.nd.bop (getP (grs rs) bd st.regs t nd.nd.a) (getP (grs rs) bd st.regs t nd.nd.b))) (fb :: gl) rgb w' := by
  have hNW := hN.kept hb h.low
  have c1 := hNW.c1
  have c2 := hNW.c2
  have c4 := hNW.c4
  have c5 := hNW.c5
  obtain ⟨va, hva⟩ : ∃ v, v = getP (grs rs) bd st.regs t nd.nd.a := ⟨_, rfl⟩
  obtain ⟨vb, hvb⟩ : ∃ v, v = getP (grs rs) bd st.regs t nd.nd.b := ⟨_, rfl⟩
  rw [← hvb] at hw he ⊢
  rw [← hva]
  have HGA : Hid (∀ m, Calls Try.prog (getF bd) #[.pointer (some ⟨fb, 0, none⟩), .int .i64 nd.nd.a] (W.drewN m) fun e w' => e = .returned (.int .u64 va) ∧ ∃ q, w' = (W.drewN m).drewN q) := Lib.hid fun m => by
    rw [hva]
    exact get_any (h.on (below_drewN' (Below.refl _ _) m)) hf hr pa
  have HGB : Hid (∀ m, Calls Try.prog (getF bd) #[.pointer (some ⟨fb, 0, none⟩), .int .i64 nd.nd.b] (W.drewN m) fun e w' => e = .returned (.int .u64 vb) ∧ ∃ q, w' = (W.drewN m).drewN q) := Lib.hid fun m => by
    rw [hvb]
    exact get_any (h.on (below_drewN' (Below.refl _ _) m)) hf hr pb
  have HDO : Hid (∀ m, Calls Try.prog 121 #[.int .u8 nd.nd.bop, .int .u64 va, .int .u64 vb] (W.drewN m) fun e w' => e = .returned (.tuple #[.int .u64 (doV nd.nd.bop va vb), .int .i64 0]) ∧ w' = W.drewN m) := Lib.hid fun m =>
    (do_any nd.nd.bop va vb (W.drewN m) h7 h20 hw).mono fun e w' ⟨h1, h2⟩ => ⟨by rw [h1]; unfold wend; rw [he], h2.symm⟩
  obtain ⟨u, hu⟩ : ∃ u, u = doV nd.nd.bop va vb := ⟨_, rfl⟩
  rw [← hu] at HDO ⊢
  have HPUT : Hid (∀ q, Calls Try.prog (putF bd) #[.pointer (some ⟨fb, 0, none⟩), .int .i64 nd.nd.d, .int .u64 u] (W.drewN q).drew fun e w' => e = .returned (.tuple #[]) ∧ IRunX w0 bd rb tg fa fo n c rs (st.put (grs rs) bd t bl nd.nd.d u) (fb :: gl) rgb w') := Lib.hid fun q => put_any (h.on (below_drewN' (Below.refl _ _) q).drew) hf hr pd
  clear h hN hNW hva hvb hu he hw
  unfold ifrV
  have hgm := get_m bd fb
  have hng := nget_m bd fb
  have hpm := put_m bd fb
  have hnp := nput_m bd fb
  cases bd
  all_goals
    simp only [ptrI, ifrP, getF, putF, Bool.false_eq_true, if_false, if_true] at hgm hng hpm hnp HGA HGB HPUT ⊢
    go_enter Try.func77, Try.ntmps77
    go_wp2
    go_quiet (first
      | (go_at_call 204; with_reducible exact Calls.quiet_of (HGA.out _))
      | (go_at_call 209; with_reducible exact Calls.quiet_of (HGA.out _))
      | (go_at_call 204; with_reducible exact Calls.quiet_of (HGB.out _))
      | (go_at_call 209; with_reducible exact Calls.quiet_of (HGB.out _))
      | (go_at_call 121; with_reducible exact Calls.quiet_of_same (HDO.out _)))
    have HP := Lib.hid (HPUT.out nq)
    have c2N : (W.drewN nq).cell? ⟨b, o + 2, none⟩ = some (.int .i64 nd.nd.d) := c2
    generalize W.drewN nq = WN at HP c2N ⊢
    clear c2 HPUT HGA HGB HDO
    go_wp2
    go_still_tail 9, (by kernel_rfl)
    go_wp2_with ((first | go_at_call 205 | go_at_call 210); with_reducible refine HP.out.mono ?_; rintro e w2 ⟨rfl, h2⟩; have H2 := Lib.hid h2; clear h2)
    first
      | go_end0
      | refine bodyPost_ret (v := .tuple #[]) (by simp [results, Try.results77]) rfl ?_
    exact ⟨rfl, H2.out⟩
end
end Go.Proofs.Ytlnccpojldiogaa

/-
  Package irun: reckon, where it is divided by 0.
-/
namespace Go.Proofs.Ytlnccpojldiogaa
set_option linter.unusedVariables false
set_option linter.unusedSimpArgs false
open Go.ChangeShapes Go.WideShapes Go.ChangeAt Go.RowKit

section
variable {w0 W W' : World} {bd : Bool} {rb tg fa fo rgb n c k : Nat} {rs : List RG} {st st' : IMc} {t t' : IFr} {bl : List IFr} {gl : List Nat} {fb b o : Nat} {r : RG} {p x : Int} {nd : RN}
set_option maxRecDepth 100000 in
set_option maxHeartbeats 3200000 in
theorem reckon_zero (h : IRunX w0 bd rb tg fa fo n c rs st (fb :: gl) rgb W) (hf : st.frames = t :: bl) (hr : rs[t.f]? = some r) (hN : NdAt w0 b o nd) (hb : b < w0.heap.size) (h7 : 7 ≤ nd.nd.bop) (h20 : nd.nd.bop ≤ 20) (pa : PlOk r nd.nd.a) (pb : PlOk r nd.nd.b) (hd : st.doing ≠ 3) (hs : st.panics.length ≤ 1048576) (hmx : st.maxp ≤ 1048577)
    (hw : isW (getP (grs rs) bd st.regs t nd.nd.b)) (he : doE nd.nd.bop (getP (grs rs) bd st.regs t nd.nd.b) ≠ 0) :
    Calls Try.prog 77 #[.pointer (some ⟨rb, 0, none⟩), ifrV bd fb, .pointer (some ⟨b, o, none⟩)] W fun e w' => e = .returned (.tuple #[]) ∧ IRunX w0 bd rb tg fa fo n c rs (st.raise iByZero) (fb :: gl) rgb w' := by
  have hNW := hN.kept hb h.low
  have c1 := hNW.c1
  have c4 := hNW.c4
  have c5 := hNW.c5
  obtain ⟨va, hva⟩ : ∃ v, v = getP (grs rs) bd st.regs t nd.nd.a := ⟨_, rfl⟩
  obtain ⟨vb, hvb⟩ : ∃ v, v = getP (grs rs) bd st.regs t nd.nd.b := ⟨_, rfl⟩
  rw [← hvb] at hw he
  have HGA : Hid (∀ m, Calls Try.prog (getF bd) #[.pointer (some ⟨fb, 0, none⟩), .int .i64 nd.nd.a] (W.drewN m) fun e w' => e = .returned (.int .u64 va) ∧ ∃ q, w' = (W.drewN m).drewN q) := Lib.hid fun m => by
    rw [hva]
    exact get_any (h.on (below_drewN' (Below.refl _ _) m)) hf hr pa
  have HGB : Hid (∀ m, Calls Try.prog (getF bd) #[.pointer (some ⟨fb, 0, none⟩), .int .i64 nd.nd.b] (W.drewN m) fun e w' => e = .returned (.int .u64 vb) ∧ ∃ q, w' = (W.drewN m).drewN q) := Lib.hid fun m => by
    rw [hvb]
    exact get_any (h.on (below_drewN' (Below.refl _ _) m)) hf hr pb
  have he10 : doE nd.nd.bop vb = 10 := by
    revert he
    unfold doE
    split
    · intro _; rfl
    · intro h; exact absurd rfl h
  have HDO : Hid (∀ m, Calls Try.prog 121 #[.int .u8 nd.nd.bop, .int .u64 va, .int .u64 vb] (W.drewN m) fun e w' => e = .returned (.tuple #[.int .u64 (doV nd.nd.bop va vb), .int .i64 10]) ∧ w' = W.drewN m) := Lib.hid fun m =>
    (do_any nd.nd.bop va vb (W.drewN m) h7 h20 hw).mono fun e w' ⟨h1, h2⟩ => ⟨by rw [h1]; unfold wend; rw [he10], h2.symm⟩
  obtain ⟨u, hu⟩ : ∃ u, u = doV nd.nd.bop va vb := ⟨_, rfl⟩
  rw [← hu] at HDO
  have HRZ : Hid (∀ W', IRunX w0 bd rb tg fa fo n c rs st (fb :: gl) rgb W' → Calls Try.prog 85 #[.pointer (some ⟨rb, 0, none⟩), .int .u64 18446744073709551615] W' fun e w' => e = .returned (.tuple #[]) ∧ IRunX w0 bd rb tg fa fo n c rs (st.raise iByZero) (fb :: gl) rgb w') := Lib.hid fun W' h' => raise_any iByZero h' hd hs hmx
  have HXX := Lib.hid h
  clear h hN hNW hva hvb hu he hw he10
  unfold ifrV
  have hgm := get_m bd fb
  have hng := nget_m bd fb
  cases bd
  all_goals
    simp only [ptrI, ifrP, getF, Bool.false_eq_true, if_false, if_true] at hgm hng HGA HGB ⊢
    go_enter Try.func77, Try.ntmps77
    go_wp2
    go_quiet (first
      | (go_at_call 204; with_reducible exact Calls.quiet_of (HGA.out _))
      | (go_at_call 209; with_reducible exact Calls.quiet_of (HGA.out _))
      | (go_at_call 204; with_reducible exact Calls.quiet_of (HGB.out _))
      | (go_at_call 209; with_reducible exact Calls.quiet_of (HGB.out _))
      | (go_at_call 121; with_reducible exact Calls.quiet_of_same (HDO.out _)))
    have HP := Lib.hid (HRZ.out _ (HXX.out.on (below_drewN' (Below.refl _ _) nq)))
    have HP2 := Lib.hid (HRZ.out _ (HXX.out.on (below_drewN' (Below.refl _ _) nq).drew))
    generalize W.drewN nq = WN at HP HP2 ⊢
    clear HGA HGB HDO
    go_wp2_with (first
      | (go_at_call 85; with_reducible refine HP.out.mono ?_; rintro e w2 ⟨rfl, h2⟩; have H2 := Lib.hid h2; clear h2)
      | (go_at_call 85; with_reducible refine HP2.out.mono ?_; rintro e w2 ⟨rfl, h2⟩; have H2 := Lib.hid h2; clear h2))
    all_goals
      first
        | go_end0
        | refine bodyPost_ret (v := .tuple #[]) (by simp [results, Try.results77]) rfl ?_
      exact ⟨rfl, H2.out⟩
end
end Go.Proofs.Ytlnccpojldiogaa
