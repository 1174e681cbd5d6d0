/-
  Texts of one seat, one behind the other: ILodW.
-/
import Derived.Deep.RegionLaw
import Derived.Test.YtlnccpojldiogaaMBe
import Derived.Test.YtlnccpojldiogaaMBc

/-
  Package irun: load.
-/
namespace Go.Proofs.Ytlnccpojldiogaa
set_option linter.unusedVariables false
set_option linter.unusedSimpArgs false
open Go.ChangeShapes Go.WideShapes Go.ChangeAt Go.RowKit

section
variable {w0 W W' : World} {ow : Nat → Nat} {bd : Bool} {base rb tg fa fo rgb n c k : Nat} {rs : List RG} {st st' : IMc} {t t' u : IFr} {bl fs : List IFr} {gs : List IG} {gl : List Nat} {fb b o : Nat} {r : RG} {p x : Int} {nd : RN}
theorem IRunX.wget_at {j : Nat} {fj : Nat} (h : IRunX w0 bd rb tg fa fo n c rs st gl rgb W) (hj : st.frames[j]? = some u) (hg : gl[j]? = some fj) (a : Nat) (ha : a ≤ 1000000) : fj < W.heap.size ∧ ∀ m, Calls Try.prog 78 #[.pointer (some ⟨fj, 4, none⟩), .int .i64 a] (W.drewN m) fun e w' => e = .returned (.int .u64 (u.words a)) ∧ w' = W.drewN m := by
  obtain ⟨g, ow, hR, rfl, hrg⟩ := h
  obtain ⟨fg, e1, e2⟩ := hR.frames.at_ hj
  obtain rfl : fg.fb = fj := by simpa [e1] using hg
  refine ⟨e2.blk.blk.lt, fun m => ?_⟩
  have c4 : W.cell? ⟨fg.fb, 4, none⟩ = some fg.pv := by rw [e2.blk.blk.cell]; exact ifrC_4
  exact (pget_any fg.fb 4 a (e2.pag.kr (Kr.of_below (below_drewN (Below.refl _ _) m) ow (fun _ => False)) (fun h => h) (fun h => h)) c4 (by omega) (by have := e2.lpg; omega)).mono fun e w' ⟨he, hw⟩ => ⟨he, hw.symm⟩
set_option maxRecDepth 100000 in
set_option maxHeartbeats 16000000 in
theorem load_ok {j cl : Nat} (h : IRunX w0 bd rb tg fa fo n c rs st (fb :: gl) rgb W) (hf : st.frames = t :: bl) (h0 : st.hidn = 0) (hd : SerDown st.frames) (hl : st.frames.length ≤ 1048576) (hrs : ∀ t ∈ st.frames, ∃ r, rs[t.f]? = some r) (hr : rs[t.f]? = some r) (hN : NdAt w0 b o nd) (hb : b < w0.heap.size) (pa : PlOk r nd.nd.a) (pd : PlOk r nd.nd.d) (hp : pointee (grs rs) st.frames (getP (grs rs) bd st.regs t nd.nd.a) = some (j, cl)) (hj : st.frames[j]? = some u) (hcl : cl < 64) :
    Calls Try.prog 80 #[.pointer (some ⟨rb, 0, none⟩), ifrV bd fb, .pointer (some ⟨b, o, none⟩)] W fun e w' => e = .returned (.tuple #[]) ∧ IRunX w0 bd rb tg fa fo n c rs (st.put (grs rs) bd t bl nd.nd.d (u.words cl)) (fb :: gl) rgb w' := by
  have hNW := hN.kept hb h.low
  have c2 := hNW.c2
  have c4 := hNW.c4
  have c5 := hNW.c5
  obtain ⟨va, hva⟩ : ∃ v, v = getP (grs rs) bd st.regs t nd.nd.a := ⟨_, rfl⟩
  rw [← hva] at hp
  have HGA : Hid (∀ m, Calls Try.prog (getF bd) #[.pointer (some ⟨fb, 0, none⟩), .int .i64 nd.nd.a] (W.drewN m) fun e w' => e = .returned (.int .u64 va) ∧ ∃ q, w' = (W.drewN m).drewN q) := Lib.hid fun m => by
    rw [hva]
    exact get_any (h.on (below_drewN' (Below.refl _ _) m)) hf hr pa
  obtain ⟨P, C, B, hPT, hB1, hB0⟩ := pointee_fix va h h0 (by rw [hf]; simp) hd (by omega) hrs
  obtain rfl : B = true := by
    cases B with
    | true => rfl
    | false => rw [hB0 rfl] at hp; cases hp
  obtain ⟨j', cl', fj, e1, e2, rfl, rfl⟩ := hB1 rfl
  rw [hp] at e1
  injection e1 with e1
  injection e1 with e1 e1'
  subst e1 e1'
  obtain ⟨v, hv⟩ : ∃ v, v = u.words cl := ⟨_, rfl⟩
  rw [← hv]
  obtain ⟨hfz, hwg⟩ := h.wget_at hj e2 cl (by omega)
  rw [← hv] at hwg
  have HPT := Lib.hid hPT
  have HWG : Hid (∀ q, Calls Try.prog 78 #[.pointer (some ⟨fj, 4, none⟩), .int .i64 cl] (W.drewN q).drew fun e w' => e = .returned (.int .u64 v) ∧ w' = (W.drewN q).drew) := Lib.hid fun q => hwg (q + 1)
  have HPUT : Hid (∀ q, Calls Try.prog (putF bd) #[.pointer (some ⟨fb, 0, none⟩), .int .i64 nd.nd.d, .int .u64 v] (W.drewN q).drew fun e w' => e = .returned (.tuple #[]) ∧ IRunX w0 bd rb tg fa fo n c rs (st.put (grs rs) bd t bl nd.nd.d v) (fb :: gl) rgb w') := Lib.hid fun q => put_any (h.on (below_drewN' (Below.refl _ _) q).drew) hf hr pd
  clear h hN hNW hva hPT hB1 hB0 hp e2 hwg hv
  unfold ifrV
  have hgm := get_m bd fb
  have hng := nget_m bd fb
  have hpm := put_m bd fb
  have hnp := nput_m bd fb
  cases bd
  all_goals
    simp only [ptrI, ifrP, getF, putF, Bool.false_eq_true, if_false, if_true] at hgm hng hpm hnp HGA HPUT ⊢
    go_enter Try.func80, Try.ntmps80
    go_wp2
    go_quiet (first
      | (go_at_call 204; with_reducible exact Calls.quiet_of (HGA.out _))
      | (go_at_call 209; with_reducible exact Calls.quiet_of (HGA.out _))
      | (go_at_call 122; with_reducible exact Calls.quiet_of (HPT.out _)))
    have HP := Lib.hid (HPUT.out nq)
    have HG := Lib.hid (HWG.out nq)
    have c2N : (W.drewN nq).cell? ⟨b, o + 2, none⟩ = some (.int .i64 nd.nd.d) := c2
    have hfN : fj < (W.drewN nq).heap.size := hfz
    generalize W.drewN nq = WN at HP HG c2N hfN ⊢
    clear c2 c4 c5 HPUT HGA HPT HWG
    go_wp2
    go_region_law (first
      | (go_simp; go_at_call 78; with_reducible refine HG.out.mono ?_; rintro e w2 ⟨rfl, rfl⟩)
      | (go_simp; go_at_call 205; with_reducible refine HP.out.mono ?_; rintro e w4 ⟨rfl, h4⟩; have H4 := Lib.hid h4; clear h4)
      | (go_simp; go_at_call 210; with_reducible refine HP.out.mono ?_; rintro e w4 ⟨rfl, h4⟩; have H4 := Lib.hid h4; clear h4))
    go_wp2
    all_goals
      first
        | go_end0
        | refine bodyPost_ret (v := .tuple #[]) (by simp [results, Try.results80]) rfl ?_
      exact ⟨rfl, H4.out⟩
end
end Go.Proofs.Ytlnccpojldiogaa
