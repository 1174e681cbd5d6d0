/-
  Texts of one seat, one behind the other: IStoW.
-/
import Derived.Deep.RegionLaw
import Derived.Test.YtlnccpojldiogaaMBe

/-
  Package irun: store: a cell of any frame is written.
-/
namespace Go.Proofs.Ytlnccpojldiogaa
set_option linter.unusedVariables false
set_option linter.unusedSimpArgs false
open Go.ChangeShapes Go.WideShapes Go.ChangeAt Go.RowKit

theorem set_self' {α : Type} {l : List α} {j : Nat} {x : α} (h : l[j]? = some x) : l.set j x = l := by
  obtain ⟨h1, h2⟩ := List.getElem?_eq_some_iff.1 h
  subst h2
  exact List.set_getElem_self h1
section
variable {w0 W W' : World} {ow ow' : Nat → Nat} {ex : Nat → Prop} {bd : Bool} {base rb tg fa fo rgb n c k : Nat} {rs : List RG} {st st' : IMc} {g : IRG} {t t' u u' : IFr} {fg fg' : IG} {bl fs : List IFr} {gs : List IG} {gl : List Nat} {fb b o : Nat} {r : RG} {p x : Int} {nd : RN}
theorem IFrsAt.set_ : ∀ {fs : List IFr} {gs : List IG} {j : Nat}, IFrsAt W ow base bd fa fo rgb fs gs → fs[j]? = some u → Kr ex ow ow' W W' → (∀ x, ex x → 5 * (fs.length - 1 - j) + 11 ≤ x ∧ x ≤ 5 * (fs.length - 1 - j) + 14) → IFrAt W' ow' base bd fa fo rgb (fs.length - 1 - j) u' fg' → IFrsAt W' ow' base bd fa fo rgb (fs.set j u') (gs.set j fg')
  | [], _, j, _, hj, _, _, _ => by simp at hj
  | _ :: _, [], _, h, _, _, _, _ => by cases h
  | v :: bl, g :: gs, 0, h, hj, kr, hex, hn => by
    simp only [List.length_cons, Nat.add_sub_cancel, Nat.sub_zero] at hn hex
    exact ⟨hn, h.2.kr kr (fun hx => by have := hex _ hx; omega) fun x h1 h2 hx => by have := hex _ hx; omega⟩
  | v :: bl, g :: gs, j + 1, h, hj, kr, hex, hn => by
    have hj' : bl[j]? = some u := by simpa using hj
    have hlt := (List.getElem?_eq_some_iff.1 hj').1
    have e : (v :: bl).length - 1 - (j + 1) = bl.length - 1 - j := by simp; omega
    rw [e] at hn hex
    refine ⟨?_, IFrsAt.set_ h.2 hj' kr hex hn⟩
    rw [List.length_set]
    exact h.1.kr kr (fun i hi hx => by have := hex _ hx; omega) (fun hx => by have := hex _ hx; omega)
/-- frame j is turned -/
theorem IRunAt.set_ {j : Nat} (h : IRunAt w0 bd rb tg fa fo n c rs st g ow W) (hj : st.frames[j]? = some u) (hg : g.gs[j]? = some fg) (kr : Kr ex ow ow' W W') (hex : ∀ x, ex x → 5 * (st.frames.length - 1 - j) + 11 ≤ x ∧ x ≤ 5 * (st.frames.length - 1 - j) + 14) (hn : IFrAt W' ow' w0.heap.size bd fa fo g.rgb (st.frames.length - 1 - j) u' fg') (hb : fg'.fb = fg.fb) :
    IRunAt w0 bd rb tg fa fo n c rs { st with frames := st.frames.set j u' } { g with gs := g.gs.set j fg' } ow' W' := by
  have nx : ∀ r, r < 11 → ¬ ex r := fun r hr hx => by have := hex r hx; omega
  refine h.part (h88 := nx 8 (by omega)) kr (nx 9 (by omega)) (h.run.kr kr (nx 0 (by omega))) ?_ (h.frames.set_ hj kr hex hn) (fun hb => ⟨(h.regs hb).1.kr kr (nx 5 (by omega)), (h.regs hb).2⟩) (h.pan.kr kr (nx 6 (by omega))) (h.tr.kr kr (nx 1 (by omega)) (nx 2 (by omega)) (nx 3 (by omega))) h.res fun hd => (h.done hd).kr kr (nx 7 (by omega))
  have h4 := h.frs.kr kr (nx 4 (by omega))
  have e1 : ifrVs bd (g.gs.set j fg') = ifrVs bd g.gs := by
    unfold ifrVs
    rw [List.map_set, set_self' (by rw [List.getElem?_map, hg]; simp [hb])]
  show OR _ _ _ _ _ _ _ ((st.frames.set j u').length - st.hidn) ((ifrVs bd (g.gs.set j fg')).take ((st.frames.set j u').length - st.hidn))
  rw [e1, List.length_set]
  exact h4
/-- .. a cell of it is written -/
theorem IRunX.wput_at {j fj : Nat} (h : IRunX w0 bd rb tg fa fo n c rs st gl rgb W) (hj : st.frames[j]? = some u) (hgl : gl[j]? = some fj) (a : Nat) (ha : a ≤ 2000) : fj < W.heap.size ∧ Calls Try.prog 44 #[.pointer (some ⟨fj, 4, none⟩), .int .i64 a, .int .u64 x] W fun e w' => e = .returned (.tuple #[]) ∧ IRunX w0 bd rb tg fa fo n c rs { st with frames := st.frames.set j { u with words := put1 u.words a x } } gl rgb w' := by
  obtain ⟨g, ow, hR, rfl, hrg⟩ := h
  obtain ⟨fg, e1, hF⟩ := hR.frames.at_ hj
  obtain rfl : fg.fb = fj := by simpa [e1] using hgl
  refine ⟨hF.blk.blk.lt, (pput_any (x := x) hF.blk ifrC_4 (by omega) (by omega) (by omega) hF.pag (by omega) (by have := hF.lpg; omega) hR.below.size).mono fun e w' ⟨he, h⟩ => ⟨he, ?_⟩⟩
  obtain ⟨ow', v', ps', h1, h2, h3, h4⟩ := h
  rw [ifrC_s4 v' (put1 u.words a x) ps'] at h1
  have hlp := hF.lpg
  refine ⟨_, ow', hR.set_ (u' := { u with words := put1 u.words a x }) (fg' := { fg with pv := v', pps := ps' }) hj e1 h3 (fun x hx => by rcases hx with h | h | h <;> omega) ⟨h1, h2, hF.dfr.kr h3 (fun hx => by rcases hx with h | h | h <;> omega), fun j d hd => ?_, hF.lds, by show ps'.length ≤ 200; omega, hF.lbf⟩ rfl, ?_, hrg⟩
  · obtain ⟨v, e1, e2⟩ := hF.args j d hd
    exact ⟨v, e1, e2.kr h3 (fun hx => by rcases hx with h | h | h <;> omega)⟩
  · show (g.gs.set j _).map _ = _
    rw [List.map_set, set_self' (by rw [List.getElem?_map, e1]; rfl)]
set_option maxRecDepth 100000 in
set_option maxHeartbeats 16000000 in
theorem store_ok {j cl : Nat} (h : IRunX w0 bd rb tg fa fo n c rs st (fb :: gl) rgb W) (hf : st.frames = t :: bl) (h0 : st.hidn = 0) (hd : SerDown st.frames) (hl : st.frames.length ≤ 1048576) (hrs : ∀ t ∈ st.frames, ∃ r, rs[t.f]? = some r) (hr : rs[t.f]? = some r) (hN : NdAt w0 b o nd) (hb : b < w0.heap.size) (pa : PlOk r nd.nd.a) (pd : PlOk r nd.nd.b) (hp : pointee (grs rs) st.frames (getP (grs rs) bd st.regs t nd.nd.a) = some (j, cl)) (hj : st.frames[j]? = some u) (hcl : cl < 64) :
    Calls Try.prog 81 #[.pointer (some ⟨rb, 0, none⟩), ifrV bd fb, .pointer (some ⟨b, o, none⟩)] W fun e w' => e = .returned (.tuple #[]) ∧ IRunX w0 bd rb tg fa fo n c rs { st with frames := st.frames.set j { u with words := put1 u.words cl (getP (grs rs) bd st.regs t nd.nd.b) } } (fb :: gl) rgb w' := by
  have hNW := hN.kept hb h.low
  have c2 := hNW.c2
  have c4 := hNW.c4
  have c5 := hNW.c5
  obtain ⟨va, hva⟩ : ∃ v, v = getP (grs rs) bd st.regs t nd.nd.a := ⟨_, rfl⟩
  rw [← hva] at hp
  have HGA : Hid (∀ m, Calls Try.prog (getF bd) #[.pointer (some ⟨fb, 0, none⟩), .int .i64 nd.nd.a] (W.drewN m) fun e w' => e = .returned (.int .u64 va) ∧ ∃ q, w' = (W.drewN m).drewN q) := Lib.hid fun m => by
    rw [hva]
    exact get_any (h.on (below_drewN' (Below.refl _ _) m)) hf hr pa
  obtain ⟨P, C, B, hPT, hB1, hB0⟩ := pointee_fix va h h0 (by rw [hf]; simp) hd (by omega) hrs
  obtain rfl : B = true := by
    cases B with
    | true => rfl
    | false => rw [hB0 rfl] at hp; cases hp
  obtain ⟨j', cl', fj, e1, e2, rfl, rfl⟩ := hB1 rfl
  rw [hp] at e1
  injection e1 with e1
  injection e1 with e1 e1'
  subst e1 e1'
  obtain ⟨v, hv⟩ : ∃ v, v = getP (grs rs) bd st.regs t nd.nd.b := ⟨_, rfl⟩
  rw [← hv]
  have hfz := (h.wput_at (x := v) hj e2 cl (by omega)).1
  have HPT := Lib.hid hPT
  have HWG : Hid (∀ q, Calls Try.prog (getF bd) #[.pointer (some ⟨fb, 0, none⟩), .int .i64 nd.nd.b] (W.drewN q).drew fun e w' => e = .returned (.int .u64 v) ∧ ∃ q', w' = (W.drewN q).drew.drewN q') := Lib.hid fun q => by
    rw [hv]
    exact get_any (h.on (below_drewN' (Below.refl _ _) (q + 1))) hf hr pd
  have HPUT : Hid (∀ q q', Calls Try.prog 44 #[.pointer (some ⟨fj, 4, none⟩), .int .i64 cl, .int .u64 v] ((W.drewN q).drewN q') fun e w' => e = .returned (.tuple #[]) ∧ IRunX w0 bd rb tg fa fo n c rs { st with frames := st.frames.set j { u with words := put1 u.words cl v } } (fb :: gl) rgb w') := Lib.hid fun q q' => (((h.on (below_drewN' (Below.refl _ _) q)).on (below_drewN' (Below.refl _ _) q')).wput_at hj e2 cl (by omega)).2
  clear h hN hNW hva hPT hB1 hB0 hp e2 hv
  unfold ifrV
  have hgm := get_m bd fb
  have hng := nget_m bd fb
  have hpm := put_m bd fb
  have hnp := nput_m bd fb
  cases bd
  all_goals
    simp only [ptrI, ifrP, getF, putF, Bool.false_eq_true, if_false, if_true] at hgm hng hpm hnp HGA HWG ⊢
    go_enter Try.func81, Try.ntmps81
    go_wp2
    go_quiet (first
      | (go_at_call 204; with_reducible exact Calls.quiet_of (HGA.out _))
      | (go_at_call 209; with_reducible exact Calls.quiet_of (HGA.out _))
      | (go_at_call 122; with_reducible exact Calls.quiet_of (HPT.out _)))
    have HP := Lib.hid (HPUT.out nq)
    have HG := Lib.hid (HWG.out nq)
    have c5N : (W.drewN nq).cell? ⟨b, o + 5, none⟩ = some (.int .i64 nd.nd.b) := c5
    have hfN : fj < (W.drewN nq).heap.size := hfz
    generalize W.drewN nq = WN at HP HG c5N hfN ⊢
    clear c2 c4 c5 HPUT HGA HPT HWG
    go_wp2
    go_region_law (first
      | (go_simp; go_at_call 204; with_reducible refine HG.out.mono ?_; rintro e w2 ⟨rfl, q2, rfl⟩)
      | (go_simp; go_at_call 209; with_reducible refine HG.out.mono ?_; rintro e w2 ⟨rfl, q2, rfl⟩)
      | (go_simp; go_at_call 44; with_reducible refine (HP.out _).mono ?_; rintro e w4 ⟨rfl, h4⟩; have H4 := Lib.hid h4; clear h4))
    go_wp2
    all_goals
      first
        | go_end0
        | refine bodyPost_ret (v := .tuple #[]) (by simp [results, Try.results81]) rfl ?_
      exact ⟨rfl, H4.out⟩
end
end Go.Proofs.Ytlnccpojldiogaa
