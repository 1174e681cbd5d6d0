/-
  Texts of one seat, one behind the other: ICat, IActv, IUnd2, IDelay.
-/
import Derived.RegionTactic
import Derived.Deep.RegionLaw
import Derived.Test.YtlnccpojldiogaaMBc

/-
  Package irun: catch, in a frame that no panic called.
-/
namespace Go.Proofs.Ytlnccpojldiogaa
set_option linter.unusedVariables false
set_option linter.unusedSimpArgs false
open Go.ChangeShapes Go.WideShapes Go.ChangeAt Go.RowKit

section
variable {w0 W W' : World} {bd : Bool} {rb tg fa fo rgb n c k : Nat} {rs : List RG} {st st' : IMc} {t t' : IFr} {bl : List IFr} {gl : List Nat} {fb b o : Nat} {r : RG} {p x : Int} {nd : RN}
theorem putT_f (gs : List Gr) (bd : Bool) (t : IFr) (p v : Int) : (putT gs bd t p v).f = t.f := by unfold putT; split <;> rfl
theorem IRunX.why_ (h : IRunX w0 bd rb tg fa fo n c rs st (fb :: gl) rgb W) (hf : st.frames = t :: bl) : W.cell? ⟨fb, 1, none⟩ = some (.int .i64 t.why) := by
  obtain ⟨g, ow, fg, gs, hR, hg, rfl, hgl, hrg, hF⟩ := h.open_ hf
  rw [hF.blk.blk.cell]
  exact ifrC_1
theorem put2_any (h : IRunX w0 bd rb tg fa fo n c rs (st.put (grs rs) bd t bl p x) (fb :: gl) rgb W) (hr : rs[t.f]? = some r) {p' x' : Int} (hp : PlOk r p') :
    Calls Try.prog (putF bd) #[.pointer (some ⟨fb, 0, none⟩), .int .i64 p', .int .u64 x'] W fun e w' => e = .returned (.tuple #[]) ∧ IRunX w0 bd rb tg fa fo n c rs ((st.put (grs rs) bd t bl p x).put2 (grs rs) bd bl p' x') (fb :: gl) rgb w' :=
  put_any (t := putT (grs rs) bd t p x) (bl := bl) h rfl (by rw [putT_f]; exact hr) hp
set_option maxRecDepth 100000 in
set_option maxHeartbeats 3200000 in
theorem catch_far (h : IRunX w0 bd rb tg fa fo n c rs st (fb :: gl) rgb W) (hf : st.frames = t :: bl) (hr : rs[t.f]? = some r) (hN : NdAt w0 b o nd) (hb : b < w0.heap.size) (pd : PlOk r nd.nd.d) (pe : PlOk r nd.nd.e) (hw : ¬ t.why = 3) :
    Calls Try.prog 86 #[.pointer (some ⟨rb, 0, none⟩), ifrV bd fb, .pointer (some ⟨b, o, none⟩)] W fun e w' => e = .returned (.tuple #[]) ∧ IRunX w0 bd rb tg fa fo n c rs ((st.put (grs rs) bd t bl nd.nd.d 0).put2 (grs rs) bd bl nd.nd.e 0) (fb :: gl) rgb w' := by
  have c2 := (hN.kept hb h.low).c2
  have c1w := h.why_ hf
  obtain ⟨y, hy⟩ : ∃ y : Int, y = (t.why : Int) := ⟨_, rfl⟩
  rw [← hy] at c1w
  have gw : (y == 3) = false := by simp; omega
  have gy : ¬ y = 3 := by omega
  have HC3 : Hid (∀ W', Below w0.heap.size w0 W' → W'.cell? ⟨b, o + 3, none⟩ = some (.int .i64 nd.nd.e)) := Lib.hid fun W' h' => (hN.kept hb h').c3
  have HP1 := Lib.hid (put_any (x := 0) (h.on (Below.refl _ _).drew) hf hr pd)
  have HP2 : Hid (∀ W', IRunX w0 bd rb tg fa fo n c rs (st.put (grs rs) bd t bl nd.nd.d 0) (fb :: gl) rgb W' → W'.cell? ⟨b, o + 3, none⟩ = some (.int .i64 nd.nd.e) ∧ Hid (Calls Try.prog (putF bd) #[.pointer (some ⟨fb, 0, none⟩), .int .i64 nd.nd.e, .int .u64 0] W'.drew fun e w' => e = .returned (.tuple #[]) ∧ IRunX w0 bd rb tg fa fo n c rs ((st.put (grs rs) bd t bl nd.nd.d 0).put2 (grs rs) bd bl nd.nd.e 0) (fb :: gl) rgb w')) := Lib.hid fun W' h' =>
    ⟨HC3.out _ h'.low, Lib.hid (put2_any (h'.on (Below.refl _ _).drew) hr pe)⟩
  clear h hN hf hr hw hy
  unfold ifrV
  have hbm := body_m bd fb
  have hpm := put_m bd fb
  have hnp := nput_m bd fb
  cases bd
  all_goals
    simp only [ptrI, ifrP, putF, Bool.false_eq_true, if_false, if_true] at hbm hpm hnp HP1 HP2 ⊢
    go_enter Try.func86, Try.ntmps86
    go_wp2_with (go_at_call 203; refine (body_any fb _).mono ?_; rintro e w3 ⟨rfl, rfl⟩)
    go_still_tail 8, (by kernel_rfl)
    go_wp2_with ((first | go_at_call 205 | go_at_call 210); with_reducible refine HP1.out.mono ?_; rintro e w2 ⟨rfl, h2⟩; obtain ⟨y3, H2⟩ := HP2.out _ h2; clear h2)
    go_still_tail 8, (by kernel_rfl)
    go_wp2_with ((first | go_at_call 205 | go_at_call 210); with_reducible refine H2.out.mono ?_; rintro e w4 ⟨rfl, h4⟩; have H4 := Lib.hid h4; clear h4)
    all_goals
      first
        | go_end0
        | go_ret
        | refine bodyPost_ret (v := .tuple #[]) (by simp [results, Try.results86]) rfl ?_
        | trace_state
      exact ⟨rfl, H4.out⟩
end
end Go.Proofs.Ytlnccpojldiogaa

/-
  Package irun: active; the active panic in memory.
-/
namespace Go.Proofs.Ytlnccpojldiogaa
set_option linter.unusedVariables false
set_option linter.unusedSimpArgs false
open Go.ChangeShapes Go.WideShapes Go.ChangeAt Go.RowKit

section
variable {w0 W W' : World} {bd : Bool} {rb tg fa fo rgb n c k : Nat} {rs : List RG} {st st' : IMc} {t t' : IFr} {bl : List IFr} {gl : List Nat} {fb b o : Nat} {r : RG} {p x : Int} {nd : RN}
variable {ow : Nat → Nat}
theorem OR.cell2 {base r q i m c : Nat} {e : TypeId} {xs : List Value} {u : Value} (h : OR W ow base r e 2 (.slice (some ⟨q, 0, none⟩) m c) m xs) (hx : xs[i]? = some u) (y : Value) : q < W.heap.size ∧ W.cell? ⟨q, i, none⟩ = some u ∧ W.frozen? ⟨q, i, none⟩ = false ∧ i < m * 2 ∧ m ≤ c ∧
    ((∀ z ∈ xs.set i y, z.oneCell' = true) → OR (W.setCell ⟨q, i, none⟩ y) ow base r e 2 (.slice (some ⟨q, 0, none⟩) m c) m (xs.set i y)) ∧ Kr (e1 r) ow ow W (W.setCell ⟨q, i, none⟩ y) := by
  have hk : i < m * 2 := by
    have h1 := h.own.1
    have := (List.getElem?_eq_some_iff.1 hx).1
    omega
  have hq := h.role q rfl
  have hl := h.own.1
  rcases h.own.2 with ⟨he, _⟩ | ⟨q', cap, cur, he, hb, hh, hnc, hcm, hcs, hxs⟩
  · cases he
  · injection he with h1 h2 h3
    injection h1 with h1
    injection h1 with h1
    subst h1 h3
    have hbk : Blk W q e cur := hh
    refine ⟨hbk.lt, ?_, hbk.frozen i, hk, hnc, fun _ => ⟨⟨by rw [List.length_set]; exact hl, .inr ⟨q, c, cur.setIfInBounds i y, rfl, hb, hbk.set_ i _, hnc, hcm, by simpa using hcs, by rw [Array.toList_setIfInBounds, List.take_set, hxs]⟩⟩, h.role⟩, ⟨rfl, rfl, rfl, by simp [World.setCell], fun j hj hn => Below.heap_setCell W ⟨q, i, none⟩ _ j (by rintro rfl; exact hn hq), fun _ _ => rfl⟩⟩
    rw [hbk.cell]
    have h2 : (cur.toList.take (m * 2))[i]? = some u := by rw [hxs]; exact hx
    rw [List.getElem?_take, if_pos (by omega)] at h2
    rw [← Array.getElem?_toList]
    exact h2
theorem ipnc_cons (p : Int × Bool) (ps : List (Int × Bool)) : ipnc (p :: ps) = ipnc ps ++ [.int .u64 p.1, .bool p.2] := by simp [ipnc]
theorem length_ipnc : ∀ l : List (Int × Bool), (ipnc l).length = l.length * 2
  | [] => rfl
  | p :: ps => by
    rw [ipnc_cons, List.length_append, length_ipnc ps]
    simp only [List.length_cons, List.length_nil]
    omega
theorem ipnc_one (l : List (Int × Bool)) : ∀ u ∈ ipnc l, u.oneCell' = true := by
  intro u hu
  unfold ipnc at hu
  obtain ⟨x, _, hx⟩ := List.mem_flatMap.1 hu
  simp at hx
  rcases hx with rfl | rfl <;> rfl
/-- the active panic -/
theorem IRunX.actv {v : Int} {rc : Bool} {ps : List (Int × Bool)} (h : IRunX w0 bd rb tg fa fo n c rs st gl rgb W) (hp : st.panics = (v, rc) :: ps) (hd : st.doing ≠ 3) :
    ∃ q cq, W.cell? ⟨rb, 5, none⟩ = some (.slice (some ⟨q, 0, none⟩) (ps.length + 1) cq) ∧ W.cell? ⟨q, ps.length * 2, none⟩ = some (.int .u64 v) ∧ W.cell? ⟨q, ps.length * 2 + 1, none⟩ = some (.bool rc) ∧ W.frozen? ⟨q, ps.length * 2 + 1, none⟩ = false ∧ q < W.heap.size ∧ rb < W.heap.size ∧ ps.length + 1 ≤ cq ∧
      ∀ x, IRunX w0 bd rb tg fa fo n c rs { st with panics := (v, x) :: ps } gl rgb (W.setCell ⟨q, ps.length * 2 + 1, none⟩ (.bool x)) := by
  obtain ⟨g, ow, hR, hg, hpb⟩ := h
  have h4 := hR.pan
  rw [hp] at h4
  obtain ⟨q, cq, hq⟩ := h4.form8 (by simp)
  rw [hq] at h4
  simp only [List.length_cons] at h4 hq
  rw [ipnc_cons] at h4
  have hl := length_ipnc ps
  obtain ⟨e1, e2, _, _, e5, _, _⟩ := h4.cell2 (i := ps.length * 2) (u := .int .u64 v) (by rw [List.getElem?_append_right (by omega)]; simp [hl]) (.bool true)
  obtain ⟨_, e3, e4, _, _, _, _⟩ := h4.cell2 (i := ps.length * 2 + 1) (u := .bool rc) (by rw [List.getElem?_append_right (by omega)]; simp [hl]) (.bool true)
  refine ⟨q, cq, ?_, e2, e3, e4, e1, hR.run.blk.lt, e5, fun x => ?_⟩
  · rw [hR.run.blk.cell]
    show some g.pv = _
    rw [hq]
  · obtain ⟨_, _, _, _, _, hO, k⟩ := h4.cell2 (i := ps.length * 2 + 1) (u := .bool rc) (by rw [List.getElem?_append_right (by omega)]; simp [hl]) (.bool x)
    have es : (ipnc ps ++ [Value.int .u64 v, .bool rc]).set (ps.length * 2 + 1) (.bool x) = ipnc ((v, x) :: ps) := by
      rw [ipnc_cons, List.set_append_right (h := by omega)]
      simp [hl]
    rw [es] at hO
    have hO := hO (ipnc_one _)
    refine ⟨g, ow, hR.part k (ne1 (by omega)) (hR.run.kr k (ne1 (by omega))) (hR.frs.kr k (ne1 (by omega))) (hR.frames.kr k (ne1 (by omega)) fun x h1 h2 => ne1 (by omega)) (fun hb => ⟨(hR.regs hb).1.kr k (ne1 (by omega)), (hR.regs hb).2⟩) ?_ (hR.tr.kr k (ne1 (by omega)) (ne1 (by omega)) (ne1 (by omega))) (fun _ => hR.res hd) (fun h3 => absurd h3 hd), hg, hpb⟩
    rw [hq]
    exact hO
set_option maxRecDepth 100000 in
set_option maxHeartbeats 1600000 in
theorem active_any {v : Int} {rc : Bool} {ps : List (Int × Bool)} {q cq m : Nat} (hm : m ≤ 1048577) (x0 : W.cell? ⟨rb, 5, none⟩ = some (.slice (some ⟨q, 0, none⟩) (m + 1) cq)) (hqz : q < W.heap.size) (hrz : rb < W.heap.size) (hc : m + 1 ≤ cq) :
    Calls Try.prog 123 #[.pointer (some ⟨rb, 0, none⟩)] W fun e w' => e = .returned (.pointer (some ⟨q, m * 2, none⟩)) ∧ ∃ k, w' = W.drewN k := by
  have hm1 : ((m : Int) + 1) - 1 = (m : Int) := by omega
  have hm0 : (0 : Int) ≤ (m : Int) := by omega
  have hmm : (m : Int) < (m : Int) + 1 := by omega
  have hmn : m < m + 1 := by omega
  go_enter Try.func123, Try.ntmps123
  go_wp2
  go_quiet (fail)
  go_wp2
  go_ret
  exact ⟨by first | rfl | simp, _, rfl⟩
end
end Go.Proofs.Ytlnccpojldiogaa

/-
  Package irun: undefer, where something is deferred.
-/
namespace Go.Proofs.Ytlnccpojldiogaa
set_option linter.unusedVariables false
set_option linter.unusedSimpArgs false
open Go.ChangeShapes Go.WideShapes Go.ChangeAt Go.RowKit

section
variable {w0 W W' : World} {ow ow' : Nat → Nat} {ex : Nat → Prop} {bd : Bool} {base rb tg fa fo rgb n c k : Nat} {rs : List RG} {st st' : IMc} {g g' : IRG} {t t' : IFr} {bl : List IFr} {gl : List Nat} {fb b o : Nat} {d : IDf} {ds : List IDf}
/-- a run, and arguments that can be read -/
def IRunA (w0 : World) (bd : Bool) (rb tg fa fo n c : Nat) (rs : List RG) (st : IMc) (gl : List Nat) (rgb : Nat) (AA : Option Addr) (p : Nat) (args : List Int) (W : World) : Prop :=
  ∃ g ow, IRunAt w0 bd rb tg fa fo n c rs st g ow W ∧ g.gs.map (fun x => x.fb) = gl ∧ g.rgb = rgb ∧ Reads W W.heap.size 1 AA p (u64c args) ∧ (∀ ad, AA = some ad → ow ad.block = 8)
theorem IRunA.on {AA : Option Addr} {p : Nat} {args : List Int} (h : IRunA w0 bd rb tg fa fo n c rs st gl rgb AA p args W) (hb : Below W.heap.size W W') : IRunA w0 bd rb tg fa fo n c rs st gl rgb AA p args W' := by
  obtain ⟨g, ow, h1, h2, h3, h4, h5⟩ := h
  exact ⟨g, ow, h1.on hb, h2, h3, (h4.below hb).more hb.size, h5⟩
theorem IRunA.runX {AA : Option Addr} {p : Nat} {args : List Int} (h : IRunA w0 bd rb tg fa fo n c rs st gl rgb AA p args W) : IRunX w0 bd rb tg fa fo n c rs st gl rgb W := by
  obtain ⟨g, ow, h1, h2, h3, h4, h5⟩ := h
  exact ⟨g, ow, h1, h2, h3⟩
theorem length_idfc : ∀ (ds : List IDf) (vs : List Value), vs.length = ds.length → (idfc ds vs).length = ds.length * 2
  | [], [], _ => rfl
  | [], _ :: _, h => by cases h
  | _ :: _, [], h => by cases h
  | d :: ds, v :: vs, h => by
    have := length_idfc ds vs (by simpa using h)
    simp only [idfc, List.length_append, List.length_cons, List.length_nil, this]
    omega
theorem idfc_last (d : IDf) (ds : List IDf) (v : Value) (vs : List Value) (h : vs.length = ds.length) : (idfc (d :: ds) (v :: vs))[ds.length * 2]? = some (.int .i64 d.fn) ∧ (idfc (d :: ds) (v :: vs))[ds.length * 2 + 1]? = some v ∧ (idfc (d :: ds) (v :: vs)).take (ds.length * 2) = idfc ds vs := by
  have hl := length_idfc ds vs h
  have hu : idfc (d :: ds) (v :: vs) = idfc ds vs ++ [.int .i64 d.fn, v] := rfl
  rw [hu]
  refine ⟨?_, ?_, ?_⟩
  · rw [List.getElem?_append_right (by omega)]; simp [hl]
  · rw [List.getElem?_append_right (by omega), hl]; simp
  · rw [← hl]; simp
theorem ifrC_s5 {fg : IG} (v : Value) (ds : List IDf) (vs : List Value) : (ifrC bd fa fo rgb t fg).setIfInBounds 5 v = ifrC bd fa fo rgb { t with defs := ds } { fg with dv := v, ds := vs } := by unfold ifrC; cases bd <;> simp [Array.setIfInBounds_append]
theorem IFrAt.dfrCut {fg : IG} {v u : Value} {vs : List Value} (h : IFrAt W ow base bd fa fo rgb k t fg) (hd : t.defs = d :: ds) (hg : fg.ds = u :: vs) (kr : Kr (e1 (5 * k + 11)) ow ow' W W') (h1 : OB W' ow' base (5 * k + 11) fg.fb (ifrT bd) ((ifrC bd fa fo rgb t fg).setIfInBounds 5 v)) (h2 : OR W' ow' base (5 * k + 14) 98 2 v ds.length (idfc ds vs)) :
    IFrAt W' ow' base bd fa fo rgb k { t with defs := ds } { fg with dv := v, ds := vs } := by
  refine ⟨by rw [ifrC_s5 v ds vs] at h1; exact h1, h.pag.kr kr (ne1 (by omega)) (ne1 (by omega)), h2, fun j d' hj => ?_, ?_, h.lpg, h.lbf⟩
  · obtain ⟨v', e1, e2⟩ := h.args (j + 1) d' (by rw [hd]; simpa using hj)
    rw [hg] at e1
    exact ⟨v', by simpa using e1, e2.kr kr (ne1 (by omega))⟩
  · have := h.lds
    rw [hd, hg] at this
    simpa using this
theorem OR.cells_ {base r q k m c size : Nat} {e : TypeId} {xs : List Value} {u : Value} (h : OR W ow base r e size (.slice (some ⟨q, 0, none⟩) m c) m xs) (hx : xs[k]? = some u) : q < W.heap.size ∧ W.cell? ⟨q, k, none⟩ = some u ∧ W.frozen? ⟨q, k, none⟩ = false ∧ m ≤ c ∧ base ≤ q := by
  have hk : k < m * size := by
    have h1 := h.own.1
    have := (List.getElem?_eq_some_iff.1 hx).1
    omega
  rcases h.own.2 with ⟨he, _⟩ | ⟨q', cap, cur, he, hb, hh, hnc, hcm, hcs, hxs⟩
  · cases he
  · injection he with h1 h2 h3
    injection h1 with h1
    injection h1 with h1
    subst h1 h3
    have hbk : Blk W q e cur := hh
    refine ⟨hbk.lt, ?_, hbk.frozen k, hnc, hb⟩
    rw [hbk.cell]
    have h2 : (cur.toList.take (m * size))[k]? = some u := by rw [hxs]; exact hx
    rw [List.getElem?_take, if_pos hk] at h2
    rw [← Array.getElem?_toList]
    exact h2

set_option maxRecDepth 100000 in
set_option maxHeartbeats 1600000 in
theorem undefer_some (h : IRunX w0 bd rb tg fa fo n c rs st (fb :: gl) rgb W) (hf : st.frames = t :: bl) (hd : t.defs = d :: ds) (hdo : st.doing ≠ 3) (hs : ds.length ≤ 1048576) (hw0 : 0 < st.waiting) (hw : st.waiting ≤ 1048577) (hfn : d.fn ≤ 1048577) :
    Calls Try.prog 89 #[.pointer (some ⟨rb, 0, none⟩), .pointer (some ⟨fb, 0, none⟩)] W fun e w' => ∃ AA cA, e = .returned (.tuple #[.agg #[.int .i64 d.fn, .slice AA d.args.length cA], .bool true]) ∧ d.args.length ≤ cA ∧ (AA = none → d.args.length = 0) ∧ IRunA w0 bd rb tg fa fo n c rs { st.top { t with defs := ds } bl with waiting := st.waiting - 1 } (fb :: gl) rgb AA d.args.length d.args w' := by
  obtain ⟨g, ow, fg, gs, hR, hg, rfl, hgl, hpb, hF⟩ := h.open_ hf
  obtain ⟨v, vs, hvs⟩ : ∃ v vs, fg.ds = v :: vs := by
    have := hF.lds
    rw [hd] at this
    cases hx : fg.ds with
    | nil => rw [hx] at this; cases this
    | cons v vs => exact ⟨v, vs, rfl⟩
  have hlv : vs.length = ds.length := by have := hF.lds; rw [hd, hvs] at this; simpa using this
  obtain ⟨l0, l1, l2⟩ := idfc_last d ds v vs hlv
  obtain ⟨m, hm⟩ : ∃ m, m = ds.length := ⟨_, rfl⟩
  have hml : t.defs.length = m + 1 := by rw [hd, hm]; rfl
  have hD := hF.dfr
  rw [hml, hd, hvs] at hD
  rw [← hm] at l0 l1 l2 hs
  obtain ⟨A, cd, hdv⟩ := hD.form8 (by omega)
  rw [hdv] at hD
  obtain ⟨hAz, c40, _, hmc, _⟩ := hD.cells_ l0
  obtain ⟨_, c41, _, _, _⟩ := hD.cells_ l1
  obtain ⟨v', e1, hV⟩ := hF.args 0 d (by rw [hd]; rfl)
  rw [hvs] at e1
  obtain rfl : v = v' := by simpa using e1
  obtain ⟨AA, cA, hv⟩ := hV.slice
  subst hv
  obtain ⟨p, hp⟩ : ∃ p, p = d.args.length := ⟨_, rfl⟩
  rw [← hp] at hV c41 ⊢
  have hpc : p ≤ cA := own_cap hV.own
  have hpz : AA = none → p = 0 := fun hA => by
    rcases hV.own.2 with ⟨he, h0⟩ | ⟨q', cap, cur, he, _⟩
    · exact h0
    · injection he with h1; rw [hA] at h1; cases h1
  obtain ⟨q, hq⟩ : ∃ q, q = fg.fb := ⟨_, rfl⟩
  have hqz : q < W.heap.size := by rw [hq]; exact hF.blk.blk.lt
  have c4 : W.cell? ⟨q, 5, none⟩ = some (.slice (some ⟨A, 0, none⟩) (m + 1) cd) := by rw [hq, hF.blk.blk.cell, ifrC_5, hdv]
  have f4 : W.frozen? ⟨q, 5, none⟩ = false := by rw [hq]; exact hF.blk.blk.frozen 5
  have hrz : rb < W.heap.size := hR.run.blk.lt
  have c6 : W.cell? ⟨rb, 6, none⟩ = some (.int .i64 st.waiting) := hR.run.blk.cell 6
  have f6 : W.frozen? ⟨rb, 6, none⟩ = false := hR.run.blk.frozen 6
  have hqr : q ≠ rb := by
    intro he
    have h1 := hF.blk.role
    have h2 := hR.run.role
    rw [← hq, he, h2] at h1
    omega
  obtain ⟨y, hy⟩ : ∃ y, y = st.waiting := ⟨_, rfl⟩
  rw [← hy] at hw0 hw c6
  obtain ⟨kf, hkf⟩ : ∃ y, y = d.fn := ⟨_, rfl⟩
  rw [← hkf] at c40 hfn ⊢
  have hsub : ((m + 1 : Nat) : Int) - 1 = (m : Int) := by omega
  have hsuw : (y : Int) - 1 = ((y - 1 : Nat) : Int) := by omega
  rw [← hq, ← hy]
  have HFIN0 : Hid (IRunA w0 bd rb tg fa fo n c rs { st.top { t with defs := ds } bl with waiting := y - 1 } (q :: gl) rgb AA p d.args ((W.setCell ⟨q, 5, none⟩ (.slice (some ⟨A, 0, none⟩) m cd)).setCell ⟨rb, 6, none⟩ (.int .i64 ((y - 1 : Nat) : Int)))) := Lib.hid (by
    obtain ⟨hB8, hO8, hkr⟩ := cut_set (k := m) hF.blk hD (by omega) (by omega) 5
    rw [l2] at hO8
    have hF8 := hF.dfrCut (v := .slice (some ⟨A, 0, none⟩) m cd) hd hvs hkr hB8 (by rw [← hm]; exact hO8)
    have hR8 := hR.top_ hf hg hkr (fun x hx => by have : x = _ := hx; omega) hF8 rfl
    have k := Kr.set hR8.run 6 (.int .i64 ((y - 1 : Nat) : Int))
    have hR9 := hR8.part (st' := { st.top { t with defs := ds } bl with waiting := y - 1 }) k (ne1 (by omega)) (by exact hR8.run.set_ 6 _) (hR8.frs.kr k (ne1 (by omega))) (hR8.frames.kr k (ne1 (by omega)) fun x h1 h2 => ne1 (by omega)) (fun hb => ⟨(hR8.regs hb).1.kr k (ne1 (by omega)), (hR8.regs hb).2⟩) (hR8.pan.kr k (ne1 (by omega))) (hR8.tr.kr k (ne1 (by omega)) (ne1 (by omega)) (ne1 (by omega))) (fun _ => hR8.res hdo) (fun h3 => absurd h3 hdo)
    have hV8 := (hV.kr hkr (ne1 (by omega))).kr k (ne1 (by omega))
    rw [hq]
    exact ⟨_, ow, hR9, by simp [hgl], hpb, (Reads.of_own hV8.own).more (Nat.le_refl _), fun ad had => hV8.role ad.block (by rw [had]; rfl)⟩)
  have HB0 : ∀ W' : World, ∀ o o', Below W'.heap.size W' ((W'.alloc o).alloc o') := fun W' o o' => ((Below.refl _ _).alloc (Nat.le_refl _) o).alloc ((Below.refl _ _).alloc (Nat.le_refl _) o).size o'
  have HFIN := Lib.hid fun o o' => IRunA.on HFIN0.out (HB0 _ o o')
  clear h hR hF hf hg hgl hpb hdv hd hq hD l0 l1 l2 hm hml hlv hvs hV e1 hy hkf hp HFIN0 HB0
  go_enter Try.func89, Try.ntmps89
  go_wp2
  exact bodyPost_ret (v := .tuple #[.agg #[.int .i64 kf, .slice AA p cA], .bool true]) (by simp [results, Try.results89, go_sem]) rfl ⟨AA, cA, rfl, hpc, hpz, HFIN.out _ _⟩
end
end Go.Proofs.Ytlnccpojldiogaa

/-
  Package irun: delay: a call is deferred.
-/
namespace Go.Proofs.Ytlnccpojldiogaa
set_option linter.unusedVariables false
set_option linter.unusedSimpArgs false
open Go.ChangeShapes Go.WideShapes Go.ChangeAt Go.RowKit

theorem info_inv : (Try.prog.info? 98).map (fun i => (i.zero, i.size, i.bytes)) = some (some (.agg #[.int .i64 0, .slice none 0 0]), 2, 32) := by kernel_rfl
theorem grown_of_drew' {a b : World} {row : Option Nat} (h : a.drew.grownBy b row) : a.grownBy b row := ⟨h.os, h.tape, h.output, h.size, h.block⟩
theorem step_inv {w : World} {ops : Array Oper} {o : Oper} {a : Act} {K : Act → World → Prop} {Q : Exit → Act → World → Prop} {E : Prop} (hgd : o.guard = none) (s x : Operand)
    (ho : o.op = .call { callee := .builtin .append, args := #[s, x], argTypes := #[131, 131] }) (base : Nat)
    (v : Value) (n : Nat) (xs : List Value) (hs : a.eval s = v) (hown : w.ownsRow base 98 2 v n xs)
    (B : Nat) (A : Option Addr) (m c : Nat) (news : List Value) (hx : a.eval x = .slice A m c) (hr : Reads w B 2 A m news) (h1 : ∀ u ∈ news, u.oneCell' = true)
    (hbytes : (n + m) * 32 ≤ 140737488355328) (hbase : base ≤ w.heap.size)
    (h : ∀ v' w', w'.ownsRow base 98 2 v' (n + m) (xs ++ news) → w.grownBy w' v.ownBlock → (v'.ownBlock = v.ownBlock ∨ v'.ownBlock = some w.heap.size) → K (a.put o.dst v') w') :
    if Region.wanted o (yielded ops a.tmps) = true then Oper.wp Try.prog o a w K Q else E := by
  obtain ⟨i0, hi, hz0, hz1, hz2⟩ := info_parts info_inv
  exact step_append_any w hgd s x _ ho base 98 i0 (.agg #[.int .i64 0, .slice none 0 0]) 2 32 Try.underlying131 hi hz0 hz1 hz2 rfl (by decide) v n xs hs hown B A m c news hx hr h1 (by unfold maxLen; omega) hbytes hbase h
theorem reads_inv (W : World) (k : Int) (v : Value) : Reads (W.alloc (.cells #[.int .i64 k, v] 98)) (W.heap.size + 1) 2 (some ⟨W.heap.size, 0, none⟩) 1 [.int .i64 k, v] := ⟨rfl, fun _ => ⟨_, rfl, by simp, fun j x hj => by
  have ea : (⟨W.heap.size, 0, none⟩ : Addr).add j = ⟨W.heap.size, j, none⟩ := by simp [Addr.add]; exact Eq.symm
  rw [ea, (Blk.new W _ _).cell]
  simpa using hj⟩⟩
/-- a run, and a row of arguments of its own -/
def IRunO (w0 : World) (bd : Bool) (rb tg fa fo n c : Nat) (rs : List RG) (st : IMc) (gl : List Nat) (rgb : Nat) (v : Value) (args : List Int) (W : World) : Prop :=
  ∃ g ow, IRunAt w0 bd rb tg fa fo n c rs st g ow W ∧ g.gs.map (fun x => x.fb) = gl ∧ g.rgb = rgb ∧ OR W ow w0.heap.size 8 30 1 v args.length (u64c args)
section
variable {w0 W W' : World} {ow ow' : Nat → Nat} {ex : Nat → Prop} {bd : Bool} {base rb tg fa fo rgb n c k : Nat} {rs : List RG} {st st' : IMc} {g g' : IRG} {t t' : IFr} {bl : List IFr} {gl : List Nat} {fb b o : Nat} {d : IDf} {ds : List IDf}
theorem IRunO.on {v : Value} {args : List Int} (h : IRunO w0 bd rb tg fa fo n c rs st gl rgb v args W) (hb : Below W.heap.size W W') : IRunO w0 bd rb tg fa fo n c rs st gl rgb v args W' := by
  obtain ⟨g, ow, h1, h2, h3, h4⟩ := h
  have kr : Kr (fun _ => False) ow ow W W' := Kr.of_below hb ow _
  exact ⟨g, ow, h1.on hb, h2, h3, h4.kr kr (fun h => h)⟩
theorem IRunO.runX {v : Value} {args : List Int} (h : IRunO w0 bd rb tg fa fo n c rs st gl rgb v args W) : IRunX w0 bd rb tg fa fo n c rs st gl rgb W := by
  obtain ⟨g, ow, h1, h2, h3, h4⟩ := h
  exact ⟨g, ow, h1, h2, h3⟩
theorem IRunO.runA {AA : Option Addr} {p cA : Nat} {args : List Int} (h : IRunO w0 bd rb tg fa fo n c rs st gl rgb (.slice AA p cA) args W) (hp : p = args.length) : IRunA w0 bd rb tg fa fo n c rs st gl rgb AA p args W ∧ p ≤ cA ∧ (AA = none → p = 0) := by
  subst hp
  obtain ⟨g, ow, h1, h2, h3, h4⟩ := h
  refine ⟨⟨g, ow, h1, h2, h3, (Reads.of_own h4.own).more (Nat.le_refl _), fun ad had => h4.role ad.block (by rw [had]; rfl)⟩, own_cap h4.own, fun hA => ?_⟩
  rcases h4.own.2 with ⟨he, h0⟩ | ⟨q', cap, cur, he, _⟩
  · exact h0
  · injection he with h1; rw [hA] at h1; cases h1
theorem IFrAt.dfrPush {fg : IG} {v u : Value} (h : IFrAt W ow base bd fa fo rgb k t fg) (kr : Kr (e2 (5 * k + 14) (5 * k + 11)) ow ow' W W') (h1 : OB W' ow' base (5 * k + 11) fg.fb (ifrT bd) ((ifrC bd fa fo rgb t fg).setIfInBounds 5 v)) (h2 : OR W' ow' base (5 * k + 14) 98 2 v (t.defs.length + 1) (idfc t.defs fg.ds ++ [.int .i64 d.fn, u]))
    (h3 : OR W' ow' base 8 30 1 u d.args.length (u64c d.args)) :
    IFrAt W' ow' base bd fa fo rgb k { t with defs := d :: t.defs } { fg with dv := v, ds := u :: fg.ds } := by
  refine ⟨by rw [ifrC_s5 v (d :: t.defs) (u :: fg.ds)] at h1; exact h1, h.pag.kr kr (ne2 (by omega) (by omega)) (ne2 (by omega) (by omega)), h2, fun j d' hj => ?_, by simp [h.lds], h.lpg, h.lbf⟩
  cases j with
  | zero =>
    have hdd : d' = d := by simpa using hj.symm
    subst hdd
    exact ⟨u, rfl, h3⟩
  | succ j =>
    obtain ⟨v', e1, e2⟩ := h.args j d' (by simpa using hj)
    exact ⟨v', by simpa using e1, e2.kr kr (ne2 (by omega) (by omega))⟩
theorem IRunX.cells6 (h : IRunX w0 bd rb tg fa fo n c rs st gl rgb W) : rb < W.heap.size ∧ W.cell? ⟨rb, 6, none⟩ = some (.int .i64 st.waiting) ∧ W.cell? ⟨rb, 13, none⟩ = some (.int .i64 st.defers) ∧ W.frozen? ⟨rb, 6, none⟩ = false ∧ W.frozen? ⟨rb, 13, none⟩ = false := by
  obtain ⟨g, ow, hR, _⟩ := h
  exact ⟨hR.run.blk.lt, hR.run.blk.cell 6, hR.run.blk.cell 13, hR.run.blk.frozen 6, hR.run.blk.frozen 13⟩
theorem IRunX.setRun {st' : IMc} {i : Nat} {u : Value} (h : IRunX w0 bd rb tg fa fo n c rs st gl rgb W) (hd : st'.doing ≠ 3 ∧ st.doing ≠ 3) (h1 : st'.frames = st.frames) (h2 : st'.hidn = st.hidn) (h3 : st'.kb = st.kb) (h4 : st'.panics = st.panics) (h5 : st'.regs = st.regs) (h6 : st'.tape = st.tape) (h7 : st'.evs = st.evs) (hc : ∀ g : IRG, (irunC bd (some ⟨fa, fo, none⟩) n c tg st g).setIfInBounds i u = irunC bd (some ⟨fa, fo, none⟩) n c tg st' g) : IRunX w0 bd rb tg fa fo n c rs st' gl rgb (W.setCell ⟨rb, i, none⟩ u) := by
  obtain ⟨g, ow, hR, hg1, hg2⟩ := h
  have k := Kr.set hR.run i u
  have hB := hR.run.set_ i u
  rw [hc g] at hB
  exact ⟨g, ow, hR.part (st' := st') (g' := g) k (ne1 (by omega)) hB (by rw [h1, h2]; exact hR.frs.kr k (ne1 (by omega))) (by rw [h1]; exact hR.frames.kr k (ne1 (by omega)) fun x h1 h2 => ne1 (by omega)) (by rw [h5]; exact fun hb => ⟨(hR.regs hb).1.kr k (ne1 (by omega)), (hR.regs hb).2⟩) (by rw [h4]; exact hR.pan.kr k (ne1 (by omega))) (by rw [h6, h7]; exact hR.tr.kr k (ne1 (by omega)) (ne1 (by omega)) (ne1 (by omega))) (fun _ => hR.res hd.2) (fun h => absurd h hd.1) (ne1 (by omega)) h3, hg1, hg2⟩
theorem IRunX.setWaiting (h : IRunX w0 bd rb tg fa fo n c rs st gl rgb W) (hd : st.doing ≠ 3) (x : Nat) : IRunX w0 bd rb tg fa fo n c rs { st with waiting := x } gl rgb (W.setCell ⟨rb, 6, none⟩ (.int .i64 x)) := h.setRun ⟨hd, hd⟩ rfl rfl rfl rfl rfl rfl rfl fun g => rfl
theorem IRunX.setDefers (h : IRunX w0 bd rb tg fa fo n c rs st gl rgb W) (hd : st.doing ≠ 3) (x : Nat) : IRunX w0 bd rb tg fa fo n c rs { st with defers := x } gl rgb (W.setCell ⟨rb, 13, none⟩ (.int .i64 x)) := h.setRun ⟨hd, hd⟩ rfl rfl rfl rfl rfl rfl rfl fun g => rfl
theorem IRunX.setDoing (h : IRunX w0 bd rb tg fa fo n c rs st gl rgb W) (hd : st.doing ≠ 3) (x : Int) (hx : x ≠ 3) : IRunX w0 bd rb tg fa fo n c rs { st with doing := x } gl rgb (W.setCell ⟨rb, 7, none⟩ (.int .i64 x)) := h.setRun ⟨hx, hd⟩ rfl rfl rfl rfl rfl rfl rfl fun g => rfl
set_option maxRecDepth 100000 in
set_option maxHeartbeats 1600000 in
theorem delay_any (d : IDf) (AA : Option Addr) (cA : Nat) (h : IRunO w0 bd rb tg fa fo n c rs st (fb :: gl) rgb (.slice AA d.args.length cA) d.args W) (hf : st.frames = t :: bl) (hd : st.doing ≠ 3) (hs : t.defs.length ≤ 1048576) (hw : st.waiting ≤ 1048577) (hx : st.defers ≤ 1048577) :
    Calls Try.prog 84 #[.pointer (some ⟨rb, 0, none⟩), .pointer (some ⟨fb, 0, none⟩), .agg #[.int .i64 d.fn, .slice AA d.args.length cA]] W fun e w' => e = .returned (.tuple #[]) ∧ IRunX w0 bd rb tg fa fo n c rs { st.top { t with defs := d :: t.defs } bl with waiting := st.waiting + 1, defers := max st.defers (st.waiting + 1) } (fb :: gl) rgb w' := by
  obtain ⟨g, ow, hR, hgl, hrg, hO⟩ := h
  obtain ⟨fg, gs, hg, hfb, hgs⟩ : ∃ fg gs, g.gs = fg :: gs ∧ fg.fb = fb ∧ gs.map (fun x => x.fb) = gl := by
    cases hx : g.gs with
    | nil => rw [hx] at hgl; cases hgl
    | cons fg gs =>
      rw [hx] at hgl
      simp only [List.map_cons, List.cons.injEq] at hgl
      exact ⟨fg, gs, rfl, hgl⟩
  have hF : IFrAt W ow w0.heap.size bd fa fo g.rgb bl.length t fg := by
    have hfr := hR.frames
    rw [hf, hg] at hfr
    exact hfr.1
  subst hfb
  obtain ⟨m, hm⟩ : ∃ m, m = t.defs.length := ⟨_, rfl⟩
  obtain ⟨mx, hmx⟩ : ∃ m, m = st.defers := ⟨_, rfl⟩
  obtain ⟨wt, hwt⟩ : ∃ m, m = st.waiting := ⟨_, rfl⟩
  obtain ⟨p, hp⟩ : ∃ m, m = d.args.length := ⟨_, rfl⟩
  obtain ⟨kf, hkf⟩ : ∃ m, m = d.fn := ⟨_, rfl⟩
  obtain ⟨q, hq⟩ : ∃ q, q = fg.fb := ⟨_, rfl⟩
  have hbz : w0.heap.size ≤ W.heap.size := hR.below.size
  have hrz : rb < W.heap.size := hR.run.blk.lt
  have hqz : q < W.heap.size := by rw [hq]; exact hF.blk.blk.lt
  have c5 : W.cell? ⟨q, 5, none⟩ = some fg.dv := by rw [hq, hF.blk.blk.cell]; exact ifrC_5
  obtain ⟨dv, hdv⟩ : ∃ dv, dv = fg.dv := ⟨_, rfl⟩
  have hOA := (hF.dfr.own.alloc (.cells #[.int .i64 kf, .slice AA p cA] 98)).alloc (.cells #[.int .i64 kf, .slice AA p cA] 98)
  rw [← hm] at hOA hs
  rw [← hmx] at hx
  rw [← hwt] at hw
  rw [← hdv] at c5 hOA
  rw [← hp] at hO
  rw [← hp, ← hkf, ← hq]
  have HRD : ∀ W1 : World, Reads (W1.alloc (.cells #[.int .i64 kf, .slice AA p cA] 98)) (W1.heap.size + 1) 2 (some ⟨W1.heap.size, 0, none⟩) 1 [.int .i64 kf, .slice AA p cA] := fun W1 => reads_inv W1 kf (.slice AA p cA)
  have HRD := Lib.hid (HRD (W.alloc (.cells #[.int .i64 kf, .slice AA p cA] 98)))
  rw [show (W.alloc (.cells #[.int .i64 kf, .slice AA p cA] 98)).heap.size = W.heap.size + 1 by simp] at HRD
  have HOA := Lib.hid hOA
  have H1 : Hid (∀ u ∈ [Value.int .i64 kf, Value.slice AA p cA], u.oneCell' = true) := Lib.hid (fun u hu => by simp at hu; rcases hu with rfl | rfl <;> rfl)
  have HPUSH : Hid (∀ (W1 w8 : World) (A8 : Option Addr) (c8 : Nat), Below W.heap.size W W1 → w8.ownsRow w0.heap.size 98 2 (.slice A8 (m + 1) c8) (m + 1) (idfc t.defs fg.ds ++ [.int .i64 kf, .slice AA p cA]) → W1.grownBy w8 dv.ownBlock → ((Value.slice A8 (m + 1) c8).ownBlock = dv.ownBlock ∨ (Value.slice A8 (m + 1) c8).ownBlock = some W1.heap.size) →
      w8.cell? ⟨q, 5, none⟩ = some dv ∧ w8.frozen? ⟨q, 5, none⟩ = false ∧ q < w8.heap.size ∧ Hid (IRunX w0 bd rb tg fa fo n c rs (st.top { t with defs := d :: t.defs } bl) (q :: gl) rgb (w8.setCell ⟨q, 5, none⟩ (.slice A8 (m + 1) c8)))) := Lib.hid fun W1 w8 A8 c8 hb1 hown hgr hor => by
    have hOR := hF.dfr
    rw [← hdv, ← hm] at hOR
    obtain ⟨hb8, hB8, hO8, hkr⟩ := app_set hF.blk hOR (by omega) hb1 hown hgr hor 5
    rw [hq]
    refine ⟨by rw [hb8.cell, hdv]; exact ifrC_5, hb8.frozen 5, hb8.lt, Lib.hid ?_⟩
    subst hp
    have hu := hO.kr hkr (ne2 (by omega) (by omega))
    have hF2 := hF.dfrPush (d := d) (u := .slice AA d.args.length cA) hkr hB8 (by rw [← hm, ← hkf]; exact hO8) hu
    exact IRunX.close_ (fg := { fg with dv := .slice A8 (m + 1) c8, ds := .slice AA d.args.length cA :: fg.ds }) (hR.top_ hf hg hkr (fun x hx => by rcases hx with h | h <;> omega) hF2 rfl) rfl hgs hrg
  have HD := Lib.hid hd
  have HMX := Lib.hid hmx
  have HWT := Lib.hid hwt
  clear hOA hdv hm hmx hwt hp hkf hq hgl hgs hrg hR hd hO hF hf hg
  go_enter Try.func84, Try.ntmps84
  go_wp2
  go_region_law (refine step_inv rfl _ _ rfl w0.heap.size dv m (idfc t.defs fg.ds) rfl (by first | exact HOA.out | exact HOA.out.drew) (W.heap.size + 1 + 1) (some ⟨W.heap.size + 1, 0, none⟩) 1 1 [.int .i64 kf, .slice AA p cA] rfl (by first | exact HRD.out | exact HRD.out.drew) H1.out (by omega) (by simp; omega) ?_; intro v8 w8 hown hgr hor; obtain ⟨A8, c8, rfl⟩ := own_slice hown; obtain ⟨d5, f5, hq8, HX⟩ := HPUSH.out _ w8 A8 c8 (((Below.refl _ _).alloc (Nat.le_refl _) _).alloc (by simp) _) hown (by first | exact hgr | exact grown_of_drew' hgr) (by first | exact hor | simpa using hor); clear hown hgr hor)
  all_goals
    obtain ⟨hrz8, e6, e13, f6, f13⟩ := HX.out.cells6
    have e6' : (w8.setCell ⟨q, 5, none⟩ (.slice A8 (m + 1) c8)).cell? ⟨rb, 6, none⟩ = some (.int .i64 wt) := by rw [HWT.out]; exact e6
    have e13' : (w8.setCell ⟨q, 5, none⟩ (.slice A8 (m + 1) c8)).cell? ⟨rb, 13, none⟩ = some (.int .i64 mx) := by rw [HMX.out]; exact e13
    clear e6 e13
    have HFIN : Hid (∀ y6 y : Int, y6 = ((wt + 1 : Nat) : Int) → y = ((max mx (wt + 1) : Nat) : Int) → IRunX w0 bd rb tg fa fo n c rs { st.top { t with defs := d :: t.defs } bl with waiting := st.waiting + 1, defers := max st.defers (st.waiting + 1) } (q :: gl) rgb ((((w8.setCell ⟨q, 5, none⟩ (.slice A8 (m + 1) c8)).setCell ⟨rb, 6, none⟩ (.int .i64 y6)).setCell ⟨rb, 13, none⟩ (.int .i64 y)).drew)) := Lib.hid fun y6 y h6 hy => by
      subst h6 hy
      rw [HWT.out, HMX.out]
      exact ((HX.out.setWaiting HD.out (st.waiting + 1)).setDefers HD.out (max st.defers (st.waiting + 1))).on (Below.refl _ _).drew
    go_wp2
    go_region
    go_wp2
  all_goals
    go_end0
    refine ⟨rfl, HFIN.out _ _ ?_ ?_⟩ <;> omega
end
end Go.Proofs.Ytlnccpojldiogaa
