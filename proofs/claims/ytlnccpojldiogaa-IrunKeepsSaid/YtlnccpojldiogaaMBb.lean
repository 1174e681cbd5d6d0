/-
  Texts of one seat, one behind the other: IGet, IPutB, ITrac, IEnd.
-/
import Derived.BigQuiet
import Derived.Lib.SliceRun
import Derived.Test.YtlnccpojldiogaaMBa

/-
  Package irun: the last frame's places: own, get, put, read free and bound.
-/
namespace Go.Proofs.Ytlnccpojldiogaa
set_option linter.unusedVariables false
set_option linter.unusedSimpArgs false
open Go.ChangeShapes Go.WideShapes Go.ChangeAt Go.RowKit

theorem grOf_at {rs : List RG} {k : Nat} {r : RG} (h : rs[k]? = some r) : grOf (grs rs) k = r.gr := by
  unfold grOf grs
  rw [List.getD_eq_getElem?_getD, List.getElem?_map, h]
  rfl
/-- a graph's numbers in memory -/
theorem prog_cells {W : World} {B fa fo n k : Nat} {rs : List RG} {r : RG} (h : RdP W B (some ⟨fa, fo, none⟩) n rs) (hr : rs[k]? = some r) :
    RdG W B r ∧ W.cell? ⟨fa, fo + k * 8, none⟩ = some (.slice r.po r.gr.params.length r.pc) ∧ W.cell? ⟨fa, fo + k * 8 + 2, none⟩ = some (.int .i64 r.gr.cells) ∧ W.cell? ⟨fa, fo + k * 8 + 3, none⟩ = some (.slice r.io r.gr.init.length r.ic) ∧ W.cell? ⟨fa, fo + k * 8 + 4, none⟩ = some (.bool r.gr.result) ∧ W.cell? ⟨fa, fo + k * 8 + 5, none⟩ = some (.int .i64 r.gr.keep) ∧ W.cell? ⟨fa, fo + k * 8 + 6, none⟩ = some (.slice r.no r.gr.nodes.length r.nc) ∧ W.cell? ⟨fa, fo + k * 8 + 7, none⟩ = some (.int .i64 r.gr.entry) ∧ fa < B := by
  have hk : k < n := by rw [← h.len]; exact (List.getElem?_eq_some_iff.1 hr).1
  obtain ⟨b, off, r', hA, hb, h1, h2, h3, c0, c1, c2, c3, c4, c5, c6, c7⟩ := h.gr hk
  injection hA with hA
  injection hA with hA1 hA2
  subst hA1 hA2
  have h1' := h1.out
  rw [hr] at h1'
  injection h1' with h1'
  subst h1'
  exact ⟨h2.out, c0, c2, c3, c4, c5, c6, c7, hb⟩
theorem val_head {rs : List RG} {bd : Bool} {k : Nat} {r : RG} (h : valid (grs rs) bd) (hr : rs[k]? = some r) : headHolds r.gr bd := h.2.2.1 _ (List.mem_map_of_mem (List.mem_of_getElem? hr))
/-- a place is there -/
def PlOk (r : RG) (p : Int) : Prop := 0 ≤ p ∧ p < r.gr.kinds.length
section
variable {w0 W W' : World} {ow ow' : Nat → Nat} {bd : Bool} {base rb tg fa fo rgb n c k : Nat} {rs : List RG} {st st' : IMc} {t t' : IFr} {bl : List IFr} {gl : List Nat} {fb : Nat} {r : RG} {p x : Int}
theorem own_any (fb fa o : Nat) (ce p : Int) (W : World) (h0 : W.cell? ⟨fb, 0, none⟩ = some (.pointer (some ⟨fa, o, none⟩))) (h2 : W.cell? ⟨fa, o + 2, none⟩ = some (.int .i64 ce)) (hb : 0 ≤ ce ∧ ce ≤ 1000000 ∧ -100 ≤ p ∧ p ≤ 1000000) :
    Calls Try.prog 208 #[.pointer (some ⟨fb, 0, none⟩), .int .i64 p] W fun e w' => e = .returned (.int .i64 (ce + p)) ∧ W = w' := by
  go_enter Try.func208, Try.ntmps208
  go_wp2
  go_ret
  exact ⟨rfl, rfl⟩
/-- the last frame, as get and put see it -/
theorem IRunX.place (h : IRunX w0 bd rb tg fa fo n c rs st (fb :: gl) rgb W) (hf : st.frames = t :: bl) (hr : rs[t.f]? = some r) (hp : PlOk r p) (hbp : bd = true → 16 ≤ p) :
    ∃ g ow fg gs a, IRunAt w0 bd rb tg fa fo n c rs st g ow W ∧ g.gs = fg :: gs ∧ fg.fb = fb ∧ gs.map (fun x => x.fb) = gl ∧ g.rgb = rgb ∧ IFrAt W ow w0.heap.size bd fa fo g.rgb bl.length t fg ∧
      ownAt (grs rs) bd t.f p = a ∧ (r.gr.cells + p - (if bd = true then 16 else 0) : Int) = (a : Int) ∧ a ≤ 2000 ∧ W.cell? ⟨fb, 0, none⟩ = some (.pointer (some ⟨fa, fo + t.f * 8, none⟩)) ∧ W.cell? ⟨fa, fo + t.f * 8 + 2, none⟩ = some (.int .i64 r.gr.cells) ∧ W.cell? ⟨fb, 4, none⟩ = some fg.pv ∧ 0 ≤ r.gr.cells ∧ r.gr.cells ≤ 64 ∧ p < 1024 := by
  obtain ⟨g, ow, fg, gs, hR, hg, rfl, hgl, hrg, hF⟩ := h.open_ hf
  obtain ⟨_, _, e2, _⟩ := prog_cells hR.prog hr
  have hv := val_head hR.val hr
  obtain ⟨⟨k1, _⟩, c1, c2, _⟩ := hv
  obtain ⟨p1, p2⟩ := hp
  refine ⟨g, ow, fg, gs, _, hR, hg, rfl, hgl, hrg, hF, rfl, ?_, ?_, by rw [hF.blk.blk.cell]; exact ifrC_0, e2, by rw [hF.blk.blk.cell]; exact ifrC_4, c1, c2, by omega⟩
  · unfold ownAt
    rw [grOf_at hr]
    split
    · have := hbp (by assumption)
      omega
    · omega
  · unfold ownAt
    rw [grOf_at hr]
    split <;> omega
set_option maxRecDepth 100000 in
set_option maxHeartbeats 1600000 in
theorem fget_any (h : IRunX w0 false rb tg fa fo n c rs st (fb :: gl) rgb W) (hf : st.frames = t :: bl) (hr : rs[t.f]? = some r) (hp : PlOk r p) :
    Calls Try.prog 204 #[.pointer (some ⟨fb, 0, none⟩), .int .i64 p] W fun e w' => e = .returned (.int .u64 (getP (grs rs) false st.regs t p)) ∧ ∃ q, w' = W.drewN q := by
  obtain ⟨g, ow, fg, gs, a, hR, hg, hfb, hgl, hrg, hF, ha, hai, ha2, c0, c2, c4, b1, b2, b3⟩ := h.place hf hr hp (fun h => by cases h)
  have hv : getP (grs rs) false st.regs t p = t.words a := by unfold getP; rw [if_neg (by simp), ha]
  rw [hv]
  rw [if_neg (by simp), Int.sub_zero] at hai
  have p0 := hp.1
  have HOWN : Hid (∀ m, Calls Try.prog 208 #[.pointer (some ⟨fb, 0, none⟩), .int .i64 p] (W.drewN m) fun e w' => e = .returned (.int .i64 a) ∧ w' = W.drewN m) := Lib.hid fun m => by
    rw [← hai]
    exact (own_any fb fa (fo + t.f * 8) r.gr.cells p (W.drewN m) c0 c2 ⟨b1, by omega, by omega, by omega⟩).mono fun e w' ⟨he, hw⟩ => ⟨he, hw.symm⟩
  have HGET : Hid (∀ m, Calls Try.prog 78 #[.pointer (some ⟨fb, 4, none⟩), .int .i64 a] (W.drewN m) fun e w' => e = .returned (.int .u64 (t.words a)) ∧ w' = W.drewN m) := Lib.hid fun m =>
    (pget_any fb 4 a (hF.pag.kr (Kr.of_below (below_drewN (Below.refl _ _) m) ow (fun _ => False)) (fun h => h) (fun h => h)) c4 (by omega) (by have := hF.lpg; omega)).mono fun e w' ⟨he, hw⟩ => ⟨he, hw.symm⟩
  clear h hf hr hp hR hg hfb hgl hrg hF ha hai hv c0 c2 c4
  go_enter Try.func204, Try.ntmps204
  go_wp2
  go_quiet (first
    | (go_at_call 208; with_reducible exact Calls.quiet_of_same (HOWN.out _))
    | (go_at_call 78; with_reducible exact Calls.quiet_of_same (HGET.out _)))
  go_wp2
  go_ret
  exact ⟨rfl, _, rfl⟩
set_option maxRecDepth 100000 in
set_option maxHeartbeats 1600000 in
theorem bget_reg (h : IRunX w0 true rb tg fa fo n c rs st (fb :: gl) rgb W) (hf : st.frames = t :: bl) (p0 : 0 ≤ p) (p16 : p < 16) :
    Calls Try.prog 209 #[.pointer (some ⟨fb, 0, none⟩), .int .i64 p] W fun e w' => e = .returned (.int .u64 (getP (grs rs) true st.regs t p)) ∧ ∃ q, w' = W.drewN q := by
  obtain ⟨g, ow, fg, gs, hR, hg, rfl, hgl, rfl, hF⟩ := h.open_ hf
  have hv : getP (grs rs) true st.regs t p = st.regs.getD p.toNat 0 := by unfold getP; rw [if_pos ⟨rfl, p16⟩]
  rw [hv]
  obtain ⟨hB, hl⟩ := hR.regs rfl
  obtain ⟨j, rfl⟩ : ∃ j : Nat, p = (j : Int) := ⟨p.toNat, by omega⟩
  have hj : j < 16 := by omega
  have c7 : W.cell? ⟨fg.fb, 7, none⟩ = some (.pointer (some ⟨g.rgb, 0, none⟩)) := by rw [hF.blk.blk.cell]; exact ifrC_7t
  obtain ⟨x, hx⟩ : ∃ x, st.regs[j]? = some x := ⟨_, List.getElem?_eq_getElem (by omega)⟩
  have cx : W.cell? ⟨g.rgb, j, none⟩ = some (.int .u64 x) := by rw [hB.blk.cell, List.getElem?_toArray]; exact u64c_at hx
  have hgd : st.regs.getD (j : Int).toNat 0 = x := by rw [List.getD_eq_getElem?_getD, Int.toNat_natCast, hx]; rfl
  rw [hgd]
  have hl16 : decide (j < 16) = true := by simpa using hj
  clear h hf hR hg hgl hF hv hB hl hx hgd
  go_enter Try.func209, Try.ntmps209
  go_wp2
  go_ret
  exact ⟨rfl, 0, rfl⟩
set_option maxRecDepth 100000 in
set_option maxHeartbeats 1600000 in
theorem bget_own (h : IRunX w0 true rb tg fa fo n c rs st (fb :: gl) rgb W) (hf : st.frames = t :: bl) (hr : rs[t.f]? = some r) (hp : PlOk r p) (p16 : 16 ≤ p) :
    Calls Try.prog 209 #[.pointer (some ⟨fb, 0, none⟩), .int .i64 p] W fun e w' => e = .returned (.int .u64 (getP (grs rs) true st.regs t p)) ∧ ∃ q, w' = W.drewN q := by
  obtain ⟨g, ow, fg, gs, a, hR, hg, hfb, hgl, hrg, hF, ha, hai, ha2, c0, c2, c4, b1, b2, b3⟩ := h.place hf hr hp (fun _ => p16)
  have hv : getP (grs rs) true st.regs t p = t.words a := by unfold getP; rw [if_neg (by omega), ha]
  rw [hv]
  rw [if_pos rfl] at hai
  have p0 := hp.1
  obtain ⟨p1, hp1⟩ : ∃ p1 : Int, p - 16 = p1 := ⟨_, rfl⟩
  have HOWN : Hid (∀ m, Calls Try.prog 208 #[.pointer (some ⟨fb, 0, none⟩), .int .i64 p1] (W.drewN m) fun e w' => e = .returned (.int .i64 a) ∧ w' = W.drewN m) := Lib.hid fun m => by
    rw [← hai, show r.gr.cells + p - 16 = r.gr.cells + p1 by omega]
    exact (own_any fb fa (fo + t.f * 8) r.gr.cells p1 (W.drewN m) c0 c2 ⟨b1, by omega, by omega, by omega⟩).mono fun e w' ⟨he, hw⟩ => ⟨he, hw.symm⟩
  have HGET : Hid (∀ m, Calls Try.prog 78 #[.pointer (some ⟨fb, 4, none⟩), .int .i64 a] (W.drewN m) fun e w' => e = .returned (.int .u64 (t.words a)) ∧ w' = W.drewN m) := Lib.hid fun m =>
    (pget_any fb 4 a (hF.pag.kr (Kr.of_below (below_drewN (Below.refl _ _) m) ow (fun _ => False)) (fun h => h) (fun h => h)) c4 (by omega) (by have := hF.lpg; omega)).mono fun e w' ⟨he, hw⟩ => ⟨he, hw.symm⟩
  have hl16 : decide (p < 16) = false := by simp; omega
  clear h hf hr hp hR hg hfb hgl hrg hF ha hai hv c0 c2 c4
  go_enter Try.func209, Try.ntmps209
  go_wp2
  go_quiet (first
    | (go_at_call 208; with_reducible exact Calls.quiet_of_same (HOWN.out _))
    | (go_at_call 78; with_reducible exact Calls.quiet_of_same (HGET.out _)))
  go_wp2
  go_ret
  exact ⟨rfl, _, rfl⟩
/-- a word of the last frame is written -/
theorem IRunX.words {g : IRG} {fg : IG} {gs : List IG} {a N : Nat} (hR : IRunAt w0 bd rb tg fa fo n c rs st g ow W) (hf : st.frames = t :: bl) (hg : g.gs = fg :: gs) (hgl : gs.map (fun x => x.fb) = gl) (hrg : g.rgb = rgb) (hF : IFrAt W ow w0.heap.size bd fa fo g.rgb bl.length t fg) (hN : N ≤ 200)
    (h : PutR W ow w0.heap.size (5 * bl.length + 12) (5 * bl.length + 13) (5 * bl.length + 11) fg.fb 4 (ifrT bd) (ifrC bd fa fo g.rgb t fg) t.words a x N W') :
    IRunX w0 bd rb tg fa fo n c rs (st.top { t with words := put1 t.words a x } bl) (fg.fb :: gl) rgb W' := by
  obtain ⟨ow', v', ps', h1, h2, h3, h4⟩ := h
  rw [ifrC_s4 v' (put1 t.words a x) ps'] at h1
  refine IRunX.close_ (fg := { fg with pv := v', pps := ps' }) (hR.top_ hf hg h3 (fun x hx => by rcases hx with h | h | h <;> omega) ⟨h1, h2, hF.dfr.kr h3 (fun hx => by rcases hx with h | h | h <;> omega), fun j d hd => ?_, hF.lds, by show ps'.length ≤ 200; omega, hF.lbf⟩ rfl) rfl hgl hrg
  obtain ⟨v, e1, e2⟩ := hF.args j d hd
  exact ⟨v, e1, e2.kr h3 (fun hx => by rcases hx with h | h | h <;> omega)⟩
set_option maxRecDepth 100000 in
set_option maxHeartbeats 1600000 in
theorem fput_any (h : IRunX w0 false rb tg fa fo n c rs st (fb :: gl) rgb W) (hf : st.frames = t :: bl) (hr : rs[t.f]? = some r) (hp : PlOk r p) :
    Calls Try.prog 205 #[.pointer (some ⟨fb, 0, none⟩), .int .i64 p, .int .u64 x] W fun e w' => e = .returned (.tuple #[]) ∧ IRunX w0 false rb tg fa fo n c rs (st.put (grs rs) false t bl p x) (fb :: gl) rgb w' := by
  obtain ⟨g, ow, fg, gs, a, hR, hg, rfl, hgl, hrg, hF, ha, hai, ha2, c0, c2, c4, b1, b2, b3⟩ := h.place hf hr hp (fun h => by cases h)
  rw [if_neg (by simp), Int.sub_zero] at hai
  have p0 := hp.1
  have hst : st.put (grs rs) false t bl p x = st.top { t with words := put1 t.words a x } bl := by
    unfold IMc.put IMc.top putT putR
    rw [if_neg (by simp), if_neg (by simp), ha]
  have HOWN : Hid (Calls Try.prog 208 #[.pointer (some ⟨fg.fb, 0, none⟩), .int .i64 p] W.drew fun e w' => e = .returned (.int .i64 a) ∧ W.drew = w') := Lib.hid (by
    rw [← hai]
    exact own_any fg.fb fa (fo + t.f * 8) r.gr.cells p W.drew c0 c2 ⟨b1, by omega, by omega, by omega⟩)
  have HPUT : Hid (Calls Try.prog 44 #[.pointer (some ⟨fg.fb, 4, none⟩), .int .i64 a, .int .u64 x] W.drew fun e w' => e = .returned (.tuple #[]) ∧ IRunX w0 false rb tg fa fo n c rs (st.put (grs rs) false t bl p x) (fg.fb :: gl) rgb w') := Lib.hid (by
    have hR2 := hR.on (W' := W.drew) (Below.refl _ _).drew
    have kr : Kr (fun _ => False) ow ow W W.drew := Kr.of_below (Below.refl _ _).drew ow _
    have hF2 := hF.kr kr (fun j hj h => h) (fun h => h)
    refine (pput_any (x := x) hF2.blk ifrC_4 (by omega) (by omega) (by omega) hF2.pag (by omega) (by have := hF.lpg; omega) hR2.below.size).mono fun e w' ⟨he, h1⟩ => ⟨he, ?_⟩
    rw [hst]
    exact IRunX.words hR2 hf hg hgl hrg hF2 (by have := hF.lpg; omega) h1)
  obtain ⟨q, hq⟩ : ∃ q, q = fg.fb := ⟨_, rfl⟩
  rw [← hq] at HOWN HPUT ⊢
  clear h hf hr hp hR hg hgl hrg hF ha hai c0 c2 c4 hst hq
  go_enter Try.func205, Try.ntmps205
  go_wp2
  go_region_law (first
    | (go_simp; go_at_call 208; refine HOWN.out.mono ?_; rintro e w2 ⟨rfl, rfl⟩)
    | (go_simp; go_at_call 44; refine HPUT.out.mono ?_; rintro e w2 ⟨rfl, h2⟩; have H2 := Lib.hid h2; clear h2))
  go_wp2
  all_goals
    go_end0
    exact ⟨rfl, H2.out⟩
end
end Go.Proofs.Ytlnccpojldiogaa

/-
  Package irun: put, read bound; get and put through the interface; body, last.
-/
namespace Go.Proofs.Ytlnccpojldiogaa
set_option linter.unusedVariables false
set_option linter.unusedSimpArgs false
open Go.ChangeShapes Go.WideShapes Go.ChangeAt Go.RowKit

section
variable {w0 W W' : World} {ow ow' : Nat → Nat} {bd : Bool} {base rb tg fa fo rgb n c k : Nat} {rs : List RG} {st st' : IMc} {t t' : IFr} {bl : List IFr} {gl : List Nat} {fb : Nat} {r : RG} {p x : Int}
set_option maxRecDepth 100000 in
set_option maxHeartbeats 1600000 in
theorem bput_reg (h : IRunX w0 true rb tg fa fo n c rs st (fb :: gl) rgb W) (hf : st.frames = t :: bl) (p0 : 0 ≤ p) (p16 : p < 16) :
    Calls Try.prog 210 #[.pointer (some ⟨fb, 0, none⟩), .int .i64 p, .int .u64 x] W fun e w' => e = .returned (.tuple #[]) ∧ IRunX w0 true rb tg fa fo n c rs (st.put (grs rs) true t bl p x) (fb :: gl) rgb w' := by
  obtain ⟨g, ow, fg, gs, hR, hg, rfl, hgl, rfl, hF⟩ := h.open_ hf
  obtain ⟨hB, hl⟩ := hR.regs rfl
  obtain ⟨j, rfl⟩ : ∃ j : Nat, p = (j : Int) := ⟨p.toNat, by omega⟩
  have hj : j < 16 := by omega
  have c7 : W.cell? ⟨fg.fb, 7, none⟩ = some (.pointer (some ⟨g.rgb, 0, none⟩)) := by rw [hF.blk.blk.cell]; exact ifrC_7t
  obtain ⟨y, hy⟩ : ∃ y, st.regs[j]? = some y := ⟨_, List.getElem?_eq_getElem (by omega)⟩
  have cx : W.cell? ⟨g.rgb, j, none⟩ = some (.int .u64 y) := by rw [hB.blk.cell, List.getElem?_toArray]; exact u64c_at hy
  have cf : W.frozen? ⟨g.rgb, j, none⟩ = false := hB.blk.frozen j
  have hst : st.put (grs rs) true t bl (j : Int) x = { st with regs := st.regs.set j x } := by
    unfold IMc.put putT putR
    rw [if_pos ⟨rfl, p16⟩, if_pos ⟨rfl, p16⟩, ← hf, Int.toNat_natCast]
  have HX : Hid (IRunX w0 true rb tg fa fo n c rs (st.put (grs rs) true t bl j x) (fg.fb :: gl) g.rgb (W.setCell ⟨g.rgb, j, none⟩ (.int .u64 x))) := Lib.hid (by
    rw [hst]
    have h1 := hB.set_ j (.int .u64 x)
    rw [show (u64c st.regs).toArray.setIfInBounds j (.int .u64 x) = (u64c (st.regs.set j x)).toArray by simp [u64c, List.map_set]] at h1
    exact ⟨g, ow, hR.reg_ (Kr.set hB j _) (fun _ => ⟨h1, by rw [List.length_set]; exact hl⟩), by rw [hg]; simp [hgl], rfl⟩)
  have hl16 : decide (j < 16) = true := by simpa using hj
  obtain ⟨q, hq⟩ : ∃ q, q = fg.fb := ⟨_, rfl⟩
  rw [← hq] at HX c7 ⊢
  clear h hf hR hg hgl hF hB hl hy hst hq
  go_enter Try.func210, Try.ntmps210
  go_wp2
  first
  | go_end0
  | refine bodyPost_ret (v := .tuple #[]) (by simp [results, Try.results210]) rfl ?_
  exact ⟨rfl, HX.out⟩
set_option maxRecDepth 100000 in
set_option maxHeartbeats 1600000 in
theorem bput_own (h : IRunX w0 true rb tg fa fo n c rs st (fb :: gl) rgb W) (hf : st.frames = t :: bl) (hr : rs[t.f]? = some r) (hp : PlOk r p) (p16 : 16 ≤ p) :
    Calls Try.prog 210 #[.pointer (some ⟨fb, 0, none⟩), .int .i64 p, .int .u64 x] W fun e w' => e = .returned (.tuple #[]) ∧ IRunX w0 true rb tg fa fo n c rs (st.put (grs rs) true t bl p x) (fb :: gl) rgb w' := by
  obtain ⟨g, ow, fg, gs, a, hR, hg, rfl, hgl, hrg, hF, ha, hai, ha2, c0, c2, c4, b1, b2, b3⟩ := h.place hf hr hp (fun _ => p16)
  rw [if_pos rfl] at hai
  have p0 := hp.1
  obtain ⟨p1, hp1⟩ : ∃ p1 : Int, p - 16 = p1 := ⟨_, rfl⟩
  have hst : st.put (grs rs) true t bl p x = st.top { t with words := put1 t.words a x } bl := by
    unfold IMc.put IMc.top putT putR
    rw [if_neg (by omega), if_neg (by omega), ha]
  have HOWN : Hid (Calls Try.prog 208 #[.pointer (some ⟨fg.fb, 0, none⟩), .int .i64 p1] W.drew fun e w' => e = .returned (.int .i64 a) ∧ W.drew = w') := Lib.hid (by
    rw [← hai, show r.gr.cells + p - 16 = r.gr.cells + p1 by omega]
    exact own_any fg.fb fa (fo + t.f * 8) r.gr.cells p1 W.drew c0 c2 ⟨b1, by omega, by omega, by omega⟩)
  have HPUT : Hid (Calls Try.prog 44 #[.pointer (some ⟨fg.fb, 4, none⟩), .int .i64 a, .int .u64 x] W.drew fun e w' => e = .returned (.tuple #[]) ∧ IRunX w0 true rb tg fa fo n c rs (st.put (grs rs) true t bl p x) (fg.fb :: gl) rgb w') := Lib.hid (by
    have hR2 := hR.on (W' := W.drew) (Below.refl _ _).drew
    have kr : Kr (fun _ => False) ow ow W W.drew := Kr.of_below (Below.refl _ _).drew ow _
    have hF2 := hF.kr kr (fun j hj h => h) (fun h => h)
    refine (pput_any (x := x) hF2.blk ifrC_4 (by omega) (by omega) (by omega) hF2.pag (by omega) (by have := hF.lpg; omega) hR2.below.size).mono fun e w' ⟨he, h1⟩ => ⟨he, ?_⟩
    rw [hst]
    exact IRunX.words hR2 hf hg hgl hrg hF2 (by have := hF.lpg; omega) h1)
  have hwp : IntKind.i64.wrap p1 = p1 := by rw [IntKind.wrap_i64]; omega
  have hl16 : decide (p < 16) = false := by simp; omega
  obtain ⟨q, hq⟩ : ∃ q, q = fg.fb := ⟨_, rfl⟩
  rw [← hq] at HOWN HPUT ⊢
  clear h hf hr hp hR hg hgl hrg hF ha hai c0 c2 c4 hst hq
  go_enter Try.func210, Try.ntmps210
  go_wp2
  go_region_law (first
    | (go_simp; go_at_call 208; with_reducible refine HOWN.out.mono ?_; rintro e w2 ⟨rfl, rfl⟩)
    | (go_simp; go_at_call 44; with_reducible refine HPUT.out.mono ?_; rintro e w2 ⟨rfl, h2⟩; have H2 := Lib.hid h2; clear h2))
  go_wp2
  all_goals
    go_end0
    exact ⟨rfl, H2.out⟩
/-- the functions that an interface's calls come to -/
def getF (bd : Bool) : FuncId := if bd = true then 209 else 204
def putF (bd : Bool) : FuncId := if bd = true then 210 else 205
/-- a place is read, whichever way -/
theorem get_any (h : IRunX w0 bd rb tg fa fo n c rs st (fb :: gl) rgb W) (hf : st.frames = t :: bl) (hr : rs[t.f]? = some r) (hp : PlOk r p) :
    Calls Try.prog (getF bd) #[.pointer (some ⟨fb, 0, none⟩), .int .i64 p] W fun e w' => e = .returned (.int .u64 (getP (grs rs) bd st.regs t p)) ∧ ∃ q, w' = W.drewN q := by
  cases bd
  · exact fget_any h hf hr hp
  · rcases Int.lt_or_le p 16 with h16 | h16
    · exact bget_reg h hf hp.1 h16
    · exact bget_own h hf hr hp h16
theorem put_any (h : IRunX w0 bd rb tg fa fo n c rs st (fb :: gl) rgb W) (hf : st.frames = t :: bl) (hr : rs[t.f]? = some r) (hp : PlOk r p) :
    Calls Try.prog (putF bd) #[.pointer (some ⟨fb, 0, none⟩), .int .i64 p, .int .u64 x] W fun e w' => e = .returned (.tuple #[]) ∧ IRunX w0 bd rb tg fa fo n c rs (st.put (grs rs) bd t bl p x) (fb :: gl) rgb w' := by
  cases bd
  · exact fput_any h hf hr hp
  · rcases Int.lt_or_le p 16 with h16 | h16
    · exact bput_reg h hf hp.1 h16
    · exact bput_own h hf hr hp h16
theorem body_any (fb : Nat) (W : World) : Calls Try.prog 203 #[.pointer (some ⟨fb, 0, none⟩)] W fun e w' => e = .returned (.pointer (some ⟨fb, 0, none⟩)) ∧ W = w' := by
  go_enter Try.func203, Try.ntmps203
  go_wp2
  go_ret
  exact ⟨rfl, rfl⟩
theorem ifrVs_last {fg : IG} {gs : List IG} {m : Nat} (h : gs.length = m) : (ifrVs bd (fg :: gs))[m]? = some (ifrV bd fg.fb) := by
  unfold ifrVs
  simp only [List.map_cons, List.reverse_cons]
  rw [List.getElem?_append_right (by simp [h])]
  simp [h]
theorem IRunX.last_ (h : IRunX w0 bd rb tg fa fo n c rs st (fb :: gl) rgb W) (hf : st.frames = t :: bl) (h0 : st.hidn = 0) :
    ∃ q cq, W.cell? ⟨rb, 3, none⟩ = some (.slice (some ⟨q, 0, none⟩) (bl.length + 1) cq) ∧ W.cell? ⟨q, bl.length, none⟩ = some (.iface (ifrP bd) (.pointer (some ⟨fb, 0, none⟩))) ∧ q < W.heap.size ∧ rb < W.heap.size ∧ fb < W.heap.size ∧ bl.length + 1 ≤ cq := by
  obtain ⟨g, ow, fg, gs, hR, hg, rfl, hgl, hrg, hF⟩ := h.open_ hf
  have h4 := hR.frs0 h0
  have hfr := hR.frames
  rw [hf, hg] at h4 hfr
  obtain ⟨q, cq, hq⟩ := h4.form8 (by simp)
  rw [hq] at h4
  obtain ⟨e1, e2, _, _, e5, _⟩ := h4.cell8 (k := bl.length) (ifrVs_last hfr.2.len)
  refine ⟨q, cq, ?_, e2, e1, hR.run.blk.lt, hF.blk.blk.lt, e5⟩
  rw [hR.run.blk.cell]
  show some g.fv = _
  rw [hq]; rfl
set_option maxRecDepth 100000 in
set_option maxHeartbeats 1600000 in
theorem last_any (h : IRunX w0 bd rb tg fa fo n c rs st (fb :: gl) rgb W) (hf : st.frames = t :: bl) (h0 : st.hidn = 0) (hs : bl.length ≤ 1048577) :
    Calls Try.prog 45 #[.pointer (some ⟨rb, 0, none⟩)] W fun e w' => e = .returned (.iface (ifrP bd) (.pointer (some ⟨fb, 0, none⟩))) ∧ Below W.heap.size W w' := by
  obtain ⟨q, cq, x0, x1, hqz, hrz, _, hc⟩ := h.last_ hf h0
  obtain ⟨m, hm⟩ : ∃ m, m = bl.length := ⟨_, rfl⟩
  rw [← hm] at x0 x1 hc hs
  have hm1 : ((m : Int) + 1) - 1 = (m : Int) := by omega
  have hm0 : (0 : Int) ≤ (m : Int) := by omega
  have hmm : (m : Int) < (m : Int) + 1 := by omega
  have hmn : m < m + 1 := by omega
  have HB : Hid (Below W.heap.size W W) := Lib.hid (Below.refl _ _)
  obtain ⟨y, hy⟩ : ∃ y, y = ifrP bd := ⟨_, rfl⟩
  rw [← hy] at x1 ⊢
  clear h hf hm hy h0
  go_enter Try.func45, Try.ntmps45
  go_wp2
  go_quiet (fail)
  go_wp2
  go_ret
  exact ⟨rfl, below_drewN HB.out _⟩
end
end Go.Proofs.Ytlnccpojldiogaa

/-
  Package trace's object as a run of irun holds it: next, In, Out.
-/
namespace Go.Proofs.Ytlnccpojldiogaa
set_option linter.unusedVariables false
set_option linter.unusedSimpArgs false
open Go.ChangeShapes Go.WideShapes Go.ChangeAt Go.RowKit

theorem info_ev : (Try.prog.info? 79).map (fun i => (i.zero, i.size, i.bytes)) = some (some (.agg #[.int .i64 0, .int .u64 0]), 2, 16) := by kernel_rfl
theorem app_ev {w : World} {ops : Array Oper} {rest : List Oper} {o : Oper} {a : Act} {Q : Exit → Act → World → Prop} (hgd : o.guard = none) (s x : Operand)
    (ho : o.op = .call { callee := .builtin .append, args := #[s, x], argTypes := #[28, 28] }) (base : Nat)
    (v : Value) (n : Nat) (xs : List Value) (hs : a.eval s = v) (hown : w.ownsRow base 79 2 v n xs)
    (B : Nat) (A : Option Addr) (m c : Nat) (news : List Value) (hx : a.eval x = .slice A m c) (hr : Reads w B 2 A m news) (h1 : ∀ u ∈ news, u.oneCell' = true)
    (hbytes : (n + m) * 16 ≤ 140737488355328) (hbase : base ≤ w.heap.size)
    (h : ∀ v' w', w'.ownsRow base 79 2 v' (n + m) (xs ++ news) → w.grownBy w' v.ownBlock → (v'.ownBlock = v.ownBlock ∨ v'.ownBlock = some w.heap.size) → wpList Try.prog ops Q rest (a.put o.dst v') w') : wpList Try.prog ops Q (o :: rest) a w := by
  obtain ⟨i0, hi, hz0, hz1, hz2⟩ := info_parts info_ev
  exact wpList_append_any w hgd s x _ ho base 79 i0 (.agg #[.int .i64 0, .int .u64 0]) 2 16 Try.underlying28 hi hz0 hz1 hz2 rfl (by decide) v n xs hs hown B A m c news hx hr h1 (by unfold maxLen; omega) hbytes hbase h
theorem reads_ev (W : World) (a b : Int) : Reads (W.alloc (.cells #[.int .i64 a, .int .u64 b] 79)) (W.heap.size + 1) 2 (some ⟨W.heap.size, 0, none⟩) 1 [.int .i64 a, .int .u64 b] := ⟨rfl, fun _ => ⟨_, rfl, by simp, fun j x hj => by
  have ea : (⟨W.heap.size, 0, none⟩ : Addr).add j = ⟨W.heap.size, j, none⟩ := by simp [Addr.add]; exact Eq.symm
  rw [ea, (Blk.new W _ _).cell]
  simpa using hj⟩⟩
section
variable {w0 W W' w8 W1 : World} {ow ow' : Nat → Nat} {ex : Nat → Prop} {bd : Bool} {rb tg fa fo n c k : Nat} {rs : List RG} {st st' : IMc} {g g' : IRG} {t : IFr} {bl : List IFr} {gl : List Nat} {rgb fb : Nat}
/-- the trace has turned -/
theorem IRunAt.tr_ {tv xv : Value} {tape : List Int} {evs : List (Int × Int)} (h : IRunAt w0 bd rb tg fa fo n c rs st g ow W) (kr : Kr ex ow ow' W W') (hex : ∀ x, ex x → x = 1 ∨ x = 3) (hd : st.doing ≠ 3) (hn : ITrAt W' ow' w0.heap.size tg tv xv tape evs) :
    IRunAt w0 bd rb tg fa fo n c rs { st with tape := tape, evs := evs } { g with tv := tv, xv := xv } ow' W' := by
  have nx : ∀ r, r ≠ 1 → r ≠ 3 → ¬ ex r := fun r h1 h3 hx => by have := hex r hx; omega
  exact h.part (h88 := nx 8 (by omega) (by omega)) kr (nx 9 (by omega) (by omega)) (h.run.kr kr (nx 0 (by omega) (by omega))) (h.frs.kr kr (nx 4 (by omega) (by omega))) (h.frames.kr kr (nx 8 (by omega) (by omega)) fun x h1 h2 => nx x (by omega) (by omega)) (fun hb => ⟨(h.regs hb).1.kr kr (nx 5 (by omega) (by omega)), (h.regs hb).2⟩) (h.pan.kr kr (nx 6 (by omega) (by omega))) hn h.res fun h3 => absurd h3 hd

set_option maxRecDepth 100000 in
set_option maxHeartbeats 1600000 in
theorem next_any (h : IRunX w0 bd rb tg fa fo n c rs st gl rgb W) (hd : st.doing ≠ 3) :
    Calls Try.prog 124 #[.pointer (some ⟨tg, 0, none⟩)] W fun e w' => e = .returned (.int .u64 (st.tape.headD 0)) ∧ IRunX w0 bd rb tg fa fo n c rs { st with tape := st.tape.tail } gl rgb w' := by
  obtain ⟨g, ow, hR, hgl, hpb⟩ := h
  obtain ⟨A, m, cp, htv, hnc, hcm, hlen, hnil, hcells⟩ := hR.tr.tape
  have c0 : W.cell? ⟨tg, 0, none⟩ = some (.slice A m cp) := by rw [hR.tr.blk.blk.cell, ← htv]; rfl
  have f0 : W.frozen? ⟨tg, 0, none⟩ = false := hR.tr.blk.blk.frozen 0
  unfold maxLen at hcm
  have HR := Lib.hid hR
  have HGL := Lib.hid hgl
  have HPB := Lib.hid hpb
  have HD := Lib.hid hd
  obtain ⟨tape, htp⟩ : ∃ tp, tp = st.tape := ⟨_, rfl⟩
  rw [← htp] at hlen hcells ⊢
  have HTP := Lib.hid htp
  clear hR hgl hpb hd htp
  cases tape with
  | nil =>
    simp only [List.length_nil] at hlen
    subst hlen
    have HSAME : Hid (IRunX w0 bd rb tg fa fo n c rs { st with tape := [] } gl rgb W) := Lib.hid ⟨g, ow, by have h := HR.out; rw [show st = { st with tape := [] } by rw [HTP.out]] at h; exact h, HGL.out, HPB.out⟩
    clear hcells
    go_enter Try.func124, Try.ntmps124
    go_wp2
    go_ret
    exact ⟨rfl, HSAME.out⟩
  | cons x rest =>
    obtain ⟨gt, off, cs, rfl, hBg, hrl, hb, hc⟩ := hcells (by rw [← hlen]; simp)
    have x0 : W.cell? ⟨gt, off, none⟩ = some (.int .u64 x) := by
      have := hc 0 x rfl
      rw [hb.cell]
      exact this
    have hn1 : 1 ≤ m := by rw [← hlen]; simp
    have HFIN : Hid (∀ o2 c2, (1 < m → o2 = off + 1) → m - 1 ≤ c2 → c2 ≤ maxLen → IRunX w0 bd rb tg fa fo n c rs { st with tape := rest } gl rgb (W.setCell ⟨tg, 0, none⟩ (.slice (some ⟨gt, o2, none⟩) (m - 1) c2))) := Lib.hid (by
      intro o2 c2 ho hc2 hc3
      have hB := HR.out.tr.blk.set_ 0 (.slice (some ⟨gt, o2, none⟩) (m - 1) c2)
      have kr := Kr.set HR.out.tr.blk 0 (.slice (some ⟨gt, o2, none⟩) (m - 1) c2)
      have hne : gt ≠ tg := by rintro rfl; rw [HR.out.tr.blk.role] at hrl; omega
      refine ⟨{ g with tv := .slice (some ⟨gt, o2, none⟩) (m - 1) c2 }, ow, HR.out.tr_ (xv := g.xv) (evs := st.evs) kr (fun x hx => .inl hx) HD.out ⟨hB, ⟨_, m - 1, c2, rfl, hc2, hc3, by rw [← hlen]; simp, (fun h => by cases h), fun hp => ⟨gt, o2, cs, rfl, hBg, hrl, hb.far (p := ⟨tg, 0, none⟩) hne _, fun j y hj => ?_⟩⟩, HR.out.tr.evs.kr kr (ne1 (by omega))⟩, HGL.out, HPB.out⟩
      rw [ho (by omega), show off + 1 + j = off + (j + 1) by omega]
      exact hc (j + 1) y (by simpa using hj))
    clear hb hc hlen hnil hcells
    go_enter Try.func124, Try.ntmps124
    by_cases hc1 : cp = 1
    · subst hc1
      obtain rfl : m = 1 := by omega
      go_wp2
      go_ret
      refine ⟨rfl, HFIN.out off 0 (fun h => by omega) (by omega) (by unfold maxLen; omega)⟩
    · go_wp2
      go_ret
      refine ⟨rfl, HFIN.out (off + 1) (cp - 1) (fun _ => rfl) (by omega) (by unfold maxLen; omega)⟩
/-- an event behind the others -/
theorem ev_push {w8 W1 : World} {A8 : Value} {x : Int × Int} (hR : IRunAt w0 bd rb tg fa fo n c rs st g ow W) (hd : st.doing ≠ 3) (hgl : g.gs.map (fun x => x.fb) = gl) (hpb : g.rgb = rgb) (hb : Below W.heap.size W W1) (hown : w8.ownsRow w0.heap.size 79 2 A8 (st.evs.length + 1) (ievc st.evs ++ [.int .i64 x.1, .int .u64 x.2])) (hg : W1.grownBy w8 g.xv.ownBlock) (hor : A8.ownBlock = g.xv.ownBlock ∨ A8.ownBlock = some W1.heap.size) :
    w8.cell? ⟨tg, 1, none⟩ = some g.xv ∧ w8.frozen? ⟨tg, 1, none⟩ = false ∧ tg < w8.heap.size ∧ IRunX w0 bd rb tg fa fo n c rs { st with evs := st.evs ++ [x] } gl rgb (w8.setCell ⟨tg, 1, none⟩ A8) := by
  obtain ⟨hb8, hB8, hO8, hkr⟩ := app_set hR.tr.blk hR.tr.evs (by omega) hb hown hg hor 1
  refine ⟨by rw [hb8.cell]; rfl, hb8.frozen 1, hb8.lt, ?_⟩
  refine ⟨{ g with xv := A8 }, _, hR.tr_ (tv := g.tv) (tape := st.tape) hkr (fun y hy => hy.elim .inr .inl) hd ⟨hB8, ?_, ?_⟩, hgl, hpb⟩
  · obtain ⟨A, m, cp, e1, e2, e3, e4, e5, e6⟩ := hR.tr.tape
    refine ⟨A, m, cp, e1, e2, e3, e4, e5, fun hn => ?_⟩
    obtain ⟨gt, off, cs, d1, d2, d3, d4, d5⟩ := e6 hn
    exact ⟨gt, off, cs, d1, d2, (hkr.old gt d4.lt).trans d3, (hkr.block gt d4.lt (by rw [d3]; exact ne2 (by omega) (by omega))).trans d4, d5⟩
  · have e1 : (st.evs ++ [x]).length = st.evs.length + 1 := by simp
    have e2 : ievc (st.evs ++ [x]) = ievc st.evs ++ [.int .i64 x.1, .int .u64 x.2] := by simp [ievc]
    rw [e1, e2]; exact hO8

set_option maxRecDepth 100000 in
set_option maxHeartbeats 1600000 in
theorem out_any (v : Int) (h : IRunX w0 bd rb tg fa fo n c rs st gl rgb W) (hd : st.doing ≠ 3) (hs : st.evs.length ≤ 1048576) :
    Calls Try.prog 88 #[.pointer (some ⟨tg, 0, none⟩), .int .u64 v] W fun e w' => e = .returned (.tuple #[]) ∧ IRunX w0 bd rb tg fa fo n c rs { st with evs := st.evs ++ [(1, v)] } gl rgb w' := by
  obtain ⟨g, ow, hR, hgl, hpb⟩ := h
  obtain ⟨m, hm⟩ : ∃ m, m = st.evs.length := ⟨_, rfl⟩
  obtain ⟨xv, hxv⟩ : ∃ m, m = g.xv := ⟨_, rfl⟩
  have c1 : W.cell? ⟨tg, 1, none⟩ = some xv := by rw [hxv]; exact hR.tr.blk.blk.cell 1
  have htz := hR.tr.blk.blk.lt
  have hbz : w0.heap.size ≤ W.heap.size := hR.below.size
  have HO := Lib.hid (reads_ev W 1 v)
  have H6 : Hid (∀ u ∈ [Value.int .i64 1, Value.int .u64 v], u.oneCell' = true) := Lib.hid (fun u hu => by simp at hu; rcases hu with rfl | rfl <;> rfl)
  have H7 : Hid ((W.alloc (.cells #[.int .i64 1, .int .u64 v] 79)).ownsRow w0.heap.size 79 2 xv m (ievc st.evs)) := Lib.hid (by rw [hxv, hm]; exact hR.tr.evs.own.alloc _)
  rw [← hm] at hs
  have HM := Lib.hid hm
  have HXV := Lib.hid hxv
  have HR := Lib.hid hR
  have HGL := Lib.hid hgl
  have HPB := Lib.hid hpb
  have HD := Lib.hid hd
  clear hm hxv hR hgl hpb hd
  go_enter Try.func88, Try.ntmps88
  go_wp2_with (at_builtin; refine app_ev rfl _ _ rfl w0.heap.size xv m (ievc st.evs) rfl H7.out (W.heap.size + 1) (some ⟨W.heap.size, 0, none⟩) 1 1 [.int .i64 1, .int .u64 v] rfl HO.out H6.out (by omega) (by simp; omega) ?_; intro v8 w8 hown hgr hor; refine Hid.out ?_)
  obtain ⟨A8, c8, rfl⟩ := own_slice hown
  rw [HM.out] at hown hor
  rw [HXV.out] at hgr hor
  obtain ⟨d1, f1, hz8, hX⟩ := ev_push (x := (1, v)) HR.out HD.out HGL.out HPB.out ((Below.refl _ _).alloc (Nat.le_refl _) _) hown hgr hor
  rw [← HM.out] at hX
  rw [← HXV.out] at d1
  have HX := Lib.hid hX
  clear hown hgr hor hX
  refine Lib.hid ?_
  go_wp2
  go_end0
  exact ⟨rfl, HX.out⟩

set_option maxRecDepth 100000 in
set_option maxHeartbeats 1600000 in
theorem in_any (h : IRunX w0 bd rb tg fa fo n c rs st gl rgb W) (hd : st.doing ≠ 3) (hs : st.evs.length ≤ 1048576) :
    Calls Try.prog 87 #[.pointer (some ⟨tg, 0, none⟩)] W fun e w' => e = .returned (.int .u64 (st.tape.headD 0)) ∧ IRunX w0 bd rb tg fa fo n c rs { st with tape := st.tape.tail, evs := st.evs ++ [(2, st.tape.headD 0)] } gl rgb w' := by
  obtain ⟨v, HV⟩ : ∃ v, Hid (v = st.tape.headD 0) := ⟨_, Lib.hid rfl⟩
  have HN := Lib.hid (next_any h hd)
  rw [← HV.out] at HN ⊢
  have HD := Lib.hid hd
  obtain ⟨m, hm⟩ : ∃ m, m = st.evs.length := ⟨_, rfl⟩
  rw [← hm] at hs
  have HM := Lib.hid hm
  have htz : tg < W.heap.size := by obtain ⟨g, ow, hR, _, _⟩ := h; exact hR.tr.blk.blk.lt
  clear h hd hm
  go_enter Try.func87, Try.ntmps87
  go_wp2_with (go_at_call 124; refine HN.out.mono ?_; rintro e w1 ⟨rfl, h1⟩; have H1 := Lib.hid h1; clear h1; refine Hid.out ?_)
  obtain ⟨g, ow, hR, hgl, hpb⟩ := H1.out
  obtain ⟨xv, hxv⟩ : ∃ m, m = g.xv := ⟨_, rfl⟩
  have c1 : w1.cell? ⟨tg, 1, none⟩ = some xv := by rw [hxv]; exact hR.tr.blk.blk.cell 1
  have htz1 := hR.tr.blk.blk.lt
  have hbz : w0.heap.size ≤ w1.heap.size := hR.below.size
  have HO := Lib.hid (reads_ev w1 2 v)
  have H6 : Hid (∀ u ∈ [Value.int .i64 2, Value.int .u64 v], u.oneCell' = true) := Lib.hid (fun u hu => by simp at hu; rcases hu with rfl | rfl <;> rfl)
  have H7 : Hid ((w1.alloc (.cells #[.int .i64 2, .int .u64 v] 79)).ownsRow w0.heap.size 79 2 xv m (ievc st.evs)) := Lib.hid (by rw [hxv, HM.out]; exact hR.tr.evs.own.alloc _)
  have HXV := Lib.hid hxv
  have HR := Lib.hid hR
  have HGL := Lib.hid hgl
  have HPB := Lib.hid hpb
  clear hxv hR hgl hpb
  refine Lib.hid ?_
  go_wp2_with (at_builtin; refine app_ev rfl _ _ rfl w0.heap.size xv m (ievc st.evs) rfl H7.out (w1.heap.size + 1) (some ⟨w1.heap.size, 0, none⟩) 1 1 [.int .i64 2, .int .u64 v] rfl HO.out H6.out (by omega) (by simp; omega) ?_; intro v8 w8 hown hgr hor; refine Hid.out ?_)
  obtain ⟨A8, c8, rfl⟩ := own_slice hown
  rw [HM.out] at hown hor
  rw [HXV.out] at hgr hor
  obtain ⟨d1, f1, hz8, hX⟩ := ev_push (x := (2, v)) HR.out HD.out HGL.out HPB.out ((Below.refl _ _).alloc (Nat.le_refl _) _) hown hgr hor
  rw [← HM.out] at hX
  rw [← HXV.out] at d1
  have HX := Lib.hid hX
  clear hown hgr hor hX
  refine Lib.hid ?_
  go_wp2
  go_ret
  exact ⟨rfl, HX.out⟩
end
end Go.Proofs.Ytlnccpojldiogaa

/-
  Package irun: end; the trace's Events.
-/
namespace Go.Proofs.Ytlnccpojldiogaa
set_option linter.unusedVariables false
set_option linter.unusedSimpArgs false
open Go.ChangeShapes Go.WideShapes Go.ChangeAt Go.RowKit

theorem evc6_one (l : List (Int × Int)) : ∀ u ∈ ievc l, u.oneCell' = true := by
  intro u hu
  simp only [ievc, List.mem_flatMap] at hu
  obtain ⟨p, _, hu⟩ := hu
  simp at hu
  rcases hu with rfl | rfl <;> rfl
set_option maxHeartbeats 800000 in
theorem clone_ev (B : Nat) (ao : Option Addr) (n c : Nat) (xs : List (Int × Int)) (w : World) (h : Reads w B 2 ao n (ievc xs)) (hB : B ≤ w.heap.size) (hr : n * 16 ≤ 140737488355328) :
    Calls Try.prog 93 #[.slice ao n c] w fun e w' => ∃ v', e = .returned v' ∧ w'.ownsRow w.heap.size 79 2 v' n (ievc xs) ∧ Below w.heap.size w w' := by
  obtain ⟨i0, hi, hz0, hz1, hz2⟩ := info_parts info_ev
  have q22 : ∀ (w : World) (a : Option Addr) (n c n' c' : Nat), (binOp .eql 28 (.slice a n c) (.slice none n' c')).run Try.prog w = .ok (.bool a.isNone) w := fun w a n c n' c' => Lib.run_eql_slice_nil w _ _ a n c n' c' Try.underlying28
  have HH := Lib.hid h
  clear h
  cases ao with
  | none =>
    have hn : n = 0 := by
      rcases Nat.eq_zero_or_pos n with h0 | h0
      · exact h0
      · obtain ⟨ad, e, _⟩ := HH.out.2 h0
        cases e
    go_enter Try.func93, Try.ntmps93
    go_wp2
    go_ret
    refine ⟨_, rfl, ?_, Below.refl _ _⟩
    have hl := HH.out.1
    subst hn
    have hx : ievc xs = [] := List.eq_nil_of_length_eq_zero (by simpa using hl)
    rw [hx]
    exact ⟨rfl, .inl ⟨rfl, rfl⟩⟩
  | some ad =>
    go_enter Try.func93, Try.ntmps93
    go_wp2_with (at_builtin; refine wpList_append_any _ rfl _ _ 28 rfl w.heap.size 79 i0 (.agg #[.int .i64 0, .int .u64 0]) 2 16 Try.underlying28 hi hz0 hz1 hz2 rfl (by decide) _ 0 [] rfl (World.ownsRow_made w #[] 0 (Nat.le_refl _) (Nat.zero_le _) (by simp)) B (some ad) n c (ievc xs) rfl (HH.out.alloc hB _) (evc6_one xs) (by unfold maxLen; omega) (by omega) (by simp) ?_; intro v' w1 hown hgr _)
    go_wp2
    go_ret
    refine ⟨v', rfl, by simpa using hown, ((Below.refl _ _).alloc (Nat.le_refl _) _).grown hgr (by simp) ?_⟩
    intro k hk
    injection hk with hk
    exact Nat.le_of_eq hk
section
variable {w0 W W' w8 W1 : World} {ow ow' : Nat → Nat} {ex : Nat → Prop} {bd : Bool} {base rb tg fa fo n c k : Nat} {rs : List RG} {st st' : IMc} {g g' : IRG} {t : IFr} {bl : List IFr} {gl : List Nat} {rgb fb : Nat} {tv xv : Value} {tape : List Int} {evs : List (Int × Int)}
set_option maxHeartbeats 800000 in
theorem events_any (h : ITrAt W ow base tg tv xv tape evs) (hs : evs.length ≤ 1048577) :
    Calls Try.prog 48 #[.pointer (some ⟨tg, 0, none⟩)] W fun e w' => ∃ v', e = .returned v' ∧ w'.ownsRow W.heap.size 79 2 v' evs.length (ievc evs) ∧ Below W.heap.size W w' := by
  have c1 : W.cell? ⟨tg, 1, none⟩ = some xv := h.blk.blk.cell 1
  obtain ⟨A, cp, rfl⟩ := h.evs.slice
  have HR : Hid (Reads W W.heap.size 2 A evs.length (ievc evs)) := Lib.hid (Reads.of_own h.evs.own)
  clear h
  go_enter Try.func48, Try.ntmps48
  go_wp2_with (go_at_call 93; refine (clone_ev W.heap.size A evs.length cp evs _ HR.out (Nat.le_refl _) (by omega)).mono ?_; rintro e w' ⟨v', rfl, hown, hb⟩; refine Hid.out ?_)
  have HW := Lib.hid hown
  clear hown
  refine Lib.hid ?_
  go_wp2
  go_ret
  exact ⟨v', rfl, HW.out, hb⟩

set_option maxRecDepth 100000 in
set_option maxHeartbeats 1600000 in
theorem end_any (kk v : Int) (h : IRunX w0 bd rb tg fa fo n c rs st gl rgb W) (hd : st.doing ≠ 3) (hs : st.evs.length ≤ 1048577) :
    Calls Try.prog 27 #[.pointer (some ⟨rb, 0, none⟩), .int .i64 kk, .int .u64 v] W fun e w' => e = .returned (.tuple #[]) ∧ IRunX w0 bd rb tg fa fo n c rs (st.over kk v) gl rgb w' := by
  obtain ⟨g, ow, hR, hgl, hpb⟩ := h
  have hrz := hR.run.blk.lt
  have htz := hR.tr.blk.blk.lt
  have c2 : W.cell? ⟨rb, 2, none⟩ = some (.pointer (some ⟨tg, 0, none⟩)) := hR.run.blk.cell 2
  have c6 : W.cell? ⟨rb, 7, none⟩ = some (.int .i64 st.doing) := hR.run.blk.cell 7
  have c7 : W.cell? ⟨rb, 8, none⟩ = some g.ev := hR.run.blk.cell 8
  have c8 : W.cell? ⟨rb, 9, none⟩ = some (.int .i64 st.endk) := hR.run.blk.cell 9
  have c9 : W.cell? ⟨rb, 10, none⟩ = some (.int .u64 st.endv) := hR.run.blk.cell 10
  have f6 : W.frozen? ⟨rb, 7, none⟩ = false := hR.run.blk.frozen 7
  have f7 : W.frozen? ⟨rb, 8, none⟩ = false := hR.run.blk.frozen 8
  have f8 : W.frozen? ⟨rb, 9, none⟩ = false := hR.run.blk.frozen 9
  have f9 : W.frozen? ⟨rb, 10, none⟩ = false := hR.run.blk.frozen 10
  have hB1 := hR.run.set_ 7 (.int .i64 3)
  have hB2 := hB1.set_ 9 (.int .i64 kk)
  have hB3 := hB2.set_ 10 (.int .u64 v)
  have k3 := ((Kr.set hR.run 7 (.int .i64 3)).trans (Kr.set hB1 9 (.int .i64 kk))).trans (Kr.set hB2 10 (.int .u64 v))
  obtain ⟨W3, hW3⟩ : ∃ W3, W3 = ((W.setCell ⟨rb, 7, none⟩ (.int .i64 3)).setCell ⟨rb, 9, none⟩ (.int .i64 kk)).setCell ⟨rb, 10, none⟩ (.int .u64 v) := ⟨_, rfl⟩
  rw [← hW3] at hB3 k3
  have hT3 := hR.tr.kr k3 (ne1 (by omega)) (ne1 (by omega)) (ne1 (by omega))
  have HEV := Lib.hid (events_any hT3 hs)
  rw [hW3] at HEV
  have HFIN : Hid (∀ A8 cp w5, w5.ownsRow W3.heap.size 79 2 (.slice A8 st.evs.length cp) st.evs.length (ievc st.evs) → Below W3.heap.size W3 w5 → w5.cell? ⟨rb, 8, none⟩ = some g.ev ∧ w5.frozen? ⟨rb, 8, none⟩ = false ∧ rb < w5.heap.size ∧ IRunX w0 bd rb tg fa fo n c rs (st.over kk v) gl rgb (w5.setCell ⟨rb, 8, none⟩ (.slice A8 st.evs.length cp))) := Lib.hid (by
    intro A8 cp w5 hown hb
    have k4 : Kr (e1 0) ow (up ow W3.heap.size 7) W3 w5 := Kr.of_new hb ow 7 _
    have hB4 : OB w5 (up ow W3.heap.size 7) w0.heap.size 0 rb 91 _ := hB3.kr (Kr.of_new (ex := fun _ => False) hb ow 7) (fun h => h)
    have hB5 := hB4.set_ 8 (.slice A8 st.evs.length cp)
    have kr := (k3.trans k4).trans (Kr.set hB4 8 (.slice A8 st.evs.length cp))
    have hz3 : W.heap.size ≤ W3.heap.size := k3.size
    have hO : OR w5 (up ow W3.heap.size 7) w0.heap.size 7 79 2 (.slice A8 st.evs.length cp) st.evs.length (ievc st.evs) := ⟨own_more hown (by have := hR.below.size; omega), fun q hq => up_new (own_lt' hown hq).1⟩
    refine ⟨by rw [hB4.blk.cell]; rfl, hB4.blk.frozen 8, hB4.blk.lt, ⟨{ g with ev := .slice A8 st.evs.length cp }, _, hR.part kr (ne1 (by omega)) hB5 (hR.frs.kr kr (ne1 (by omega))) (hR.frames.kr kr (ne1 (by omega)) fun x h1 h2 => ne1 (by omega)) (fun hb => ⟨(hR.regs hb).1.kr kr (ne1 (by omega)), (hR.regs hb).2⟩) (hR.pan.kr kr (ne1 (by omega))) (hR.tr.kr kr (ne1 (by omega)) (ne1 (by omega)) (ne1 (by omega))) (fun h3 => absurd rfl h3) (fun _ => hO.kr (Kr.set hB4 8 _) (ne1 (by omega))), hgl, hpb⟩⟩)
  rw [hW3] at HFIN
  obtain ⟨m, hm⟩ : ∃ m, m = st.evs.length := ⟨_, rfl⟩
  rw [← hm] at HEV HFIN
  clear hR hgl hpb hd hs hB1 hB2 hB3 k3 hW3 hT3 hm
  go_enter Try.func27, Try.ntmps27
  go_wp2_with (go_at_call 48; refine HEV.out.mono ?_; rintro e w5 ⟨v', rfl, hown, hb⟩; obtain ⟨A8, cp, rfl⟩ := own_slice hown; obtain ⟨d7, g7, hz, hX⟩ := HFIN.out _ _ _ hown hb; have HX := Lib.hid hX; clear hX hown hb)
  go_end0
  exact ⟨rfl, HX.out⟩
end
end Go.Proofs.Ytlnccpojldiogaa
