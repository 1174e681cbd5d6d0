/-
  Texts of one seat, one behind the other: IExe, IFrm, IKept, IPtr, IWait, IRais, IUndef, IResF.
-/
import Derived.StillTailTactics
import Derived.RegionTactic
import Derived.Test.YtlnccpojldiogaaMBb

/-
  Package irun: execute, one operation after another.
-/
namespace Go.Proofs.Ytlnccpojldiogaa
set_option linter.unusedVariables false
set_option linter.unusedSimpArgs false
open Go.ChangeShapes Go.WideShapes Go.ChangeAt Go.RowKit

/-- a node's cells -/
structure NdAt (W : World) (b o : Nat) (x : RN) : Prop where
  c0 : W.cell? ⟨b, o, none⟩ = some (.int .u8 x.nd.op)
  c1 : W.cell? ⟨b, o + 1, none⟩ = some (.int .u8 x.nd.bop)
  c2 : W.cell? ⟨b, o + 2, none⟩ = some (.int .i64 x.nd.d)
  c3 : W.cell? ⟨b, o + 3, none⟩ = some (.int .i64 x.nd.e)
  c4 : W.cell? ⟨b, o + 4, none⟩ = some (.int .i64 x.nd.a)
  c5 : W.cell? ⟨b, o + 5, none⟩ = some (.int .i64 x.nd.b)
  c6 : W.cell? ⟨b, o + 6, none⟩ = some (.int .i64 x.nd.f)
  c7 : W.cell? ⟨b, o + 7, none⟩ = some (.int .i64 x.nd.cell)
  c8 : W.cell? ⟨b, o + 8, none⟩ = some (.int .u64 x.nd.imm)
  c9 : W.cell? ⟨b, o + 9, none⟩ = some (.slice x.ao x.nd.args.length x.ac)
  c10 : W.cell? ⟨b, o + 10, none⟩ = some (.int .i64 x.nd.next)
  c11 : W.cell? ⟨b, o + 11, none⟩ = some (.int .i64 x.nd.els)
section
variable {w0 W W' : World} {bd : Bool} {rb tg fa fo rgb n c k : Nat} {rs : List RG} {st st' : IMc} {t t' : IFr} {bl : List IFr} {gl : List Nat} {fb b o : Nat} {r : RG} {p x : Int} {nd : RN}
theorem NdAt.kept (h : NdAt w0 b o nd) (hb : b < w0.heap.size) (hB : Below w0.heap.size w0 W) : NdAt W b o nd :=
  ⟨(hB.cell (p := ⟨b, o, none⟩) hb).trans h.c0, (hB.cell (p := ⟨b, o + 1, none⟩) hb).trans h.c1, (hB.cell (p := ⟨b, o + 2, none⟩) hb).trans h.c2, (hB.cell (p := ⟨b, o + 3, none⟩) hb).trans h.c3, (hB.cell (p := ⟨b, o + 4, none⟩) hb).trans h.c4, (hB.cell (p := ⟨b, o + 5, none⟩) hb).trans h.c5, (hB.cell (p := ⟨b, o + 6, none⟩) hb).trans h.c6, (hB.cell (p := ⟨b, o + 7, none⟩) hb).trans h.c7, (hB.cell (p := ⟨b, o + 8, none⟩) hb).trans h.c8, (hB.cell (p := ⟨b, o + 9, none⟩) hb).trans h.c9, (hB.cell (p := ⟨b, o + 10, none⟩) hb).trans h.c10, (hB.cell (p := ⟨b, o + 11, none⟩) hb).trans h.c11⟩
theorem IRunX.low (h : IRunX w0 bd rb tg fa fo n c rs st gl rgb W) : Below w0.heap.size w0 W := by
  obtain ⟨g, ow, hR, _⟩ := h
  exact hR.below
theorem body_m (bd : Bool) (fb : Nat) (W : World) : (method 383 (ifrP bd) (ptrI fb) "windlass/irun.body").run Try.prog W = .ok (203, ptrI fb) W := by cases bd <;> kernel_rfl
theorem get_m (bd : Bool) (fb : Nat) (W : World) : (method 383 (ifrP bd) (ptrI fb) "windlass/irun.get").run Try.prog W = .ok (getF bd, ptrI fb) W := by cases bd <;> kernel_rfl
theorem put_m (bd : Bool) (fb : Nat) (W : World) : (method 383 (ifrP bd) (ptrI fb) "windlass/irun.put").run Try.prog W = .ok (putF bd, ptrI fb) W := by cases bd <;> kernel_rfl
theorem nget_m (bd : Bool) (fb : Nat) (W : World) : (nilAhead 383 (ifrP bd) (ptrI fb) "windlass/irun.get").run Try.prog W = .ok (some false) W := by cases bd <;> kernel_rfl
theorem nput_m (bd : Bool) (fb : Nat) (W : World) : (nilAhead 383 (ifrP bd) (ptrI fb) "windlass/irun.put").run Try.prog W = .ok (some false) W := by cases bd <;> kernel_rfl
theorem nbody_m (bd : Bool) (fb : Nat) (W : World) : (nilAhead 383 (ifrP bd) (ptrI fb) "windlass/irun.body").run Try.prog W = .ok (some false) W := by cases bd <;> kernel_rfl
def waitF (bd : Bool) : FuncId := if bd = true then 212 else 207
def resumeF (bd : Bool) : FuncId := if bd = true then 211 else 206
theorem wait_m (bd : Bool) (fb : Nat) (W : World) : (method 383 (ifrP bd) (ptrI fb) "windlass/irun.wait").run Try.prog W = .ok (waitF bd, ptrI fb) W := by cases bd <;> kernel_rfl
theorem nwait_m (bd : Bool) (fb : Nat) (W : World) : (nilAhead 383 (ifrP bd) (ptrI fb) "windlass/irun.wait").run Try.prog W = .ok (some false) W := by cases bd <;> kernel_rfl
theorem resume_m (bd : Bool) (fb : Nat) (W : World) : (method 383 (ifrP bd) (ptrI fb) "windlass/irun.resume").run Try.prog W = .ok (resumeF bd, ptrI fb) W := by cases bd <;> kernel_rfl
theorem nresume_m (bd : Bool) (fb : Nat) (W : World) : (nilAhead 383 (ifrP bd) (ptrI fb) "windlass/irun.resume").run Try.prog W = .ok (some false) W := by cases bd <;> kernel_rfl
set_option maxRecDepth 100000 in
set_option maxHeartbeats 3200000 in
theorem exe_const (h : IRunX w0 bd rb tg fa fo n c rs st (fb :: gl) rgb W) (hf : st.frames = t :: bl) (hr : rs[t.f]? = some r) (hN : NdAt w0 b o nd) (hb : b < w0.heap.size) (hop : nd.nd.op = 1) (hp : PlOk r nd.nd.d) :
    Calls Try.prog 46 #[.pointer (some ⟨rb, 0, none⟩), ifrV bd fb, .pointer (some ⟨b, o, none⟩)] W fun e w' => e = .returned (.tuple #[]) ∧ IRunX w0 bd rb tg fa fo n c rs (st.put (grs rs) bd t bl nd.nd.d nd.nd.imm) (fb :: gl) rgb w' := by
  have hNW := hN.kept hb h.low
  have c0 := hNW.c0
  rw [hop] at c0
  have c2 := hNW.c2
  have c8 := hNW.c8
  have HPUT := Lib.hid (put_any (x := nd.nd.imm) (h.on (Below.refl _ _).drew) hf hr hp)
  clear h hN hNW
  unfold ifrV
  have hbm := body_m bd fb
  have hpm := put_m bd fb
  have hnp := nput_m bd fb
  cases bd
  all_goals
    simp only [ptrI, ifrP, putF, Bool.false_eq_true, if_false, if_true] at hbm hpm hnp HPUT ⊢
    go_enter Try.func46, Try.ntmps46
    go_wp2_with (go_at_call 203; refine (body_any fb _).mono ?_; rintro e w3 ⟨rfl, rfl⟩)
    go_still_tail 12, (by kernel_rfl)
    go_wp2_with ((first | go_at_call 205 | go_at_call 210); with_reducible refine HPUT.out.mono ?_; rintro e w2 ⟨rfl, h2⟩; have H2 := Lib.hid h2; clear h2)
    all_goals
      go_end0
      exact ⟨rfl, H2.out⟩
end
end Go.Proofs.Ytlnccpojldiogaa

/-
  Package irun: the last frame's cells turned; a place read, the run kept.
-/
namespace Go.Proofs.Ytlnccpojldiogaa
set_option linter.unusedVariables false
set_option linter.unusedSimpArgs false
open Go.ChangeShapes Go.WideShapes Go.ChangeAt Go.RowKit

section
variable {w0 W W' : World} {bd : Bool} {rb tg fa fo rgb n c k : Nat} {rs : List RG} {st st' : IMc} {t t' : IFr} {bl : List IFr} {gl : List Nat} {fb b o : Nat} {r : RG} {p x : Int} {nd : RN}
theorem below_drewN' {B : Nat} {a W : World} (h : Below B a W) (k : Nat) : Below B a (W.drewN k) := ⟨h.os, h.tape, h.output, h.size, h.block⟩
theorem get_run (h : IRunX w0 bd rb tg fa fo n c rs st (fb :: gl) rgb W) (hf : st.frames = t :: bl) (hr : rs[t.f]? = some r) (hp : PlOk r p) :
    Calls Try.prog (getF bd) #[.pointer (some ⟨fb, 0, none⟩), .int .i64 p] W fun e w' => e = .returned (.int .u64 (getP (grs rs) bd st.regs t p)) ∧ IRunX w0 bd rb tg fa fo n c rs st (fb :: gl) rgb w' :=
  (get_any h hf hr hp).mono fun e w' ⟨he, q, hw⟩ => ⟨he, by rw [hw]; exact h.on (below_drewN' (Below.refl _ _) q)⟩
/-- the last frame's cells -/
theorem IRunX.top8 (h : IRunX w0 bd rb tg fa fo n c rs st (fb :: gl) rgb W) (hf : st.frames = t :: bl) (x : Int) :
    fb < W.heap.size ∧ W.cell? ⟨fb, 0, none⟩ = some (.pointer (some ⟨fa, fo + t.f * 8, none⟩)) ∧ W.cell? ⟨fb, 3, none⟩ = some (.int .i64 t.at_) ∧ W.frozen? ⟨fb, 3, none⟩ = false ∧ W.cell? ⟨fb, 6, none⟩ = some (.int .u64 t.number) ∧ W.frozen? ⟨fb, 6, none⟩ = false ∧
      IRunX w0 bd rb tg fa fo n c rs (st.top { t with at_ := x } bl) (fb :: gl) rgb (W.setCell ⟨fb, 3, none⟩ (.int .i64 x)) ∧ IRunX w0 bd rb tg fa fo n c rs (st.top { t with number := x } bl) (fb :: gl) rgb (W.setCell ⟨fb, 6, none⟩ (.int .u64 x)) := by
  obtain ⟨g, ow, fg, gs, hR, hg, rfl, hgl, hrg, hF⟩ := h.open_ hf
  have hB := hF.blk
  have key : ∀ (i : Nat) (u : Value) (t' : IFr), (ifrC bd fa fo g.rgb t fg).setIfInBounds i u = ifrC bd fa fo g.rgb t' fg → t'.words = t.words → t'.defs = t.defs → t'.before = t.before → IRunX w0 bd rb tg fa fo n c rs (st.top t' bl) (fg.fb :: gl) rgb (W.setCell ⟨fg.fb, i, none⟩ u) := by
    intro i u t' hs h1 h2 h3
    have kr := Kr.set hB i u
    have hB2 := hB.set_ i u
    rw [hs] at hB2
    refine IRunX.close_ (fg := fg) (hR.top_ hf hg kr (fun x hx => by have : x = _ := hx; omega) ⟨hB2, by rw [h1]; exact hF.pag.kr kr (ne1 (by omega)) (ne1 (by omega)), by rw [h2]; exact hF.dfr.kr kr (ne1 (by omega)), fun j d hd => ?_, by rw [h2]; exact hF.lds, hF.lpg, by rw [h3]; exact hF.lbf⟩ rfl) rfl hgl hrg
    rw [h2] at hd
    obtain ⟨v, e1, e2⟩ := hF.args j d hd
    exact ⟨v, e1, e2.kr kr (ne1 (by omega))⟩
  exact ⟨hB.blk.lt, by rw [hB.blk.cell]; exact ifrC_0, by rw [hB.blk.cell]; exact ifrC_3, hB.blk.frozen 3, by rw [hB.blk.cell]; exact ifrC_6, hB.blk.frozen 6, key 3 _ _ (ifrC_s3 x) rfl rfl rfl, key 6 _ _ (ifrC_s6 x) rfl rfl rfl⟩
end
end Go.Proofs.Ytlnccpojldiogaa

/-
  Package irun: a frame's cell is read; what a frame keeps.
-/
namespace Go.Proofs.Ytlnccpojldiogaa
set_option linter.unusedVariables false
set_option linter.unusedSimpArgs false
open Go.ChangeShapes Go.WideShapes Go.ChangeAt Go.RowKit

section
variable {w0 W W' : World} {bd : Bool} {rb tg fa fo rgb n c k : Nat} {rs : List RG} {st st' : IMc} {t t' : IFr} {bl : List IFr} {gl : List Nat} {fb b o : Nat} {r : RG} {p x : Int} {nd : RN}
variable {ow : Nat → Nat}
/-- a cell of the last frame -/
theorem IRunX.wget (h : IRunX w0 bd rb tg fa fo n c rs st (fb :: gl) rgb W) (hf : st.frames = t :: bl) (a : Nat) (ha : a ≤ 1000000) : ∀ m, Calls Try.prog 78 #[.pointer (some ⟨fb, 4, none⟩), .int .i64 a] (W.drewN m) fun e w' => e = .returned (.int .u64 (t.words a)) ∧ w' = W.drewN m := by
  intro m
  obtain ⟨g, ow, fg, gs, hR, hg, rfl, hgl, hrg, hF⟩ := h.open_ hf
  have c4 : W.cell? ⟨fg.fb, 4, none⟩ = some fg.pv := by rw [hF.blk.blk.cell]; exact ifrC_4
  exact (pget_any fg.fb 4 a (hF.pag.kr (Kr.of_below (below_drewN (Below.refl _ _) m) ow (fun _ => False)) (fun h => h) (fun h => h)) c4 (by omega) (by have := hF.lpg; omega)).mono fun e w' ⟨he, hw⟩ => ⟨he, hw.symm⟩
theorem IRunX.keep_ (h : IRunX w0 bd rb tg fa fo n c rs st (fb :: gl) rgb W) (hf : st.frames = t :: bl) (hr : rs[t.f]? = some r) : fb < W.heap.size ∧ W.cell? ⟨fb, 0, none⟩ = some (.pointer (some ⟨fa, fo + t.f * 8, none⟩)) ∧ W.cell? ⟨fa, fo + t.f * 8 + 5, none⟩ = some (.int .i64 r.gr.keep) ∧ (r.gr.keep = -1 ∨ 0 ≤ r.gr.keep ∧ r.gr.keep < 64) := by
  obtain ⟨g, ow, fg, gs, hR, hg, rfl, hgl, hrg, hF⟩ := h.open_ hf
  obtain ⟨_, _, _, _, _, e5, _⟩ := prog_cells hR.prog hr
  obtain ⟨_, c1, c2, _, _, hk, _⟩ := val_head hR.val hr
  refine ⟨hF.blk.blk.lt, by rw [hF.blk.blk.cell]; exact ifrC_0, e5, ?_⟩
  rcases hk with hk | ⟨k1, k2⟩
  · exact .inl hk
  · exact .inr ⟨k1, by omega⟩
set_option maxRecDepth 100000 in
set_option maxHeartbeats 1600000 in
theorem kept_any (h : IRunX w0 bd rb tg fa fo n c rs st (fb :: gl) rgb W) (hf : st.frames = t :: bl) (hr : rs[t.f]? = some r) :
    Calls Try.prog 162 #[.pointer (some ⟨fb, 0, none⟩)] W fun e w' => e = .returned (.int .u64 (keptI (grs rs) t)) ∧ ∃ q, w' = W.drewN q := by
  obtain ⟨hz, c0, c5, hk⟩ := h.keep_ hf hr
  unfold keptI
  rw [grOf_at hr]
  by_cases hn : r.gr.keep = -1
  · rw [if_pos hn]
    rw [hn] at c5
    clear h hf hr hn hk
    go_enter Try.func162, Try.ntmps162
    go_wp2
    go_ret
    exact ⟨rfl, 0, rfl⟩
  · rw [if_neg hn]
    obtain ⟨a, ha⟩ : ∃ a : Nat, a = r.gr.keep.toNat := ⟨_, rfl⟩
    have hka : r.gr.keep = (a : Int) := by omega
    rw [← ha]
    rw [hka] at c5
    have gn : ((a : Int) == -1) = false := by simp
    have HG := Lib.hid (h.wget hf a (by omega))
    clear h hf hr hn hk ha hka
    go_enter Try.func162, Try.ntmps162
    go_wp2
    go_quiet (first | (go_at_call 78; with_reducible exact Calls.quiet_of_same (HG.out _)))
    go_wp2
    go_ret
    exact ⟨rfl, _, rfl⟩
/-- .. is written -/
theorem IRunX.wput (h : IRunX w0 bd rb tg fa fo n c rs st (fb :: gl) rgb W) (hf : st.frames = t :: bl) (a : Nat) (ha : a ≤ 2000) : Calls Try.prog 44 #[.pointer (some ⟨fb, 4, none⟩), .int .i64 a, .int .u64 x] W fun e w' => e = .returned (.tuple #[]) ∧ IRunX w0 bd rb tg fa fo n c rs (st.top { t with words := put1 t.words a x } bl) (fb :: gl) rgb w' := by
  obtain ⟨g, ow, fg, gs, hR, hg, rfl, hgl, hrg, hF⟩ := h.open_ hf
  refine (pput_any (x := x) hF.blk ifrC_4 (by omega) (by omega) (by omega) hF.pag (by omega) (by have := hF.lpg; omega) hR.below.size).mono fun e w' ⟨he, h1⟩ => ⟨he, ?_⟩
  exact IRunX.words hR hf hg hgl hrg hF (by have := hF.lpg; omega) h1
end
end Go.Proofs.Ytlnccpojldiogaa

/-
  Package irun: a frame's pointer.
-/
namespace Go.Proofs.Ytlnccpojldiogaa
set_option linter.unusedVariables false
set_option linter.unusedSimpArgs false
open Go.ChangeShapes Go.WideShapes Go.ChangeAt Go.RowKit

section
variable {w0 W W' : World} {bd : Bool} {rb tg fa fo rgb n c k : Nat} {rs : List RG} {st st' : IMc} {t t' : IFr} {bl : List IFr} {gl : List Nat} {fb b o : Nat} {r : RG} {p x : Int} {nd : RN}
set_option maxRecDepth 100000 in
set_option maxHeartbeats 1600000 in
theorem pointer_any (s : Nat) (cl : Int) (h2 : W.cell? ⟨fb, 2, none⟩ = some (.int .u64 (s : Int))) (hz : fb < W.heap.size) (h0 : 0 ≤ cl) (h1 : cl < 64) (hs : s ≤ 1048577) :
    Calls Try.prog 79 #[.pointer (some ⟨fb, 0, none⟩), .int .i64 cl] W fun e w' => e = .returned (.int .u64 ((iFirst + s * 64 + cl) % 18446744073709551616)) ∧ ∃ q, w' = W.drewN q := by
  obtain ⟨y, hy⟩ : ∃ y : Int, y = (s : Int) := ⟨_, rfl⟩
  rw [← hy] at h2 ⊢
  have y0 : 0 ≤ y := by omega
  have y1 : y ≤ 1048577 := by omega
  have hsum : (iFirst + y * 64 + cl) % 18446744073709551616 = 13246092442546995200 + y * 64 + cl := by
    show (13246092442546995200 + y * 64 + cl) % 18446744073709551616 = _
    omega
  rw [hsum]
  clear hsum hy
  go_enter Try.func79, Try.ntmps79
  go_wp2
  go_ret
  exact ⟨by first | rfl | (congr 3; omega), 0, rfl⟩
theorem IRunX.serial_ (h : IRunX w0 bd rb tg fa fo n c rs st (fb :: gl) rgb W) (hf : st.frames = t :: bl) : W.cell? ⟨fb, 2, none⟩ = some (.int .u64 t.serial) ∧ fb < W.heap.size := by
  obtain ⟨g, ow, fg, gs, hR, hg, rfl, hgl, hrg, hF⟩ := h.open_ hf
  rw [hF.blk.blk.cell]
  exact ⟨ifrC_2, hF.blk.blk.lt⟩
end
end Go.Proofs.Ytlnccpojldiogaa

/-
  Package irun: wait, read free.
-/
namespace Go.Proofs.Ytlnccpojldiogaa
set_option linter.unusedVariables false
set_option linter.unusedSimpArgs false
open Go.ChangeShapes Go.WideShapes Go.ChangeAt Go.RowKit

section
variable {w0 W W' : World} {bd : Bool} {rb tg fa fo rgb n c k : Nat} {rs : List RG} {st st' : IMc} {t t' : IFr} {bl : List IFr} {gl : List Nat} {fb b o : Nat} {r : RG} {p x : Int} {nd : RN}
theorem ifrC_s7f {g : IG} (x : Int) : (ifrC false fa fo rgb t g).setIfInBounds 7 (.int .i64 x) = ifrC false fa fo rgb { t with answer := x } g := by unfold ifrC; simp [Array.setIfInBounds_append]
theorem IRunX.ans_ (h : IRunX w0 false rb tg fa fo n c rs st (fb :: gl) rgb W) (hf : st.frames = t :: bl) (x : Int) :
    fb < W.heap.size ∧ W.cell? ⟨fb, 7, none⟩ = some (.int .i64 t.answer) ∧ W.frozen? ⟨fb, 7, none⟩ = false ∧ IRunX w0 false rb tg fa fo n c rs (st.top { t with answer := x } bl) (fb :: gl) rgb (W.setCell ⟨fb, 7, none⟩ (.int .i64 x)) := by
  obtain ⟨g, ow, fg, gs, hR, hg, rfl, hgl, hrg, hF⟩ := h.open_ hf
  have hB := hF.blk
  refine ⟨hB.blk.lt, by rw [hB.blk.cell]; exact ifrC_7f, hB.blk.frozen 7, ?_⟩
  have kr := Kr.set hB 7 (.int .i64 x)
  have hB2 := hB.set_ 7 (.int .i64 x)
  rw [ifrC_s7f x] at hB2
  exact IRunX.close_ (fg := fg) (hR.top_ hf hg kr (fun x hx => by have : x = _ := hx; omega) ⟨hB2, hF.pag.kr kr (ne1 (by omega)) (ne1 (by omega)), hF.dfr.kr kr (ne1 (by omega)), fun j d hd => by
    obtain ⟨v, e1, e2⟩ := hF.args j d hd
    exact ⟨v, e1, e2.kr kr (ne1 (by omega))⟩, hF.lds, hF.lpg, hF.lbf⟩ rfl) rfl hgl hrg
set_option maxRecDepth 100000 in
set_option maxHeartbeats 1600000 in
theorem wait_free (h : IRunX w0 false rb tg fa fo n c rs st (fb :: gl) rgb W) (hf : st.frames = t :: bl) (hN : NdAt w0 b o nd) (hb : b < w0.heap.size) :
    Calls Try.prog 207 #[.pointer (some ⟨fb, 0, none⟩), .pointer (some ⟨b, o, none⟩)] W fun e w' => e = .returned (.tuple #[]) ∧ IRunX w0 false rb tg fa fo n c rs (st.top { t with answer := nd.nd.d } bl) (fb :: gl) rgb w' := by
  have c2 := (hN.kept hb h.low).c2
  obtain ⟨hz, c7, f7, hX⟩ := h.ans_ hf nd.nd.d
  have HX := Lib.hid hX
  clear h hf hN hX
  go_enter Try.func207, Try.ntmps207
  go_wp2
  go_end0
  exact ⟨rfl, HX.out⟩
end
end Go.Proofs.Ytlnccpojldiogaa

/-
  Package irun: raise.
-/
namespace Go.Proofs.Ytlnccpojldiogaa
set_option linter.unusedVariables false
set_option linter.unusedSimpArgs false
open Go.ChangeShapes Go.WideShapes Go.ChangeAt Go.RowKit

theorem info_rai : (Try.prog.info? 224).map (fun i => (i.zero, i.size, i.bytes)) = some (some (.agg #[.int .u64 0, .bool false]), 2, 16) := by kernel_rfl
theorem app_rai {w : World} {ops : Array Oper} {rest : List Oper} {o : Oper} {a : Act} {Q : Exit → Act → World → Prop} (hgd : o.guard = none) (s x : Operand)
    (ho : o.op = .call { callee := .builtin .append, args := #[s, x], argTypes := #[88, 88] }) (base : Nat)
    (v : Value) (n : Nat) (xs : List Value) (hs : a.eval s = v) (hown : w.ownsRow base 224 2 v n xs)
    (B : Nat) (A : Option Addr) (m c : Nat) (news : List Value) (hx : a.eval x = .slice A m c) (hr : Reads w B 2 A m news) (h1 : ∀ u ∈ news, u.oneCell' = true)
    (hbytes : (n + m) * 16 ≤ 140737488355328) (hbase : base ≤ w.heap.size)
    (h : ∀ v' w', w'.ownsRow base 224 2 v' (n + m) (xs ++ news) → w.grownBy w' v.ownBlock → (v'.ownBlock = v.ownBlock ∨ v'.ownBlock = some w.heap.size) → wpList Try.prog ops Q rest (a.put o.dst v') w') : wpList Try.prog ops Q (o :: rest) a w := by
  obtain ⟨i0, hi, hz0, hz1, hz2⟩ := info_parts info_rai
  exact wpList_append_any w hgd s x _ ho base 224 i0 (.agg #[.int .u64 0, .bool false]) 2 16 Try.underlying88 hi hz0 hz1 hz2 rfl (by decide) v n xs hs hown B A m c news hx hr h1 (by unfold maxLen; omega) hbytes hbase h
theorem reads_rai (W : World) (v : Int) : Reads (W.alloc (.cells #[.int .u64 v, .bool false] 224)) (W.heap.size + 1) 2 (some ⟨W.heap.size, 0, none⟩) 1 [.int .u64 v, .bool false] := ⟨rfl, fun _ => ⟨_, rfl, by simp, fun j x hj => by
  have ea : (⟨W.heap.size, 0, none⟩ : Addr).add j = ⟨W.heap.size, j, none⟩ := by simp [Addr.add]; exact Eq.symm
  rw [ea, (Blk.new W _ _).cell]
  simpa using hj⟩⟩
section
variable {w0 W W' : World} {bd : Bool} {rb tg fa fo rgb n c k : Nat} {rs : List RG} {st st' : IMc} {t t' : IFr} {bl : List IFr} {gl : List Nat} {fb b o : Nat} {r : RG} {p x : Int} {nd : RN}
set_option maxRecDepth 100000 in
set_option maxHeartbeats 1600000 in
theorem raise_any (v : Int) (h : IRunX w0 bd rb tg fa fo n c rs st gl rgb W) (hd : st.doing ≠ 3) (hs : st.panics.length ≤ 1048576) (hmx : st.maxp ≤ 1048577) :
    Calls Try.prog 85 #[.pointer (some ⟨rb, 0, none⟩), .int .u64 v] W fun e w' => e = .returned (.tuple #[]) ∧ IRunX w0 bd rb tg fa fo n c rs (st.raise v) gl rgb w' := by
  obtain ⟨g, ow, hR, hgl, hrg⟩ := h
  obtain ⟨m, hm⟩ : ∃ m, m = st.panics.length := ⟨_, rfl⟩
  obtain ⟨mx, hx⟩ : ∃ m, m = st.maxp := ⟨_, rfl⟩
  have hbz : w0.heap.size ≤ W.heap.size := hR.below.size
  have hrz : rb < W.heap.size := hR.run.blk.lt
  have c5 : W.cell? ⟨rb, 5, none⟩ = some g.pv := hR.run.blk.cell 5
  obtain ⟨pv, hpv⟩ : ∃ pv, pv = g.pv := ⟨_, rfl⟩
  have hOA := hR.pan.own.alloc (.cells #[.int .u64 v, .bool false] 224)
  rw [← hm] at hOA hs
  rw [← hx] at hmx
  rw [← hpv] at c5 hOA
  have HRD := Lib.hid (reads_rai W v)
  have HOA := Lib.hid hOA
  have HPV := Lib.hid hpv
  have HM := Lib.hid hm
  have HX := Lib.hid hx
  have HR := Lib.hid hR
  have HGL := Lib.hid hgl
  have HRG := Lib.hid hrg
  have HD := Lib.hid hd
  have H1 : Hid (∀ u ∈ [Value.int .u64 v, Value.bool false], u.oneCell' = true) := Lib.hid (fun u hu => by simp at hu; rcases hu with rfl | rfl <;> rfl)
  clear hOA hpv hm hx hgl hrg hR hd
  go_enter Try.func85, Try.ntmps85
  go_wp2_with (at_builtin; refine app_rai rfl _ _ rfl w0.heap.size pv m (ipnc st.panics) rfl HOA.out (W.heap.size + 1) (some ⟨W.heap.size, 0, none⟩) 1 1 [.int .u64 v, .bool false] rfl HRD.out H1.out (by omega) (by simp; omega) ?_; intro v8 w8 hown hgr hor; refine Hid.out ?_)
  obtain ⟨A8, c8, rfl⟩ := own_slice hown
  have hOR := HR.out.pan
  rw [← HPV.out, ← HM.out] at hOR
  obtain ⟨hb8, hB8, hO8, hkr⟩ := app_set HR.out.run hOR (by omega) ((Below.refl _ _).alloc (Nat.le_refl _) _) hown hgr hor 5
  have d5 : w8.cell? ⟨rb, 5, none⟩ = some pv := by rw [hb8.cell, HPV.out]; rfl
  have f5 : w8.frozen? ⟨rb, 5, none⟩ = false := hb8.frozen 5
  have e14 : w8.cell? ⟨rb, 14, none⟩ = some (.int .i64 mx) := by rw [hb8.cell, HX.out]; rfl
  have e7 : w8.cell? ⟨rb, 7, none⟩ = some (.int .i64 st.doing) := by rw [hb8.cell]; rfl
  have f14 : w8.frozen? ⟨rb, 14, none⟩ = false := hb8.frozen 14
  have f7 : w8.frozen? ⟨rb, 7, none⟩ = false := hb8.frozen 7
  have HFIN : Hid (∀ y : Int, y = ((max mx (m + 1) : Nat) : Int) → IRunX w0 bd rb tg fa fo n c rs (st.raise v) gl rgb (((w8.setCell ⟨rb, 5, none⟩ (.slice A8 (m + 1) c8)).setCell ⟨rb, 14, none⟩ (.int .i64 y)).setCell ⟨rb, 7, none⟩ (.int .i64 2)).drew) := Lib.hid fun y hy => by
    have hB9 := hB8.set_ 14 (.int .i64 y)
    have hBa := hB9.set_ 7 (.int .i64 2)
    have ka := (Kr.set hB8 14 (.int .i64 y)).trans (Kr.set hB9 7 (.int .i64 2))
    have k := hkr.trans (ka.wider (ex' := e2 6 0) fun x h => .inr h)
    have hR := HR.out
    refine IRunX.on ?_ (Below.refl _ _).drew
    refine ⟨{ g with pv := .slice A8 (m + 1) c8 }, _, hR.part (st' := st.raise v) (g' := { g with pv := .slice A8 (m + 1) c8 }) k (ne2 (by omega) (by omega)) ?_ (hR.frs.kr k (ne2 (by omega) (by omega))) (hR.frames.kr k (ne2 (by omega) (by omega)) fun x h1 h2 => ne2 (by omega) (by omega)) (fun hb => ⟨(hR.regs hb).1.kr k (ne2 (by omega) (by omega)), (hR.regs hb).2⟩) ?_ (hR.tr.kr k (ne2 (by omega) (by omega)) (ne2 (by omega) (by omega)) (ne2 (by omega) (by omega))) (fun _ => hR.res HD.out) (fun h3 => absurd (show (2 : Int) = 3 from h3) (by omega)), HGL.out, HRG.out⟩
    · subst hy
      rw [HX.out, HM.out] at hBa
      rw [HX.out, HM.out]
      exact hBa
    · have h9 := hO8.kr ka (ne1 (by omega))
      have e1 : (st.raise v).panics.length = m + 1 := by rw [HM.out]; rfl
      have e2 : ipnc (st.raise v).panics = ipnc st.panics ++ [.int .u64 v, .bool false] := by
        show ipnc ((v, false) :: st.panics) = _
        simp [ipnc]
      rw [e1, e2]
      exact h9
  refine Lib.hid ?_
  clear hown hgr hor hOR hb8 hB8 hO8 hkr
  go_wp2
  go_region
  go_wp2
  all_goals
    go_end0
    refine ⟨rfl, HFIN.out _ ?_⟩
    omega
end
end Go.Proofs.Ytlnccpojldiogaa

/-
  Package irun: undefer, where nothing is deferred.
-/
namespace Go.Proofs.Ytlnccpojldiogaa
set_option linter.unusedVariables false
set_option linter.unusedSimpArgs false
open Go.ChangeShapes Go.WideShapes Go.ChangeAt Go.RowKit

section
variable {w0 W W' : World} {bd : Bool} {rb tg fa fo rgb n c k : Nat} {rs : List RG} {st st' : IMc} {t t' : IFr} {bl : List IFr} {gl : List Nat} {fb b o : Nat} {r : RG} {p x : Int} {nd : RN}
set_option maxRecDepth 100000 in
set_option maxHeartbeats 1600000 in
theorem undefer_none (h : IRunX w0 bd rb tg fa fo n c rs st (fb :: gl) rgb W) (hf : st.frames = t :: bl) (hd : t.defs = []) :
    Calls Try.prog 89 #[.pointer (some ⟨rb, 0, none⟩), .pointer (some ⟨fb, 0, none⟩)] W fun e w' => e = .returned (.tuple #[.agg #[.int .i64 0, .slice none 0 0], .bool false]) ∧ IRunX w0 bd rb tg fa fo n c rs st (fb :: gl) rgb w' := by
  obtain ⟨g, ow, fg, gs, hR, hg, rfl, hgl, hpb, hF⟩ := h.open_ hf
  obtain ⟨A, cd, hdv⟩ := hF.dfr.slice
  have hl0 : t.defs.length = 0 := by rw [hd]; rfl
  have c4 : W.cell? ⟨fg.fb, 5, none⟩ = some (.slice A 0 cd) := by
    have h0 := hdv
    rw [hl0] at h0
    rw [hF.blk.blk.cell, ifrC_5, h0]
  have hfz := hF.blk.blk.lt
  have HFIN : Hid (∀ W', Below W.heap.size W W' → IRunX w0 bd rb tg fa fo n c rs st (fg.fb :: gl) rgb W') := Lib.hid fun W' hb => h.on hb
  have HB1 : Hid (Below W.heap.size W (W.alloc (.cells #[.int .i64 0, .slice none 0 0] 98))) := Lib.hid ((Below.refl _ _).alloc (Nat.le_refl _) _)
  have HX1 := Lib.hid (Blk.new W 98 #[.int .i64 0, .slice none 0 0])
  obtain ⟨q, hq⟩ : ∃ q, q = fg.fb := ⟨_, rfl⟩
  rw [← hq] at c4 hfz HFIN ⊢
  clear h hR hF hf hg hgl hpb hdv hd hq hl0
  go_enter Try.func89, Try.ntmps89
  go_wp2
  have r0 := HX1.out.cell 0
  have r1 := HX1.out.cell 1
  exact bodyPost_ret (v := .tuple #[.agg #[.int .i64 0, .slice none 0 0], .bool false]) (by simp [results, Try.results89, go_sem, r0, r1]) rfl ⟨rfl, HFIN.out _ HB1.out⟩
end
end Go.Proofs.Ytlnccpojldiogaa

/-
  Package irun: resume, read free.
-/
namespace Go.Proofs.Ytlnccpojldiogaa
set_option linter.unusedVariables false
set_option linter.unusedSimpArgs false
open Go.ChangeShapes Go.WideShapes Go.ChangeAt Go.RowKit

section
variable {w0 W W' : World} {bd : Bool} {rb tg fa fo rgb n c k : Nat} {rs : List RG} {st st' : IMc} {t t' : IFr} {bl : List IFr} {gl : List Nat} {fb b o : Nat} {r : RG} {p x : Int} {nd : RN}
set_option maxRecDepth 100000 in
set_option maxHeartbeats 1600000 in
theorem resume_none (eb : Nat) (h : IRunX w0 false rb tg fa fo n c rs st (fb :: gl) rgb W) (hf : st.frames = t :: bl) (ha : t.answer = -1) :
    Calls Try.prog 206 #[.pointer (some ⟨fb, 0, none⟩), .pointer (some ⟨eb, 0, none⟩)] W fun e w' => e = .returned (.tuple #[]) ∧ IRunX w0 false rb tg fa fo n c rs st (fb :: gl) rgb w' := by
  obtain ⟨hz, c7, _, _⟩ := h.ans_ hf 0
  rw [ha] at c7
  have HX := Lib.hid h
  clear h hf ha
  go_enter Try.func206, Try.ntmps206
  go_wp2
  go_end0
  exact ⟨rfl, HX.out⟩
set_option maxRecDepth 100000 in
set_option maxHeartbeats 3200000 in
theorem resume_some (eb : Nat) (v : Int) (h : IRunX w0 false rb tg fa fo n c rs st (fb :: gl) rgb W) (hf : st.frames = t :: bl) (hr : rs[t.f]? = some r) (pa : PlOk r t.answer) (he : W.cell? ⟨eb, 6, none⟩ = some (.int .u64 v)) (hez : eb < W.heap.size) :
    Calls Try.prog 206 #[.pointer (some ⟨fb, 0, none⟩), .pointer (some ⟨eb, 0, none⟩)] W fun e w' => e = .returned (.tuple #[]) ∧ IRunX w0 false rb tg fa fo n c rs (st.put (grs rs) false t bl t.answer v) (fb :: gl) rgb w' := by
  obtain ⟨hz, c7, _, _⟩ := h.ans_ hf 0
  have p0 := pa.1
  obtain ⟨y, hy⟩ : ∃ y, y = t.answer := ⟨_, rfl⟩
  have HP := Lib.hid (put_any (x := v) (h.on (Below.refl _ _).drew) hf hr pa)
  have HP0 := Lib.hid (put_any (x := v) h hf hr pa)
  rw [← hy] at c7 HP HP0 p0 ⊢
  have gy : (y == -1) = false := by simp; omega
  have gy2 : ¬ y = -1 := by omega
  clear h hf hr pa hy p0
  simp only [putF, Bool.false_eq_true, if_false] at HP HP0
  go_enter Try.func206, Try.ntmps206
  go_wp2_with (first
    | (go_at_call 205; with_reducible refine HP0.out.mono ?_; rintro e w4 ⟨rfl, h4⟩; have H4 := Lib.hid h4; clear h4))
  go_region_law (first
    | (go_simp; go_at_call 205; with_reducible refine HP.out.mono ?_; rintro e w4 ⟨rfl, h4⟩; have H4 := Lib.hid h4; clear h4))
  go_wp2
  all_goals
    first
      | go_end0
      | refine bodyPost_ret (v := .tuple #[]) (by simp [results, Try.results206]) rfl ?_
    exact ⟨rfl, H4.out⟩
end
end Go.Proofs.Ytlnccpojldiogaa
