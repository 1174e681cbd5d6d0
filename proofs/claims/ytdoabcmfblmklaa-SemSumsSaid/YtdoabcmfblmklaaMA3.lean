/-
  Texts of one seat, one behind the other: SFact, SUndef, SUnd2, SBegin, SBeg2, SCatch, SActv, SRem, SDel, STrac, SEnd, SEnded.
-/
import Derived.Deep.RegionLaw
import Derived.Lib.SliceRun
import Derived.Test.YtdoabcmfblmklaaMA2

/-
  What is read of a run in memory, and what turning one number of it leaves.
-/
namespace Go.Proofs.Ytdoabcmfblmklaa
set_option linter.unusedVariables false
set_option linter.unusedSimpArgs false
open Go.ChangeShapes Go.WideShapes Go.ChangeAt Go.RowKit

section
variable {w0 W W' w8 W1 : World} {ow ow' : Nat → Nat} {ex : Nat → Prop} {rb tg fa fo n c k : Nat} {rs : List Raw} {st st' : Mc} {g g' : RG} {t : Fr} {bl : List Fr} {gl : List (Nat × Nat)} {pbs : List Nat} {fb b : Nat}
theorem FrAt.num {base : Nat} {fg : FG} {t' : Fr} (h : FrAt W ow base fa fo k t fg) (kr : Kr (e1 (3 * k + 11)) ow ow' W W') (hb : OB W' ow' base (3 * k + 11) fg.fb (frT t'.why) (frC fa fo t' fg)) (h1 : t'.stack = t.stack) (h2 : t'.defs = t.defs) : FrAt W' ow' base fa fo k t' fg :=
  ⟨hb, by rw [h1]; exact h.stk.kr kr (ne1 (by omega)), by rw [h2]; exact h.dfr.kr kr (ne1 (by omega)), fun j d hd => by
    rw [h2] at hd
    obtain ⟨v, e1, e2⟩ := h.args j d hd
    exact ⟨v, e1, e2.kr kr (ne1 (by omega))⟩, by rw [h2]; exact h.lds⟩
/-- the last frame's cells -/
theorem RunX.top (h : RunX w0 rb tg fa fo n c rs st ((fb, b) :: gl) pbs W) (hf : st.frames = t :: bl) :
    fb < W.heap.size ∧ rb < W.heap.size ∧ W.cell? ⟨fb, 0, none⟩ = some (.pointer (some ⟨fa, fo + t.f * 5, none⟩)) ∧ W.cell? ⟨fb, 1, none⟩ = some (.int .i64 t.next) ∧ W.cell? ⟨fb, 2, none⟩ = some (.int .i64 t.base) ∧ W.cell? ⟨fb, 5, none⟩ = some (.int .u64 t.number) ∧ W.frozen? ⟨fb, 1, none⟩ = false ∧ W.frozen? ⟨fb, 5, none⟩ = false := by
  obtain ⟨g, ow, fg, gs, hR, hg, rfl, rfl, hgl, hpb, hF⟩ := h.open_ hf
  exact ⟨hF.blk.blk.lt, hR.run.blk.lt, by rw [hF.blk.blk.cell]; exact frC_0, by rw [hF.blk.blk.cell]; exact frC_1, by rw [hF.blk.blk.cell]; exact frC_2, by rw [hF.blk.blk.cell]; exact frC_5, hF.blk.blk.frozen 1, hF.blk.blk.frozen 5⟩
/-- .. the run's -/
theorem RunX.cells (h : RunX w0 rb tg fa fo n c rs st gl pbs W) :
    rb < W.heap.size ∧ W.cell? ⟨rb, 0, none⟩ = some (.slice (some ⟨fa, fo, none⟩) n c) ∧ W.cell? ⟨rb, 1, none⟩ = some (.pointer (some ⟨tg, 0, none⟩)) ∧ W.cell? ⟨rb, 5, none⟩ = some (.int .i64 st.waiting) ∧ W.cell? ⟨rb, 6, none⟩ = some (.int .i64 st.doing) ∧ W.cell? ⟨rb, 10, none⟩ = some (.int .i64 st.steps) ∧ W.cell? ⟨rb, 12, none⟩ = some (.int .i64 st.defers) ∧ (∀ i, W.frozen? ⟨rb, i, none⟩ = false) := by
  obtain ⟨g, ow, hR, _, _⟩ := h
  exact ⟨hR.run.blk.lt, hR.run.blk.cell 0, hR.run.blk.cell 1, hR.run.blk.cell 5, hR.run.blk.cell 6, hR.run.blk.cell 10, hR.run.blk.cell 12, fun i => hR.run.blk.frozen i⟩
/-- a function's cells -/
theorem RunX.fn_ {r : Raw} (h : RunX w0 rb tg fa fo n c rs st gl pbs W) (hr : rs[k]? = some r) :
    fa < W.heap.size ∧ k < n ∧ W.cell? ⟨fa, fo + k * 5, none⟩ = some (.int .i64 r.fn.params) ∧ W.cell? ⟨fa, fo + k * 5 + 2, none⟩ = some (.bool r.fn.result) ∧ W.cell? ⟨fa, fo + k * 5 + 3, none⟩ = some (.int .i64 r.fn.keep) ∧ W.cell? ⟨fa, fo + k * 5 + 4, none⟩ = some (.slice r.co r.fn.code.length r.cc) ∧ Reads W w0.heap.size 3 r.co r.fn.code.length (insc r.fn.code) ∧ w0.heap.size ≤ W.heap.size := by
  obtain ⟨g, ow, hR, _, _⟩ := h
  have hk : k < n := by rw [← hR.prog.len]; exact (List.getElem?_eq_some_iff.1 hr).1
  obtain ⟨b0, off0, r', hA0, hb0, HX, HRF, HWF, x0, x1, x2, x3, x4⟩ := hR.prog.fn hk
  have hrr : r' = r := by have h := HX.out; rw [hr] at h; injection h with h; exact h.symm
  subst hrr
  obtain ⟨rfl, rfl⟩ : fa = b0 ∧ fo = off0 := by injection hA0 with hA0; injection hA0 with h1 h2; exact ⟨h1, h2⟩
  have := hR.below.size
  exact ⟨by omega, hk, x0, x2, x3, x4, HRF.out.code, this⟩
/-- the last frame's next instruction is turned -/
theorem RunX.setNext (h : RunX w0 rb tg fa fo n c rs st ((fb, b) :: gl) pbs W) (hf : st.frames = t :: bl) (x : Int) : RunX w0 rb tg fa fo n c rs (st.top { t with next := x } bl) ((fb, b) :: gl) pbs (W.setCell ⟨fb, 1, none⟩ (.int .i64 x)) := by
  obtain ⟨g, ow, fg, gs, hR, hg, rfl, rfl, hgl, hpb, hF⟩ := h.open_ hf
  have hB := hF.blk.set_ 1 (.int .i64 x)
  have kr := Kr.set hF.blk 1 (.int .i64 x)
  rw [frC_s1] at hB
  exact RunX.close_ (hR.top_ hf hg kr (fun y hy => by have : y = _ := hy; omega) (hF.num kr hB rfl rfl) rfl rfl) rfl rfl hgl hpb
/-- .. its number -/
theorem RunX.setNumber (h : RunX w0 rb tg fa fo n c rs st ((fb, b) :: gl) pbs W) (hf : st.frames = t :: bl) (x : Int) : RunX w0 rb tg fa fo n c rs (st.top { t with number := x } bl) ((fb, b) :: gl) pbs (W.setCell ⟨fb, 5, none⟩ (.int .u64 x)) := by
  obtain ⟨g, ow, fg, gs, hR, hg, rfl, rfl, hgl, hpb, hF⟩ := h.open_ hf
  have hB := hF.blk.set_ 5 (.int .u64 x)
  have kr := Kr.set hF.blk 5 (.int .u64 x)
  rw [frC_s5] at hB
  exact RunX.close_ (hR.top_ hf hg kr (fun y hy => by have : y = _ := hy; omega) (hF.num kr hB rfl rfl) rfl rfl) rfl rfl hgl hpb
/-- what is done is turned -/
theorem RunX.setDoing (h : RunX w0 rb tg fa fo n c rs st gl pbs W) (x : Int) (hd : st.doing ≠ 3) (hx : x ≠ 3) : RunX w0 rb tg fa fo n c rs { st with doing := x } gl pbs (W.setCell ⟨rb, 6, none⟩ (.int .i64 x)) := by
  obtain ⟨g, ow, hR, h1, h2⟩ := h
  exact ⟨g, ow, hR.num (st' := { st with doing := x }) (Kr.set hR.run 6 _) (hR.run.set_ 6 (.int .i64 x)) rfl rfl rfl rfl rfl hd hx, h1, h2⟩
theorem RunX.setSteps (h : RunX w0 rb tg fa fo n c rs st gl pbs W) (x : Nat) (hd : st.doing ≠ 3) : RunX w0 rb tg fa fo n c rs { st with steps := x } gl pbs (W.setCell ⟨rb, 10, none⟩ (.int .i64 x)) := by
  obtain ⟨g, ow, hR, h1, h2⟩ := h
  exact ⟨g, ow, hR.num (st' := { st with steps := x }) (Kr.set hR.run 10 _) (hR.run.set_ 10 (.int .i64 x)) rfl rfl rfl rfl rfl hd hd, h1, h2⟩
theorem RunX.setWaiting (h : RunX w0 rb tg fa fo n c rs st gl pbs W) (x : Nat) (hd : st.doing ≠ 3) : RunX w0 rb tg fa fo n c rs { st with waiting := x } gl pbs (W.setCell ⟨rb, 5, none⟩ (.int .i64 x)) := by
  obtain ⟨g, ow, hR, h1, h2⟩ := h
  exact ⟨g, ow, hR.num (st' := { st with waiting := x }) (Kr.set hR.run 5 _) (hR.run.set_ 5 (.int .i64 x)) rfl rfl rfl rfl rfl hd hd, h1, h2⟩
theorem RunX.setDefers (h : RunX w0 rb tg fa fo n c rs st gl pbs W) (x : Nat) (hd : st.doing ≠ 3) : RunX w0 rb tg fa fo n c rs { st with defers := x } gl pbs (W.setCell ⟨rb, 12, none⟩ (.int .i64 x)) := by
  obtain ⟨g, ow, hR, h1, h2⟩ := h
  exact ⟨g, ow, hR.num (st' := { st with defers := x }) (Kr.set hR.run 12 _) (hR.run.set_ 12 (.int .i64 x)) rfl rfl rfl rfl rfl hd hd, h1, h2⟩
/-- a word of the memory, read and turned -/
theorem RunX.memAt {j : Nat} {v : Int} (h : RunX w0 rb tg fa fo n c rs st gl pbs W) (hv : st.mem[j]? = some v) :
    ∃ q cm, W.cell? ⟨rb, 3, none⟩ = some (.slice (some ⟨q, 0, none⟩) st.mem.length cm) ∧ W.cell? ⟨q, j, none⟩ = some (.int .u64 v) ∧ W.frozen? ⟨q, j, none⟩ = false ∧ q < W.heap.size ∧ rb < W.heap.size ∧ j < st.mem.length ∧ (∀ x : Int, st.doing ≠ 3 → RunX w0 rb tg fa fo n c rs { st with mem := st.mem.set j x } gl pbs (W.setCell ⟨q, j, none⟩ (.int .u64 x))) := by
  obtain ⟨g, ow, hR, h1, h2⟩ := h
  obtain ⟨q, cm, e1, e2, e3, e4, e5⟩ := hR.mem.at_ hv
  have hj := (List.getElem?_eq_some_iff.1 hv).1
  refine ⟨q, cm, ?_, e4, e5, e3, hR.run.blk.lt, hj, fun x hd => ?_⟩
  · rw [hR.run.blk.cell, ← e1]; rfl
  · have hM := hR.mem
    rw [e1] at hM
    obtain ⟨p1, p2⟩ := hM.put hj x
    have hlow := hR.low (st' := { st with mem := st.mem.set j x }) (g' := { g with mv := .slice (some ⟨q, 0, none⟩) st.mem.length cm }) p2 (fun y hy => by have : y = 5 := hy; omega) (by have h0 := hR.run.kr p2 (ne1 (by omega)); rw [show g = { g with mv := .slice (some ⟨q, 0, none⟩) st.mem.length cm } by rw [← e1]] at h0; exact h0) (hR.frs.kr p2 (ne1 (by omega))) (hR.frames.kr p2 (ne1 (by omega)) fun j hj => ⟨ne1 (by omega), ne1 (by omega), ne1 (by omega)⟩) (by show OR _ _ _ _ _ _ _ (st.mem.set j x).length _; rw [List.length_set]; exact p1) (hR.pan.kr p2 (ne1 (by omega))) (hR.pans.kr p2 (ne1 (by omega))) hR.nodup rfl rfl hd hd rfl rfl rfl
    exact ⟨_, ow, hlow, h1, h2⟩
end
end Go.Proofs.Ytdoabcmfblmklaa

/-
  Package sem: undefer: the last deferred call is taken from its frame.
-/
namespace Go.Proofs.Ytdoabcmfblmklaa
set_option linter.unusedVariables false
set_option linter.unusedSimpArgs false
open Go.ChangeShapes Go.WideShapes Go.ChangeAt Go.RowKit

section
variable {w0 W W' w8 W1 : World} {ow ow' : Nat → Nat} {ex : Nat → Prop} {base rb tg fa fo n c k : Nat} {rs : List Raw} {st st' : Mc} {g g' : RG} {t : Fr} {bl : List Fr} {gl : List (Nat × Nat)} {pbs : List Nat} {fb b : Nat}
theorem length_dfc : ∀ (ds : List Df) (vs : List Value), vs.length = ds.length → (dfc ds vs).length = ds.length * 2
  | [], [], _ => rfl
  | [], _ :: _, h => by cases h
  | _ :: _, [], h => by cases h
  | d :: ds, v :: vs, h => by
    have := length_dfc ds vs (by simpa using h)
    simp only [dfc, List.length_append, List.length_cons, List.length_nil, this]
    omega
theorem FrAt.dfrCut {fg : FG} {v u : Value} {d : Df} {ds : List Df} {vs : List Value} (h : FrAt W ow base fa fo k t fg) (hd : t.defs = d :: ds) (hg : fg.ds = u :: vs) (kr : Kr (e1 (3 * k + 11)) ow ow' W W') (h1 : OB W' ow' base (3 * k + 11) fg.fb (frT t.why) ((frC fa fo t fg).setIfInBounds 4 v)) (h2 : OR W' ow' base (3 * k + 13) 118 2 v ds.length (dfc ds vs)) :
    FrAt W' ow' base fa fo k { t with defs := ds } { fg with dv := v, ds := vs } := by
  refine ⟨by rw [frC_s4 v ds vs] at h1; exact h1, h.stk.kr kr (ne1 (by omega)), h2, fun j d' hj => ?_, ?_⟩
  · obtain ⟨v', e1, e2⟩ := h.args (j + 1) d' (by rw [hd]; simpa using hj)
    rw [hg] at e1
    exact ⟨v', by simpa using e1, e2.kr kr (ne1 (by omega))⟩
  · have := h.lds
    rw [hd, hg] at this
    simpa using this

set_option maxRecDepth 100000 in
set_option maxHeartbeats 1600000 in
theorem undefer_none (h : RunX w0 rb tg fa fo n c rs st ((fb, b) :: gl) pbs W) (hf : st.frames = t :: bl) (hd : t.defs = []) :
    Calls Try.prog 49 #[.pointer (some ⟨rb, 0, none⟩), .pointer (some ⟨fb, 0, none⟩)] W fun e w' => e = .returned (.tuple #[.agg #[.int .i64 0, .slice none 0 0], .bool false]) ∧ RunX w0 rb tg fa fo n c rs st ((fb, b) :: gl) pbs w' := by
  obtain ⟨g, ow, fg, gs, hR, hg, rfl, rfl, hgl, hpb, hF⟩ := h.open_ hf
  obtain ⟨A, cd, hdv⟩ := hF.dfr.slice
  have hl0 : t.defs.length = 0 := by rw [hd]; rfl
  have c4 : W.cell? ⟨fg.fb, 4, none⟩ = some (.slice A 0 cd) := by
    have h0 := hdv
    rw [hl0] at h0
    rw [hF.blk.blk.cell, frC_4, h0]
  have hfz := hF.blk.blk.lt
  have HFIN : Hid (∀ W', Below W.heap.size W W' → RunX w0 rb tg fa fo n c rs st ((fg.fb, fg.by_) :: gl) pbs W') := Lib.hid fun W' hb => h.on hb
  have HB1 : Hid (Below W.heap.size W (W.alloc (.cells #[.int .i64 0, .slice none 0 0] 118))) := Lib.hid ((Below.refl _ _).alloc (Nat.le_refl _) _)
  have HX1 := Lib.hid (Blk.new W 118 #[.int .i64 0, .slice none 0 0])
  obtain ⟨q, hq⟩ : ∃ q, q = fg.fb := ⟨_, rfl⟩
  rw [← hq] at c4 hfz HFIN ⊢
  clear h hR hF hf hg hgl hpb hdv hd hq hl0
  go_enter Try.func49, Try.ntmps49
  go_wp2
  have r0 := HX1.out.cell 0
  have r1 := HX1.out.cell 1
  exact bodyPost_ret (v := .tuple #[.agg #[.int .i64 0, .slice none 0 0], .bool false]) (by simp [results, Try.results49, go_sem, r0, r1]) rfl ⟨rfl, HFIN.out _ HB1.out⟩
end
end Go.Proofs.Ytdoabcmfblmklaa

/-
  Package sem: undefer: the last deferred call is taken from its frame.
-/
namespace Go.Proofs.Ytdoabcmfblmklaa
set_option linter.unusedVariables false
set_option linter.unusedSimpArgs false
open Go.ChangeShapes Go.WideShapes Go.ChangeAt Go.RowKit

section
variable {w0 W W' w8 W1 : World} {ow ow' : Nat → Nat} {ex : Nat → Prop} {base rb tg fa fo n c k : Nat} {rs : List Raw} {st st' : Mc} {g g' : RG} {t : Fr} {bl : List Fr} {gl : List (Nat × Nat)} {pbs : List Nat} {fb b : Nat} {d : Df} {ds : List Df}
theorem dfc_last (d : Df) (ds : List Df) (v : Value) (vs : List Value) (h : vs.length = ds.length) : (dfc (d :: ds) (v :: vs))[ds.length * 2]? = some (.int .i64 d.fn) ∧ (dfc (d :: ds) (v :: vs))[ds.length * 2 + 1]? = some v ∧ (dfc (d :: ds) (v :: vs)).take (ds.length * 2) = dfc ds vs := by
  have hl := length_dfc ds vs h
  have hu : dfc (d :: ds) (v :: vs) = dfc ds vs ++ [.int .i64 d.fn, v] := rfl
  rw [hu]
  refine ⟨?_, ?_, ?_⟩
  · rw [List.getElem?_append_right (by omega)]; simp [hl]
  · rw [List.getElem?_append_right (by omega), hl]; simp
  · rw [← hl]; simp

theorem OR.cells_ {base r q k m c size : Nat} {e : TypeId} {xs : List Value} {u : Value} (h : OR W ow base r e size (.slice (some ⟨q, 0, none⟩) m c) m xs) (hx : xs[k]? = some u) : q < W.heap.size ∧ W.cell? ⟨q, k, none⟩ = some u ∧ W.frozen? ⟨q, k, none⟩ = false ∧ m ≤ c ∧ base ≤ q := by
  have hk : k < m * size := by
    have h1 := h.own.1
    have := (List.getElem?_eq_some_iff.1 hx).1
    omega
  rcases h.own.2 with ⟨he, _⟩ | ⟨q', cap, cur, he, hb, hh, hnc, hcm, hcs, hxs⟩
  · cases he
  · injection he with h1 h2 h3
    injection h1 with h1
    injection h1 with h1
    subst h1 h3
    have hbk : Blk W q e cur := hh
    refine ⟨hbk.lt, ?_, hbk.frozen k, hnc, hb⟩
    rw [hbk.cell]
    have h2 : (cur.toList.take (m * size))[k]? = some u := by rw [hxs]; exact hx
    rw [List.getElem?_take, if_pos hk] at h2
    rw [← Array.getElem?_toList]
    exact h2

set_option maxRecDepth 100000 in
set_option maxHeartbeats 1600000 in
theorem undefer_some (h : RunX w0 rb tg fa fo n c rs st ((fb, b) :: gl) pbs W) (hf : st.frames = t :: bl) (hd : t.defs = d :: ds) (hdo : st.doing ≠ 3) (hs : ds.length ≤ 1048576) (hw0 : 0 < st.waiting) (hw : st.waiting ≤ 1048577) (hfn : d.fn ≤ 1048577) :
    Calls Try.prog 49 #[.pointer (some ⟨rb, 0, none⟩), .pointer (some ⟨fb, 0, none⟩)] W fun e w' => ∃ AA cA, e = .returned (.tuple #[.agg #[.int .i64 d.fn, .slice AA d.args.length cA], .bool true]) ∧ d.args.length ≤ cA ∧ (AA = none → d.args.length = 0) ∧ RunA w0 rb tg fa fo n c rs { st.top { t with defs := ds } bl with waiting := st.waiting - 1 } ((fb, b) :: gl) pbs AA d.args.length d.args w' := by
  obtain ⟨g, ow, fg, gs, hR, hg, rfl, rfl, hgl, hpb, hF⟩ := h.open_ hf
  obtain ⟨v, vs, hvs⟩ : ∃ v vs, fg.ds = v :: vs := by
    have := hF.lds
    rw [hd] at this
    cases hx : fg.ds with
    | nil => rw [hx] at this; cases this
    | cons v vs => exact ⟨v, vs, rfl⟩
  have hlv : vs.length = ds.length := by have := hF.lds; rw [hd, hvs] at this; simpa using this
  obtain ⟨l0, l1, l2⟩ := dfc_last d ds v vs hlv
  obtain ⟨m, hm⟩ : ∃ m, m = ds.length := ⟨_, rfl⟩
  have hml : t.defs.length = m + 1 := by rw [hd, hm]; rfl
  have hD := hF.dfr
  rw [hml, hd, hvs] at hD
  rw [← hm] at l0 l1 l2 hs
  obtain ⟨A, cd, hdv⟩ := hD.form (by omega)
  rw [hdv] at hD
  obtain ⟨hAz, c40, _, hmc, _⟩ := hD.cells_ l0
  obtain ⟨_, c41, _, _, _⟩ := hD.cells_ l1
  obtain ⟨v', e1, hV⟩ := hF.args 0 d (by rw [hd]; rfl)
  rw [hvs] at e1
  obtain rfl : v = v' := by simpa using e1
  obtain ⟨AA, cA, hv⟩ := hV.slice
  subst hv
  obtain ⟨p, hp⟩ : ∃ p, p = d.args.length := ⟨_, rfl⟩
  rw [← hp] at hV c41 ⊢
  have hpc : p ≤ cA := own_cap hV.own
  have hpz : AA = none → p = 0 := fun hA => by
    rcases hV.own.2 with ⟨he, h0⟩ | ⟨q', cap, cur, he, _⟩
    · exact h0
    · injection he with h1; rw [hA] at h1; cases h1
  obtain ⟨q, hq⟩ : ∃ q, q = fg.fb := ⟨_, rfl⟩
  have hqz : q < W.heap.size := by rw [hq]; exact hF.blk.blk.lt
  have c4 : W.cell? ⟨q, 4, none⟩ = some (.slice (some ⟨A, 0, none⟩) (m + 1) cd) := by rw [hq, hF.blk.blk.cell, frC_4, hdv]
  have f4 : W.frozen? ⟨q, 4, none⟩ = false := by rw [hq]; exact hF.blk.blk.frozen 4
  have hrz : rb < W.heap.size := hR.run.blk.lt
  have c5 : W.cell? ⟨rb, 5, none⟩ = some (.int .i64 st.waiting) := hR.run.blk.cell 5
  have f5 : W.frozen? ⟨rb, 5, none⟩ = false := hR.run.blk.frozen 5
  have hqr : q ≠ rb := by
    intro he
    have h1 := hF.blk.role
    have h2 := hR.run.role
    rw [← hq, he, h2] at h1
    omega
  obtain ⟨y, hy⟩ : ∃ y, y = st.waiting := ⟨_, rfl⟩
  rw [← hy] at hw0 hw c5
  obtain ⟨kf, hkf⟩ : ∃ y, y = d.fn := ⟨_, rfl⟩
  rw [← hkf] at c40 hfn ⊢
  have hsub : ((m + 1 : Nat) : Int) - 1 = (m : Int) := by omega
  have hsuw : (y : Int) - 1 = ((y - 1 : Nat) : Int) := by omega
  rw [← hq, ← hy]
  have HFIN0 : Hid (RunA w0 rb tg fa fo n c rs { st.top { t with defs := ds } bl with waiting := y - 1 } ((q, fg.by_) :: gl) pbs AA p d.args ((W.setCell ⟨q, 4, none⟩ (.slice (some ⟨A, 0, none⟩) m cd)).setCell ⟨rb, 5, none⟩ (.int .i64 ((y - 1 : Nat) : Int)))) := Lib.hid (by
    obtain ⟨hB8, hO8, hkr⟩ := cut_set (k := m) hF.blk hD (by omega) (by omega) 4
    rw [l2] at hO8
    have hF8 := hF.dfrCut (v := .slice (some ⟨A, 0, none⟩) m cd) hd hvs hkr hB8 (by rw [← hm]; exact hO8)
    have hR8 := hR.top_ hf hg hkr (fun x hx => by have : x = _ := hx; omega) hF8 rfl rfl
    have hR9 := hR8.num (st' := { st.top { t with defs := ds } bl with waiting := y - 1 }) (Kr.set hR8.run 5 (.int .i64 ((y - 1 : Nat) : Int))) (by exact hR8.run.set_ 5 _) rfl rfl rfl rfl rfl hdo hdo
    have hV8 := (hV.kr hkr (ne1 (by omega))).kr (Kr.set hR8.run 5 (.int .i64 ((y - 1 : Nat) : Int))) (ne1 (by omega))
    rw [hq]
    refine ⟨_, ow, hR9, by simp [hgl], hpb, (Reads.of_own hV8.own).more (Nat.le_refl _), fun ad had => ?_⟩
    have h8 := hV8.role ad.block (by rw [had]; rfl)
    rw [h8]
    omega)
  have HB0 : ∀ W' : World, ∀ o o', Below W'.heap.size W' ((W'.alloc o).alloc o') := fun W' o o' => ((Below.refl _ _).alloc (Nat.le_refl _) o).alloc ((Below.refl _ _).alloc (Nat.le_refl _) o).size o'
  have HFIN := Lib.hid fun o o' => HFIN0.out.on (HB0 _ o o')
  clear h hR hF hf hg hgl hpb hdv hd hq hD l0 l1 l2 hm hml hlv hvs hV e1 hy hkf hp HFIN0 HB0
  go_enter Try.func49, Try.ntmps49
  go_wp2
  exact bodyPost_ret (v := .tuple #[.agg #[.int .i64 kf, .slice AA p cA], .bool true]) (by simp [results, Try.results49, go_sem]) rfl ⟨AA, cA, rfl, hpc, hpz, HFIN.out _ _⟩
end
end Go.Proofs.Ytdoabcmfblmklaa

/-
  Package sem: begin: a frame becomes the last one.
-/
namespace Go.Proofs.Ytdoabcmfblmklaa
set_option linter.unusedVariables false
set_option linter.unusedSimpArgs false
open Go.ChangeShapes Go.WideShapes Go.ChangeAt Go.RowKit

theorem info_frm : (Try.prog.info? 89).map (fun i => (i.zero, i.size, i.bytes)) = some (some .nilIface, 1, 16) := by kernel_rfl
theorem app_frm {w : World} {ops : Array Oper} {rest : List Oper} {o : Oper} {a : Act} {Q : Exit → Act → World → Prop} (hgd : o.guard = none) (s x : Operand)
    (ho : o.op = .call { callee := .builtin .append, args := #[s, x], argTypes := #[64, 64] }) (base : Nat)
    (v : Value) (n : Nat) (xs : List Value) (hs : a.eval s = v) (hown : w.ownsRow base 89 1 v n xs)
    (B : Nat) (A : Option Addr) (m c : Nat) (news : List Value) (hx : a.eval x = .slice A m c) (hr : Reads w B 1 A m news) (h1 : ∀ u ∈ news, u.oneCell' = true)
    (hbytes : (n + m) * 16 ≤ 140737488355328) (hbase : base ≤ w.heap.size)
    (h : ∀ v' w', w'.ownsRow base 89 1 v' (n + m) (xs ++ news) → w.grownBy w' v.ownBlock → (v'.ownBlock = v.ownBlock ∨ v'.ownBlock = some w.heap.size) → wpList Try.prog ops Q rest (a.put o.dst v') w') : wpList Try.prog ops Q (o :: rest) a w := by
  obtain ⟨i0, hi, hz0, hz1, hz2⟩ := info_parts info_frm
  exact wpList_append_any w hgd s x _ ho base 89 i0 .nilIface 1 16 Try.underlying64 hi hz0 hz1 hz2 rfl (by decide) v n xs hs hown B A m c news hx hr h1 (by unfold maxLen; omega) hbytes hbase h
theorem frVs_cons {t : Fr} {bl : List Fr} {fg : FG} {gs : List FG} : frVs (t :: bl) (fg :: gs) = frVs bl gs ++ [frV t.why fg.fb] := by
  unfold frVs; simp
section
variable {w0 W W' w8 W1 : World} {ow ow' : Nat → Nat} {ex : Nat → Prop} {rb tg fa fo n c : Nat} {rs : List Raw} {st st' : Mc} {g g' : RG} {t : Fr} {bl : List Fr} {gl : List (Nat × Nat)} {pbs : List Nat} {fb b : Nat}

set_option maxRecDepth 100000 in
set_option maxHeartbeats 1600000 in
theorem begin_any (t : Fr) (y : Nat) (cs : Array Value) (h : RunX w0 rb tg fa fo n c rs st gl pbs W) (hd : st.doing ≠ 3) (hcs : cs = frC fa fo t ⟨W.heap.size, .slice none 0 0, .slice none 0 0, y, []⟩) (hst : t.stack = []) (hdf : t.defs = []) (hs : st.frames.length ≤ 1048577) (hmx : st.depth ≤ 1048577) :
    Calls Try.prog 14 #[.pointer (some ⟨rb, 0, none⟩), .iface (frP t.why) (.pointer (some ⟨W.heap.size, 0, none⟩))] (W.alloc (.cells cs (frT t.why))) fun e w' => e = .returned (.tuple #[]) ∧ RunX w0 rb tg fa fo n c rs { st with frames := t :: st.frames, depth := max st.depth (st.frames.length + 1), doing := 0 } ((W.heap.size, y) :: gl) pbs w' := by
  obtain ⟨g, ow, hR, hgl, rfl⟩ := h
  obtain ⟨m, hm⟩ : ∃ m, m = st.frames.length := ⟨_, rfl⟩
  obtain ⟨mx, hx⟩ : ∃ m, m = st.depth := ⟨_, rfl⟩
  have hbz : w0.heap.size ≤ W.heap.size := hR.below.size
  have hrz : rb < W.heap.size := hR.run.blk.lt
  have hR1 := hR.new (W' := W.alloc (.cells cs (frT t.why))) ((Below.refl _ _).alloc (Nat.le_refl _) _) (3 * m + 11)
  have hP1 : OB (W.alloc (.cells cs (frT t.why))) (up ow W.heap.size (3 * m + 11)) w0.heap.size (3 * m + 11) W.heap.size (frT t.why) cs := ⟨Blk.new _ _ _, up_new (Nat.le_refl _), hbz⟩
  obtain ⟨W1, hW1⟩ : ∃ W1, W1 = W.alloc (.cells cs (frT t.why)) := ⟨_, rfl⟩
  have hz1 : W1.heap.size = W.heap.size + 1 := by rw [hW1]; simp
  rw [← hW1] at hR1 hP1 ⊢
  obtain ⟨q, hq⟩ : ∃ q, q = W.heap.size := ⟨_, rfl⟩
  obtain ⟨y0, hy0⟩ : ∃ y0, y0 = frP t.why := ⟨_, rfl⟩
  rw [← hq] at hcs hz1 hP1 hR1 hrz ⊢
  rw [← hy0]
  have c2 : W1.cell? ⟨rb, 2, none⟩ = some g.fv := hR1.run.blk.cell 2
  have hrz1 : rb < W1.heap.size := by omega
  obtain ⟨fv, hfv⟩ : ∃ fv, fv = g.fv := ⟨_, rfl⟩
  have hRD := reads_new W1 89 (.iface y0 (.pointer (some ⟨q, 0, none⟩)))
  have hOA := hR1.frs.own.alloc (.cells #[.iface y0 (.pointer (some ⟨q, 0, none⟩))] 89)
  rw [← hm] at hOA hs
  rw [← hx] at hmx
  rw [← hfv] at c2 hOA
  have hbz1 : w0.heap.size ≤ W1.heap.size := by omega
  have HRD := Lib.hid hRD
  have HOA := Lib.hid hOA
  have HFV := Lib.hid hfv
  have HM := Lib.hid hm
  have HX := Lib.hid hx
  have HY := Lib.hid hy0
  have HR1 := Lib.hid hR1
  have HP1 := Lib.hid hP1
  have HGL := Lib.hid hgl
  have HD := Lib.hid hd
  have HCS := Lib.hid hcs
  have HST := Lib.hid hst
  have HDF := Lib.hid hdf
  have H1 : Hid (∀ u ∈ [Value.iface y0 (.pointer (some ⟨q, 0, none⟩))], u.oneCell' = true) := Lib.hid (fun u hu => by simp at hu; subst hu; rfl)
  clear hRD hOA hfv hm hx hW1 hz1 hR1 hP1 hgl hR hd hq hy0 hcs hst hdf
  go_enter Try.func14, Try.ntmps14
  go_wp2_with (at_builtin; refine app_frm rfl _ _ rfl w0.heap.size fv m (frVs st.frames g.gs) rfl HOA.out (W1.heap.size + 1) (some ⟨W1.heap.size, 0, none⟩) 1 1 [.iface y0 (.pointer (some ⟨q, 0, none⟩))] rfl HRD.out H1.out (by omega) (by simp; omega) ?_; intro v8 w8 hown hgr hor; refine Hid.out ?_)
  obtain ⟨A8, c8, rfl⟩ := own_slice hown
  have hOR := HR1.out.frs
  rw [← HFV.out, ← HM.out] at hOR
  obtain ⟨hb8, hB8, hO8, hkr⟩ := app_set HR1.out.run hOR (by omega) ((Below.refl _ _).alloc (Nat.le_refl _) _) hown hgr hor 2
  have d4 : w8.cell? ⟨rb, 2, none⟩ = some fv := by rw [hb8.cell, HFV.out]; rfl
  have f4 : w8.frozen? ⟨rb, 2, none⟩ = false := hb8.frozen 2
  have e13 : w8.cell? ⟨rb, 11, none⟩ = some (.int .i64 mx) := by rw [hb8.cell, HX.out]; rfl
  have e6 : w8.cell? ⟨rb, 6, none⟩ = some (.int .i64 st.doing) := by rw [hb8.cell]; rfl
  have f13 : w8.frozen? ⟨rb, 11, none⟩ = false := hb8.frozen 11
  have f6 : w8.frozen? ⟨rb, 6, none⟩ = false := hb8.frozen 6
  have HFIN : Hid (∀ y1 : Int, y1 = ((max mx (m + 1) : Nat) : Int) → RunX w0 rb tg fa fo n c rs { st with frames := t :: st.frames, depth := max st.depth (st.frames.length + 1), doing := 0 } ((q, y) :: gl) g.pbs (((w8.setCell ⟨rb, 2, none⟩ (.slice A8 (m + 1) c8)).setCell ⟨rb, 11, none⟩ (.int .i64 y1)).setCell ⟨rb, 6, none⟩ (.int .i64 0)).drew) := Lib.hid fun y1 hy => by
    have hB9 := hB8.set_ 11 (.int .i64 y1)
    have hBa := hB9.set_ 6 (.int .i64 0)
    have ka := (Kr.set hB8 11 (.int .i64 y1)).trans (Kr.set hB9 6 (.int .i64 0))
    have k := hkr.trans (ka.wider (ex' := e2 4 0) fun x h => .inr h)
    refine RunX.on ?_ (Below.refl _ _).drew
    have hnew : FrAt _ _ w0.heap.size fa fo st.frames.length t ⟨q, .slice none 0 0, .slice none 0 0, y, []⟩ := ⟨by rw [← HCS.out, ← HM.out]; exact HP1.out.kr k (show ¬ e2 4 0 (3 * m + 11) from ne2 (by omega) (by omega)), ⟨by rw [HST.out]; exact own_none _ _ _ _, fun g hg => by cases hg⟩, ⟨by rw [HDF.out]; exact own_none _ _ _ _, fun g hg => by cases hg⟩, fun j d hj => by rw [HDF.out] at hj; simp at hj, by rw [HDF.out]; rfl⟩
    refine ⟨{ g with fv := .slice A8 (m + 1) c8, gs := ⟨q, .slice none 0 0, .slice none 0 0, y, []⟩ :: g.gs }, _, HR1.out.low (g' := { g with fv := .slice A8 (m + 1) c8, gs := ⟨q, .slice none 0 0, .slice none 0 0, y, []⟩ :: g.gs }) (st' := { st with frames := t :: st.frames, depth := max st.depth (st.frames.length + 1), doing := 0 }) k (fun x hx => by rcases hx with h | h <;> omega) ?_ ?_ ⟨hnew, HR1.out.frames.kr k (ne2 (by omega) (by omega)) fun j hj => ⟨ne2 (by omega) (by omega), ne2 (by omega) (by omega), ne2 (by omega) (by omega)⟩⟩ (HR1.out.mem.kr k (ne2 (by omega) (by omega))) (HR1.out.pan.kr k (ne2 (by omega) (by omega))) (HR1.out.pans.kr k (ne2 (by omega) (by omega))) HR1.out.nodup rfl rfl HD.out (by show (0 : Int) ≠ 3; omega) rfl rfl rfl, by simp [HGL.out], rfl⟩
    · subst hy
      rw [HX.out, HM.out] at hBa
      rw [HX.out, HM.out]
      exact hBa
    · have h9 := hO8.kr ka (ne1 (by omega))
      show OR _ _ _ _ _ _ _ (t :: st.frames).length (frVs (t :: st.frames) (⟨q, .slice none 0 0, .slice none 0 0, y, []⟩ :: g.gs))
      rw [frVs_cons, List.length_cons, ← HM.out]
      show OR _ _ _ _ _ _ _ _ (_ ++ [.iface (frP t.why) (ptrV q)])
      rw [← HY.out]
      exact h9
  refine Lib.hid ?_
  clear hown hgr hor hOR hb8 hB8 hO8 hkr
  go_wp2
  go_region
  go_wp2
  all_goals
    go_end0
    refine ⟨rfl, HFIN.out _ ?_⟩
    omega
end
end Go.Proofs.Ytdoabcmfblmklaa

/-
  Package sem: begin, by the frame's kind.
-/
namespace Go.Proofs.Ytdoabcmfblmklaa
set_option linter.unusedVariables false
set_option linter.unusedSimpArgs false
open Go.ChangeShapes Go.WideShapes Go.ChangeAt Go.RowKit

section
variable {w0 W W' w8 W1 : World} {ow ow' : Nat → Nat} {rb tg fa fo n c : Nat} {rs : List Raw} {st st' : Mc} {gl : List (Nat × Nat)} {pbs : List Nat}
theorem begin_first (k base : Nat) (h : RunX w0 rb tg fa fo n c rs st gl pbs W) (hd : st.doing ≠ 3) (hs : st.frames.length ≤ 1048577) (hmx : st.depth ≤ 1048577) :
    Calls Try.prog 14 #[.pointer (some ⟨rb, 0, none⟩), .iface 70 (.pointer (some ⟨W.heap.size, 0, none⟩))] (W.alloc (.cells #[.pointer (some ⟨fa, fo + k * 5, none⟩), .int .i64 0, .int .i64 base, .slice none 0 0, .slice none 0 0, .int .u64 0] 77)) fun e w' => e = .returned (.tuple #[]) ∧ RunX w0 rb tg fa fo n c rs { st with frames := ⟨0, k, 0, base, [], [], 0⟩ :: st.frames, depth := max st.depth (st.frames.length + 1), doing := 0 } ((W.heap.size, 0) :: gl) pbs w' :=
  begin_any ⟨0, k, 0, base, [], [], 0⟩ 0 _ h hd rfl rfl rfl hs hmx
theorem begin_called (k base : Nat) (h : RunX w0 rb tg fa fo n c rs st gl pbs W) (hd : st.doing ≠ 3) (hs : st.frames.length ≤ 1048577) (hmx : st.depth ≤ 1048577) :
    Calls Try.prog 14 #[.pointer (some ⟨rb, 0, none⟩), .iface 112 (.pointer (some ⟨W.heap.size, 0, none⟩))] (W.alloc (.cells #[.pointer (some ⟨fa, fo + k * 5, none⟩), .int .i64 0, .int .i64 base, .slice none 0 0, .slice none 0 0, .int .u64 0] 114)) fun e w' => e = .returned (.tuple #[]) ∧ RunX w0 rb tg fa fo n c rs { st with frames := ⟨1, k, 0, base, [], [], 0⟩ :: st.frames, depth := max st.depth (st.frames.length + 1), doing := 0 } ((W.heap.size, 0) :: gl) pbs w' :=
  begin_any ⟨1, k, 0, base, [], [], 0⟩ 0 _ h hd rfl rfl rfl hs hmx
theorem begin_deferred (k base : Nat) (h : RunX w0 rb tg fa fo n c rs st gl pbs W) (hd : st.doing ≠ 3) (hs : st.frames.length ≤ 1048577) (hmx : st.depth ≤ 1048577) :
    Calls Try.prog 14 #[.pointer (some ⟨rb, 0, none⟩), .iface 139 (.pointer (some ⟨W.heap.size, 0, none⟩))] (W.alloc (.cells #[.pointer (some ⟨fa, fo + k * 5, none⟩), .int .i64 0, .int .i64 base, .slice none 0 0, .slice none 0 0, .int .u64 0] 140)) fun e w' => e = .returned (.tuple #[]) ∧ RunX w0 rb tg fa fo n c rs { st with frames := ⟨2, k, 0, base, [], [], 0⟩ :: st.frames, depth := max st.depth (st.frames.length + 1), doing := 0 } ((W.heap.size, 0) :: gl) pbs w' :=
  begin_any ⟨2, k, 0, base, [], [], 0⟩ 0 _ h hd rfl rfl rfl hs hmx
theorem begin_panic (k base y : Nat) (h : RunX w0 rb tg fa fo n c rs st gl pbs W) (hd : st.doing ≠ 3) (hs : st.frames.length ≤ 1048577) (hmx : st.depth ≤ 1048577) :
    Calls Try.prog 14 #[.pointer (some ⟨rb, 0, none⟩), .iface 133 (.pointer (some ⟨W.heap.size, 0, none⟩))] (W.alloc (.cells #[.pointer (some ⟨fa, fo + k * 5, none⟩), .int .i64 0, .int .i64 base, .slice none 0 0, .slice none 0 0, .int .u64 0, .pointer (some ⟨y, 0, none⟩)] 136)) fun e w' => e = .returned (.tuple #[]) ∧ RunX w0 rb tg fa fo n c rs { st with frames := ⟨3, k, 0, base, [], [], 0⟩ :: st.frames, depth := max st.depth (st.frames.length + 1), doing := 0 } ((W.heap.size, y) :: gl) pbs w' :=
  begin_any ⟨3, k, 0, base, [], [], 0⟩ y _ h hd rfl rfl rfl hs hmx
end
end Go.Proofs.Ytdoabcmfblmklaa

/-
  Package sem: catch: recover.
-/
namespace Go.Proofs.Ytdoabcmfblmklaa
set_option linter.unusedVariables false
set_option linter.unusedSimpArgs false
open Go.ChangeShapes Go.WideShapes Go.ChangeAt Go.RowKit

section
variable {w0 W W' w8 W1 : World} {ow ow' : Nat → Nat} {ex : Nat → Prop} {base rb tg fa fo n c k : Nat} {rs : List Raw} {st st' : Mc} {g g' : RG} {t : Fr} {bl : List Fr} {gl : List (Nat × Nat)} {pbs : List Nat} {fb b : Nat}
/-- the last frame's panic, where it is the last one -/
theorem RunX.pan {v : Int} {rc : Bool} {ps : List (Int × Bool)} (h : RunX w0 rb tg fa fo n c rs st ((fb, b) :: gl) (b :: pbs) W) (hf : st.frames = t :: bl) (hw : t.why = 3) (hp : st.panics = (v, rc) :: ps) (hd : st.doing ≠ 3) :
    W.cell? ⟨fb, 6, none⟩ = some (.pointer (some ⟨b, 0, none⟩)) ∧ W.cell? ⟨b, 0, none⟩ = some (.int .u64 v) ∧ W.cell? ⟨b, 1, none⟩ = some (.bool rc) ∧ W.frozen? ⟨b, 1, none⟩ = false ∧ b < W.heap.size ∧ fb < W.heap.size ∧
      RunX w0 rb tg fa fo n c rs { st with panics := (v, true) :: ps } ((fb, b) :: gl) (b :: pbs) (W.setCell ⟨b, 1, none⟩ (.bool true)) := by
  obtain ⟨g, ow, fg, gs, hR, hg, rfl, rfl, hgl, hpb, hF⟩ := h.open_ hf
  have hP := hR.pans
  rw [hp, hpb] at hP
  have hB := hP.1
  have hS := hB.set_ 1 (.bool true)
  have kr := Kr.set hB 1 (.bool true)
  refine ⟨by rw [hF.blk.blk.cell]; exact frC_6 hw, hB.blk.cell 0, hB.blk.cell 1, hB.blk.frozen 1, hB.blk.lt, hF.blk.blk.lt, ?_⟩
  have hnd := hR.nodup
  rw [hpb] at hnd
  have hrest : ∀ {ps : List (Int × Bool)} {bs : List Nat}, PansAt W ow w0.heap.size ps bs → fg.by_ ∉ bs → PansAt (W.setCell ⟨fg.by_, 1, none⟩ (.bool true)) ow w0.heap.size ps bs := by
    intro ps
    induction ps with
    | nil => intro bs h1 h2; cases bs with
      | nil => trivial
      | cons x bs => cases h1
    | cons p ps ih => intro bs h1 h2; cases bs with
      | nil => cases h1
      | cons x bs =>
        simp only [List.mem_cons, not_or] at h2
        exact ⟨⟨h1.1.blk.far (p := ⟨fg.by_, 1, none⟩) (by intro he; exact h2.1 he.symm) _, h1.1.role, h1.1.le⟩, ih h1.2 h2.2⟩
  have hlow := hR.low (st' := { st with panics := (v, true) :: ps }) (g' := g) kr (fun y hy => by have : y = 7 := hy; omega) (hR.run.kr kr (ne1 (by omega))) (hR.frs.kr kr (ne1 (by omega))) (hR.frames.kr kr (ne1 (by omega)) fun j hj => ⟨ne1 (by omega), ne1 (by omega), ne1 (by omega)⟩) (hR.mem.kr kr (ne1 (by omega))) (by have h0 := hR.pan.kr kr (ne1 (by omega)); rw [hp] at h0; exact h0) (by rw [hpb]; exact ⟨hS, hrest hP.2 (List.nodup_cons.1 hnd).1⟩) hR.nodup rfl rfl hd hd rfl rfl rfl
  exact ⟨g, ow, hlow, by rw [hg]; simp [hgl], hpb⟩

theorem ta_first (fb : Nat) (W : World) : (Instr.typeAssert (.iface 70 (.pointer (some ⟨fb, 0, none⟩))) 89 133 true).run Try.prog W = .ok (.tuple #[.pointer none, .bool false]) W := by kernel_rfl
theorem ta_called (fb : Nat) (W : World) : (Instr.typeAssert (.iface 112 (.pointer (some ⟨fb, 0, none⟩))) 89 133 true).run Try.prog W = .ok (.tuple #[.pointer none, .bool false]) W := by kernel_rfl
theorem ta_deferred (fb : Nat) (W : World) : (Instr.typeAssert (.iface 139 (.pointer (some ⟨fb, 0, none⟩))) 89 133 true).run Try.prog W = .ok (.tuple #[.pointer none, .bool false]) W := by kernel_rfl
theorem ta_panic (fb : Nat) (W : World) : (Instr.typeAssert (.iface 133 (.pointer (some ⟨fb, 0, none⟩))) 89 133 true).run Try.prog W = .ok (.tuple #[.pointer (some ⟨fb, 0, none⟩), .bool true]) W := by kernel_rfl

set_option maxRecDepth 100000 in
set_option maxHeartbeats 1600000 in
theorem catch_no (h : RunX w0 rb tg fa fo n c rs st ((fb, b) :: gl) pbs W) (hf : st.frames = t :: bl) (hw : t.why ≠ 3) (hw4 : t.why ≤ 3) (hs : bl.length ≤ 1048577) (hl : t.stack.length + 1 ≤ 1048576) :
    Calls Try.prog 45 #[.pointer (some ⟨rb, 0, none⟩), .pointer (some ⟨fb, 0, none⟩)] W fun e w' => e = .returned (.tuple #[]) ∧ RunX w0 rb tg fa fo n c rs (st.top { t with stack := 0 :: 0 :: t.stack } bl) ((fb, b) :: gl) pbs w' := by
  have HT := Lib.hid (top_any h hf hs)
  have H := Lib.hid h
  have HF := Lib.hid hf
  have HL := Lib.hid hl
  have hcase : frP t.why = 70 ∨ frP t.why = 112 ∨ frP t.why = 139 := by
    unfold frP
    split
    · exact .inl rfl
    split
    · exact .inr (.inl rfl)
    split
    · exact .inr (.inr rfl)
    · omega
  clear h hf hw hw4 hs hl
  rcases hcase with hc | hc | hc
  all_goals
    rw [hc] at HT
    clear hc
    have ta1 := ta_first fb
    have ta2 := ta_called fb
    have ta3 := ta_deferred fb
    go_enter Try.func45, Try.ntmps45
    go_wp2_with (go_at_call 36; refine HT.out.mono ?_; rintro e w2 ⟨rfl, hb2⟩; have H2 := Lib.hid (push_any 0 (H.out.on hb2) HF.out (by have := HL.out; omega)); clear hb2; refine Hid.out ?_)
    refine Lib.hid ?_
    go_wp2_with (go_at_call 37; refine H2.out.mono ?_; rintro e w3 ⟨rfl, h3⟩; have H3 := Lib.hid (push_any (t := t.push 0) 0 h3 rfl HL.out); clear h3; refine Hid.out ?_)
    refine Lib.hid ?_
    go_wp2_with (go_at_call 37; refine H3.out.mono ?_; rintro e w4 ⟨rfl, h4⟩; have H4 := Lib.hid h4; clear h4)
    exact bodyPost_ret (v := .tuple #[]) (by simp [results, Try.results45, go_sem]) rfl ⟨rfl, H4.out⟩

set_option maxRecDepth 100000 in
set_option maxHeartbeats 1600000 in
theorem catch_done (v : Int) (ps : List (Int × Bool)) (h : RunX w0 rb tg fa fo n c rs st ((fb, b) :: gl) (b :: pbs) W) (hf : st.frames = t :: bl) (hw : t.why = 3) (hp : st.panics = (v, true) :: ps) (hd : st.doing ≠ 3) (hs : bl.length ≤ 1048577) (hl : t.stack.length + 1 ≤ 1048576) :
    Calls Try.prog 45 #[.pointer (some ⟨rb, 0, none⟩), .pointer (some ⟨fb, 0, none⟩)] W fun e w' => e = .returned (.tuple #[]) ∧ RunX w0 rb tg fa fo n c rs (st.top { t with stack := 0 :: 0 :: t.stack } bl) ((fb, b) :: gl) (b :: pbs) w' := by
  have HT := Lib.hid (top_any h hf hs)
  have H := Lib.hid h
  have HF := Lib.hid hf
  have HL := Lib.hid hl
  obtain ⟨x6, x0, x1, f1, hbz, hfz, _⟩ := h.pan hf hw hp hd
  rw [show frP t.why = 133 by rw [hw]; rfl] at HT
  have ta4 := ta_panic fb
  clear h hf hw hs hl hp hd
  go_enter Try.func45, Try.ntmps45
  go_wp2_with (go_at_call 36; refine HT.out.mono ?_; rintro e w2 ⟨rfl, hb2⟩; have y6 := (hb2.cell (p := ⟨fb, 6, none⟩) hfz).trans x6; have y1 := (hb2.cell (p := ⟨b, 1, none⟩) hbz).trans x1; have H2 := Lib.hid (push_any 0 (H.out.on hb2) HF.out (by have := HL.out; omega)); clear hb2; refine Hid.out ?_)
  refine Lib.hid ?_
  go_wp2_with (go_at_call 37; refine H2.out.mono ?_; rintro e w3 ⟨rfl, h3⟩; have H3 := Lib.hid (push_any (t := t.push 0) 0 h3 rfl HL.out); clear h3; refine Hid.out ?_)
  refine Lib.hid ?_
  go_wp2_with (go_at_call 37; refine H3.out.mono ?_; rintro e w4 ⟨rfl, h4⟩; have H4 := Lib.hid h4; clear h4)
  exact bodyPost_ret (v := .tuple #[]) (by simp [results, Try.results45, go_sem]) rfl ⟨rfl, H4.out⟩

set_option maxRecDepth 100000 in
set_option maxHeartbeats 1600000 in
theorem catch_yes (v : Int) (ps : List (Int × Bool)) (h : RunX w0 rb tg fa fo n c rs st ((fb, b) :: gl) (b :: pbs) W) (hf : st.frames = t :: bl) (hw : t.why = 3) (hp : st.panics = (v, false) :: ps) (hd : st.doing ≠ 3) (hs : bl.length ≤ 1048577) (hl : t.stack.length + 1 ≤ 1048576) :
    Calls Try.prog 45 #[.pointer (some ⟨rb, 0, none⟩), .pointer (some ⟨fb, 0, none⟩)] W fun e w' => e = .returned (.tuple #[]) ∧ RunX w0 rb tg fa fo n c rs { st.top { t with stack := 1 :: v :: t.stack } bl with panics := (v, true) :: ps } ((fb, b) :: gl) (b :: pbs) w' := by
  have HT := Lib.hid (top_any h hf hs)
  have H := Lib.hid h
  have HF := Lib.hid hf
  have HL := Lib.hid hl
  have HW := Lib.hid hw
  have HP := Lib.hid hp
  have HD := Lib.hid hd
  rw [show frP t.why = 133 by rw [hw]; rfl] at HT
  have ta4 := ta_panic fb
  clear h hf hw hs hl hp hd
  go_enter Try.func45, Try.ntmps45
  go_wp2_with (go_at_call 36; refine HT.out.mono ?_; rintro e w2 ⟨rfl, hb2⟩; obtain ⟨y6, y0, y1, g1, hbz, hfz, hN⟩ := (H.out.on hb2).pan HF.out HW.out HP.out HD.out; have HN := Lib.hid hN; have HE := Lib.hid (push_any v hN HF.out (by have := HL.out; omega)); clear hb2 hN; refine Hid.out ?_)
  have hne : b ≠ fb ∨ True := .inr trivial
  have z6 : (w2.setCell ⟨b, 1, none⟩ (.bool true)).cell? ⟨fb, 6, none⟩ = some (.pointer (some ⟨b, 0, none⟩)) := (HN.out.pan (v := v) (rc := true) (ps := ps) HF.out HW.out rfl HD.out).1
  have z0 : (w2.setCell ⟨b, 1, none⟩ (.bool true)).cell? ⟨b, 0, none⟩ = some (.int .u64 v) := (HN.out.pan (v := v) (rc := true) (ps := ps) HF.out HW.out rfl HD.out).2.1
  clear hne
  refine Lib.hid ?_
  go_wp2_with (go_at_call 37; refine HE.out.mono ?_; rintro e w3 ⟨rfl, h3⟩; have H3 := Lib.hid (push_any (t := t.push v) 1 h3 rfl HL.out); clear h3; refine Hid.out ?_)
  refine Lib.hid ?_
  go_wp2_with (go_at_call 37; refine H3.out.mono ?_; rintro e w4 ⟨rfl, h4⟩; have H4 := Lib.hid h4; clear h4)
  go_end0
  exact ⟨rfl, H4.out⟩
end
end Go.Proofs.Ytdoabcmfblmklaa

/-
  Package sem: the active panic, and a deferred call that begins.
-/
namespace Go.Proofs.Ytdoabcmfblmklaa
set_option linter.unusedVariables false
set_option linter.unusedSimpArgs false
open Go.ChangeShapes Go.WideShapes Go.ChangeAt Go.RowKit

section
variable {w0 W W' w8 W1 : World} {ow ow' : Nat → Nat} {ex : Nat → Prop} {base rb tg fa fo n c k : Nat} {rs : List Raw} {st st' : Mc} {g g' : RG} {t : Fr} {bl : List Fr} {gl : List (Nat × Nat)} {pbs : List Nat} {fb b : Nat}
/-- the active panic's place -/
theorem RunX.actv {p : Int × Bool} {ps : List (Int × Bool)} (h : RunX w0 rb tg fa fo n c rs st gl (b :: pbs) W) (hp : st.panics = p :: ps) :
    ∃ q cq, W.cell? ⟨rb, 4, none⟩ = some (.slice (some ⟨q, 0, none⟩) (ps.length + 1) cq) ∧ W.cell? ⟨q, ps.length, none⟩ = some (.pointer (some ⟨b, 0, none⟩)) ∧ q < W.heap.size ∧ rb < W.heap.size ∧ b < W.heap.size ∧ ps.length + 1 ≤ cq ∧ W.cell? ⟨b, 0, none⟩ = some (.int .u64 p.1) ∧ W.cell? ⟨b, 1, none⟩ = some (.bool p.2) := by
  obtain ⟨g, ow, hR, hg, hpb⟩ := h
  have h4 := hR.pan
  have hps := hR.pans
  rw [hp, hpb] at h4 hps
  obtain ⟨q, cq, hq⟩ := h4.form (by simp)
  rw [hq] at h4
  have hl : (pbs.map ptrV).length = ps.length := by rw [List.length_map]; exact hps.2.len
  obtain ⟨e1, e2, _, _, e5, _⟩ := h4.cell_ (k := ps.length) (u := ptrV b) (by
    rw [List.map_cons, List.reverse_cons, List.getElem?_append_right (by simp [hl])]
    simp [hl])
  refine ⟨q, cq, ?_, e2, e1, hR.run.blk.lt, hps.1.blk.lt, e5, hps.1.blk.cell 0, hps.1.blk.cell 1⟩
  rw [hR.run.blk.cell]
  show some g.pv = _
  rw [hq]; rfl

set_option maxRecDepth 100000 in
set_option maxHeartbeats 1600000 in
theorem active_any {p : Int × Bool} {ps : List (Int × Bool)} (h : RunX w0 rb tg fa fo n c rs st gl (b :: pbs) W) (hp : st.panics = p :: ps) (hs : ps.length ≤ 1048577) :
    Calls Try.prog 66 #[.pointer (some ⟨rb, 0, none⟩)] W fun e w' => e = .returned (.pointer (some ⟨b, 0, none⟩)) ∧ Below W.heap.size W w' := by
  obtain ⟨q, cq, x0, x1, hqz, hrz, _, hc, _, _⟩ := h.actv hp
  obtain ⟨m, hm⟩ : ∃ m, m = ps.length := ⟨_, rfl⟩
  rw [← hm] at x0 x1 hc hs
  have hm1 : ((m : Int) + 1) - 1 = (m : Int) := by omega
  have hm0 : (0 : Int) ≤ (m : Int) := by omega
  have hmm : (m : Int) < (m : Int) + 1 := by omega
  have hmn : m < m + 1 := by omega
  have HB : Hid (Below W.heap.size W W) := Lib.hid (Below.refl _ _)
  clear h hp hm
  go_enter Try.func66, Try.ntmps66
  go_wp2
  go_quiet (fail)
  go_wp2
  go_ret
  exact ⟨rfl, below_drewN HB.out _⟩

set_option maxRecDepth 100000 in
set_option maxHeartbeats 1600000 in
theorem callDeferred_end (d : Df) (r : Raw) (AA : Option Addr) (p cA : Nat) (h : RunA w0 rb tg fa fo n c rs st gl pbs AA p d.args W) (hd : st.doing = 1) (hr : rs[d.fn]? = some r) (hpl : d.args.length = p) (hpn : p ≤ r.fn.locals.length) (hnl : r.fn.locals.length ≤ 255) (hs : st.mem.length ≤ 1000000000) (hpc : p ≤ cA) (hpz : AA = none → p = 0) (hf : st.frames.length ≤ 1048577) (hmx : st.depth ≤ 1048577) :
    Calls Try.prog 50 #[.pointer (some ⟨rb, 0, none⟩), .agg #[.int .i64 d.fn, .slice AA p cA]] W fun e w' => e = .returned (.tuple #[]) ∧ ∃ fb, RunX w0 rb tg fa fo n c rs (st.begin (fns rs) 2 d.fn d.args) ((fb, 0) :: gl) pbs w' := by
  obtain ⟨kf, hkf⟩ : ∃ y, y = d.fn := ⟨_, rfl⟩
  obtain ⟨mem, hmem⟩ : ∃ y, y = st.mem.length := ⟨_, rfl⟩
  have HC : Hid (∀ W', Below W.heap.size W W' → Calls Try.prog 15 #[.pointer (some ⟨rb, 0, none⟩), .int .i64 kf, .slice AA p cA] W' fun e w' => e = .returned (callV fa fo kf mem) ∧ RunX w0 rb tg fa fo n c rs { st with mem := st.mem ++ locals (fns rs) kf d.args } gl pbs w') := Lib.hid fun W' hb => by rw [hkf, hmem]; exact newCall_any d.fn 0 p cA AA d.args r (h.on hb) (by omega) hr hpl hpn hnl hs hpc hpz
  have HBG : Hid (∀ w2, RunX w0 rb tg fa fo n c rs { st with mem := st.mem ++ locals (fns rs) kf d.args } gl pbs w2 → Calls Try.prog 14 #[.pointer (some ⟨rb, 0, none⟩), .iface 139 (.pointer (some ⟨w2.heap.size + 1, 0, none⟩))] ((w2.alloc (.cells #[.pointer (some ⟨fa, fo + kf * 5, none⟩), .int .i64 0, .int .i64 mem, .slice none 0 0, .slice none 0 0, .int .u64 0] 74)).alloc (.cells #[.pointer (some ⟨fa, fo + kf * 5, none⟩), .int .i64 0, .int .i64 mem, .slice none 0 0, .slice none 0 0, .int .u64 0] 140)) fun e w' => e = .returned (.tuple #[]) ∧ RunX w0 rb tg fa fo n c rs (st.begin (fns rs) 2 kf d.args) ((w2.heap.size + 1, 0) :: gl) pbs w') := Lib.hid fun w2 h2 => by
    have hz : (w2.alloc (.cells #[.pointer (some ⟨fa, fo + kf * 5, none⟩), .int .i64 0, .int .i64 mem, .slice none 0 0, .slice none 0 0, .int .u64 0] 74)).heap.size = w2.heap.size + 1 := by simp
    have hB := begin_deferred kf mem (h2.on ((Below.refl _ _).alloc (Nat.le_refl _) (.cells #[.pointer (some ⟨fa, fo + kf * 5, none⟩), .int .i64 0, .int .i64 mem, .slice none 0 0, .slice none 0 0, .int .u64 0] 74))) (by show st.doing ≠ 3; omega) hf hmx
    rw [hz] at hB
    unfold Mc.begin
    rw [← hmem]
    exact hB
  have HD := Lib.hid hd
  rw [← hkf]
  clear h hd hr hpl hpn hnl hs hpc hpz hf hmx hkf hmem
  unfold callV at HC
  go_enter Try.func50, Try.ntmps50
  go_wp2_with (go_at_call 15; refine (HC.out _ ((Below.refl _ _).alloc (Nat.le_refl _) _)).mono ?_; rintro e w2 ⟨rfl, h2⟩; obtain ⟨hz2, _, _, _, d6, _⟩ := h2.cells; have H2 := Lib.hid h2; clear h2; refine Hid.out ?_)
  have d6' : w2.cell? ⟨rb, 6, none⟩ = some (.int .i64 1) := by rw [d6, HD.out]
  clear d6
  refine Lib.hid ?_
  go_wp2_with (go_at_call 14; refine (HBG.out _ H2.out).mono ?_; rintro e w4 ⟨rfl, h4⟩; have H4 := Lib.hid h4; clear h4)
  go_end0
  exact ⟨rfl, _, H4.out⟩
set_option maxRecDepth 100000 in
set_option maxHeartbeats 1600000 in
theorem callDeferred_panic (d : Df) (r : Raw) (AA : Option Addr) (p cA : Nat) (h : RunA w0 rb tg fa fo n c rs st gl (b :: pbs) AA p d.args W) (hd : st.doing = 2) {q : Int × Bool} {ps : List (Int × Bool)} (hq : st.panics = q :: ps) (hql : ps.length ≤ 1048577) (hr : rs[d.fn]? = some r) (hpl : d.args.length = p) (hpn : p ≤ r.fn.locals.length) (hnl : r.fn.locals.length ≤ 255) (hs : st.mem.length ≤ 1000000000) (hpc : p ≤ cA) (hpz : AA = none → p = 0) (hf : st.frames.length ≤ 1048577) (hmx : st.depth ≤ 1048577) :
    Calls Try.prog 50 #[.pointer (some ⟨rb, 0, none⟩), .agg #[.int .i64 d.fn, .slice AA p cA]] W fun e w' => e = .returned (.tuple #[]) ∧ ∃ fb, RunX w0 rb tg fa fo n c rs (st.begin (fns rs) 3 d.fn d.args) ((fb, b) :: gl) (b :: pbs) w' := by
  obtain ⟨kf, hkf⟩ : ∃ y, y = d.fn := ⟨_, rfl⟩
  obtain ⟨mem, hmem⟩ : ∃ y, y = st.mem.length := ⟨_, rfl⟩
  have HC : Hid (∀ W', Below W.heap.size W W' → Calls Try.prog 15 #[.pointer (some ⟨rb, 0, none⟩), .int .i64 kf, .slice AA p cA] W' fun e w' => e = .returned (callV fa fo kf mem) ∧ RunX w0 rb tg fa fo n c rs { st with mem := st.mem ++ locals (fns rs) kf d.args } gl (b :: pbs) w') := Lib.hid fun W' hb => by rw [hkf, hmem]; exact newCall_any d.fn 0 p cA AA d.args r (h.on hb) (by omega) hr hpl hpn hnl hs hpc hpz
  have HBG : Hid (∀ w2, RunX w0 rb tg fa fo n c rs { st with mem := st.mem ++ locals (fns rs) kf d.args } gl (b :: pbs) w2 → Calls Try.prog 14 #[.pointer (some ⟨rb, 0, none⟩), .iface 133 (.pointer (some ⟨w2.heap.size, 0, none⟩))] (w2.alloc (.cells #[.pointer (some ⟨fa, fo + kf * 5, none⟩), .int .i64 0, .int .i64 mem, .slice none 0 0, .slice none 0 0, .int .u64 0, .pointer (some ⟨b, 0, none⟩)] 136)) fun e w' => e = .returned (.tuple #[]) ∧ RunX w0 rb tg fa fo n c rs (st.begin (fns rs) 3 kf d.args) ((w2.heap.size, b) :: gl) (b :: pbs) w') := Lib.hid fun w2 h2 => by
    have hB := begin_panic kf mem b h2 (by show st.doing ≠ 3; omega) hf hmx
    unfold Mc.begin
    rw [← hmem]
    exact hB
  have HQ := Lib.hid hq
  have HQL := Lib.hid hql
  have HD := Lib.hid hd
  rw [← hkf]
  clear h hq hql hd hr hpl hpn hnl hs hpc hpz hf hmx hkf hmem
  unfold callV at HC
  go_enter Try.func50, Try.ntmps50
  go_wp2_with (go_at_call 15; refine (HC.out _ ((Below.refl _ _).alloc (Nat.le_refl _) _)).mono ?_; rintro e w2 ⟨rfl, h2⟩; obtain ⟨hz2, _, _, _, d6, _⟩ := h2.cells; have H2 := Lib.hid h2; clear h2; refine Hid.out ?_)
  have d6' : w2.cell? ⟨rb, 6, none⟩ = some (.int .i64 2) := by rw [d6, HD.out]
  clear d6
  refine Lib.hid ?_
  have HN := Lib.hid (Blk.new w2 74 #[.pointer (some ⟨fa, fo + kf * 5, none⟩), .int .i64 0, .int .i64 mem, .slice none 0 0, .slice none 0 0, .int .u64 0])
  have hlt := HN.out.lt
  go_wp2
  go_region_law (first
    | (go_simp; go_at_call 66; refine (active_any (H2.out.on ((Below.refl _ _).alloc (Nat.le_refl _) _).drew) HQ.out HQL.out).mono ?_; rintro e w3 ⟨rfl, hb3⟩; have H3 := Lib.hid ((H2.out.on ((Below.refl _ _).alloc (Nat.le_refl _) _).drew).on hb3); have y0 := (hb3.cell (p := ⟨w2.heap.size, 0, none⟩) hlt).trans (HN.out.cell 0); have y1 := (hb3.cell (p := ⟨w2.heap.size, 1, none⟩) hlt).trans (HN.out.cell 1); have y2 := (hb3.cell (p := ⟨w2.heap.size, 2, none⟩) hlt).trans (HN.out.cell 2); have y3 := (hb3.cell (p := ⟨w2.heap.size, 3, none⟩) hlt).trans (HN.out.cell 3); have y4 := (hb3.cell (p := ⟨w2.heap.size, 4, none⟩) hlt).trans (HN.out.cell 4); have y5 := (hb3.cell (p := ⟨w2.heap.size, 5, none⟩) hlt).trans (HN.out.cell 5); have hlt3 : w2.heap.size < w3.heap.size := Nat.lt_of_lt_of_le hlt hb3.size; clear hb3)
    | (go_simp; go_at_call 14; refine (HBG.out _ (by exact H3.out)).mono ?_; rintro e w4 ⟨rfl, h4⟩; have H4 := Lib.hid h4; clear h4))
  all_goals
    go_wp2
  all_goals
    go_end0
    exact ⟨rfl, _, H4.out⟩
end
end Go.Proofs.Ytdoabcmfblmklaa

/-
  Package sem: the last frame is removed; what a recovered function's kept local holds.
-/
namespace Go.Proofs.Ytdoabcmfblmklaa
set_option linter.unusedVariables false
set_option linter.unusedSimpArgs false
open Go.ChangeShapes Go.WideShapes Go.ChangeAt Go.RowKit

section
variable {w0 W W' w8 W1 : World} {ow ow' : Nat → Nat} {ex : Nat → Prop} {base rb tg fa fo n c k : Nat} {rs : List Raw} {st st' : Mc} {g g' : RG} {t : Fr} {bl : List Fr} {gl : List (Nat × Nat)} {pbs : List Nat} {fb b : Nat}
theorem RunX.cutFrames (h : RunX w0 rb tg fa fo n c rs st ((fb, b) :: gl) pbs W) (hf : st.frames = t :: bl) (hd : st.doing ≠ 3) :
    ∃ q cq, W.cell? ⟨rb, 2, none⟩ = some (.slice (some ⟨q, 0, none⟩) (bl.length + 1) cq) ∧ bl.length + 1 ≤ cq ∧ fb ≠ rb ∧ RunX w0 rb tg fa fo n c rs { st with frames := bl } gl pbs (W.setCell ⟨rb, 2, none⟩ (.slice (some ⟨q, 0, none⟩) bl.length cq)) := by
  obtain ⟨g, ow, fg, gs, hR, hg, rfl, rfl, hgl, hpb, hF⟩ := h.open_ hf
  have h4 := hR.frs
  have hfr := hR.frames
  rw [hf, hg] at h4 hfr
  obtain ⟨q, cq, hq⟩ := h4.form (by simp)
  rw [hq] at h4
  obtain ⟨e1', _, _, _, e5, _⟩ := h4.cell_ (k := bl.length) (frVs_last hfr.2.len)
  obtain ⟨hB8, hO8, hkr⟩ := cut_set (k := bl.length) hR.run h4 (by omega) (by simp) 2
  have htk : (frVs (t :: bl) (fg :: gs)).take (bl.length * 1) = frVs bl gs := by
    rw [frVs_cons, Nat.mul_one]
    have hl : (frVs bl gs).length = bl.length := by unfold frVs; simp [hfr.2.len]
    rw [← hl]; simp
  rw [htk] at hO8
  refine ⟨q, cq, ?_, e5, ?_, ?_⟩
  · rw [hR.run.blk.cell]
    show some g.fv = _
    rw [hq]; rfl
  · intro he
    have h1 := hF.blk.role
    have h2 := hR.run.role
    rw [he, h2] at h1
    omega
  · have hlow := hR.low (st' := { st with frames := bl }) (g' := { g with fv := .slice (some ⟨q, 0, none⟩) bl.length cq, gs := gs }) hkr (fun y hy => by have : y = 0 := hy; omega) (by exact hB8) hO8 (hfr.2.kr hkr (ne1 (by omega)) fun j hj => ⟨ne1 (by omega), ne1 (by omega), ne1 (by omega)⟩) (hR.mem.kr hkr (ne1 (by omega))) (hR.pan.kr hkr (ne1 (by omega))) (hR.pans.kr hkr (ne1 (by omega))) hR.nodup rfl rfl hd hd rfl rfl rfl
    exact ⟨_, ow, hlow, hgl, hpb⟩
theorem RunX.cutMem (h : RunX w0 rb tg fa fo n c rs st gl pbs W) (hk : k ≤ st.mem.length) (hd : st.doing ≠ 3) :
    ∃ A cm, W.cell? ⟨rb, 3, none⟩ = some (.slice A st.mem.length cm) ∧ st.mem.length ≤ cm ∧ (A = none → st.mem.length = 0 ∧ cm = 0) ∧ (∀ a, A = some a → ∃ q, a = ⟨q, 0, none⟩) ∧ RunX w0 rb tg fa fo n c rs { st with mem := st.mem.take k } gl pbs (W.setCell ⟨rb, 3, none⟩ (.slice A k cm)) := by
  obtain ⟨g, ow, hR, hg, hpb⟩ := h
  have h4 := hR.mem
  obtain ⟨A, cm, hq⟩ := h4.slice
  rw [hq] at h4
  obtain ⟨hB8, hO8, hkr⟩ := cut_set (k := k) hR.run h4 (by omega) hk 3
  rw [Nat.mul_one, u64c_take] at hO8
  have hlk : (st.mem.take k).length = k := by rw [List.length_take]; omega
  refine ⟨A, cm, ?_, own_cap h4.own, fun hA => ?_, fun a hA => ?_, ?_⟩
  · rw [hR.run.blk.cell]
    show some g.mv = _
    rw [hq]
  · rcases h4.own.2 with ⟨he, h0⟩ | ⟨q', cap, cur, he, _⟩
    · injection he with _ _ h3; exact ⟨h0, h3⟩
    · injection he with h1; rw [hA] at h1; cases h1
  · rcases h4.own.2 with ⟨he, h0⟩ | ⟨q', cap, cur, he, _⟩
    · injection he with h1; rw [hA] at h1; cases h1
    · injection he with h1; rw [hA] at h1; injection h1 with h1; exact ⟨q', h1⟩
  · exact ⟨_, ow, hR.mem_ (mem := st.mem.take k) (mv := .slice A k cm) hkr (fun x hx => .inl hx) hd (by exact hB8) (by rw [hlk]; exact hO8), hg, hpb⟩

set_option maxRecDepth 100000 in
set_option maxHeartbeats 1600000 in
theorem kept_none (r : Raw) (h : RunX w0 rb tg fa fo n c rs st ((fb, b) :: gl) pbs W) (hf : st.frames = t :: bl) (hr : rs[t.f]? = some r) (hk : r.fn.keep < 0) :
    Calls Try.prog 109 #[.pointer (some ⟨rb, 0, none⟩), .pointer (some ⟨fb, 0, none⟩)] W fun e w' => e = .returned (.int .u64 0) ∧ Below W.heap.size W w' := by
  obtain ⟨hfz, hrz, c0, _, c2, _⟩ := h.top hf
  obtain ⟨haz, _, _, _, x3, _⟩ := h.fn_ hr
  have HB : Hid (Below W.heap.size W W) := Lib.hid (Below.refl _ _)
  clear h hf hr
  go_enter Try.func109, Try.ntmps109
  go_wp2
  go_ret
  exact ⟨rfl, HB.out⟩

set_option maxRecDepth 100000 in
set_option maxHeartbeats 1600000 in
theorem kept_some (r : Raw) (j : Nat) (v : Int) (h : RunX w0 rb tg fa fo n c rs st ((fb, b) :: gl) pbs W) (hf : st.frames = t :: bl) (hr : rs[t.f]? = some r) (hk : r.fn.keep = (j : Int)) (hj : j ≤ 255) (hv : st.mem[t.base + j]? = some v) (hm : st.mem.length ≤ 1000000000) :
    Calls Try.prog 109 #[.pointer (some ⟨rb, 0, none⟩), .pointer (some ⟨fb, 0, none⟩)] W fun e w' => e = .returned (.int .u64 v) ∧ Below W.heap.size W w' := by
  obtain ⟨hfz, hrz, c0, _, c2, _⟩ := h.top hf
  obtain ⟨haz, _, _, _, x3, _⟩ := h.fn_ hr
  obtain ⟨q, cm, m0, m1, _, hq, _, hlt, _⟩ := h.memAt hv
  obtain ⟨m, hme⟩ : ∃ m, m = st.mem.length := ⟨_, rfl⟩
  obtain ⟨bs, hbs⟩ : ∃ m, m = t.base := ⟨_, rfl⟩
  rw [← hme] at m0 hlt hm
  rw [← hbs] at hlt m1 c2
  rw [hk] at x3
  obtain ⟨x, hx⟩ : ∃ x : Nat, x = bs + j := ⟨_, rfl⟩
  rw [← hx] at m1 hlt
  have hbj : ((bs : Int) + (j : Int)) = (x : Int) := by omega
  have hb1 : x ≤ 1000000000 := by omega
  have HB : Hid (Below W.heap.size W W) := Lib.hid (Below.refl _ _)
  clear h hf hr hv hme hbs hk hx
  go_enter Try.func109, Try.ntmps109
  go_wp2
  go_region
  go_wp2
  go_ret
  exact ⟨rfl, (HB.out).drew⟩

theorem body_of (y fb : Nat) (W : World) : (method 278 (frP y) (.pointer (some ⟨fb, 0, none⟩)) "windlass/sem.body").run Try.prog W = .ok (105, .pointer (some ⟨fb, 0, none⟩)) W := by
  unfold frP
  split
  · exact body_first fb W
  split
  · exact body_called fb W
  split
  · exact body_deferred fb W
  · exact body_panic fb W
set_option maxRecDepth 100000 in
set_option maxHeartbeats 1600000 in
theorem remove_any (h : RunX w0 rb tg fa fo n c rs st ((fb, b) :: gl) pbs W) (hf : st.frames = t :: bl) (hd : st.doing ≠ 3) (hs : bl.length ≤ 1048577) (hb : t.base ≤ st.mem.length) (hm : st.mem.length ≤ 1000000000) :
    Calls Try.prog 51 #[.pointer (some ⟨rb, 0, none⟩), .iface (frP t.why) (.pointer (some ⟨fb, 0, none⟩))] W fun e w' => e = .returned (.tuple #[]) ∧ RunX w0 rb tg fa fo n c rs { st with frames := bl, mem := st.mem.take t.base } gl pbs w' ∧ (∀ i, w'.cell? ⟨fb, i, none⟩ = W.cell? ⟨fb, i, none⟩) ∧ fb < w'.heap.size := by
  obtain ⟨hfz, hrz, c0, _, c2, _⟩ := h.top hf
  obtain ⟨q, cq, x2, hcq, hne, h1⟩ := h.cutFrames hf hd
  obtain ⟨A, cm, x3, hcm, hA0, hA1, h2⟩ := h1.cutMem (k := t.base) hb hd
  obtain ⟨_, _, _, _, _, _, _, ff⟩ := h.cells
  have f2 := ff 2
  have f3 := ff 3
  obtain ⟨m, hme⟩ : ∃ m, m = bl.length := ⟨_, rfl⟩
  obtain ⟨bs, hbs⟩ : ∃ m, m = t.base := ⟨_, rfl⟩
  obtain ⟨mm, hmm⟩ : ∃ m, m = st.mem.length := ⟨_, rfl⟩
  have x3' : W.cell? ⟨rb, 3, none⟩ = some (.slice A mm cm) := by rw [hmm]; exact (World.cell?_setCell_other W ⟨rb, 2, none⟩ ⟨rb, 3, none⟩ _ (by simp)).symm.trans x3
  have H2 := Lib.hid h2
  rw [← hme] at x2 hcq hs H2
  rw [← hbs] at c2 hb H2
  have hA0' : A = none → mm = 0 ∧ cm = 0 := fun hA => by rw [hmm]; exact hA0 hA
  rw [← hmm] at hb hm
  have hcm' : mm ≤ cm := by rw [hmm]; exact hcm
  have hm1 : ((m : Int) + 1) - 1 = (m : Int) := by omega
  obtain ⟨y, hy⟩ : ∃ y, y = t.why := ⟨_, rfl⟩
  rw [← hy, ← hbs]
  clear h hf h1 h2 x3 hcm hA0 hme hbs hmm ff hd
  have bm := body_of y fb
  obtain ⟨P, hP⟩ : ∃ P, P = frP y := ⟨_, rfl⟩
  rw [← hP] at bm ⊢
  have HFC : Hid (∀ (u v : Value) (i : Nat), ((W.setCell ⟨rb, 2, none⟩ u).setCell ⟨rb, 3, none⟩ v).drew.drew.cell? ⟨fb, i, none⟩ = W.cell? ⟨fb, i, none⟩) := Lib.hid fun u v i => by
    show ((W.setCell ⟨rb, 2, none⟩ u).setCell ⟨rb, 3, none⟩ v).cell? ⟨fb, i, none⟩ = W.cell? ⟨fb, i, none⟩
    rw [World.cell?_setCell_other _ ⟨rb, 3, none⟩ ⟨fb, i, none⟩ _ (by simp; try (intro h; exact absurd h.symm hne)), World.cell?_setCell_other _ ⟨rb, 2, none⟩ ⟨fb, i, none⟩ _ (by simp; try (intro h; exact absurd h.symm hne))]
  have HSZ : Hid (∀ (u v : Value), fb < ((W.setCell ⟨rb, 2, none⟩ u).setCell ⟨rb, 3, none⟩ v).drew.drew.heap.size) := Lib.hid fun u v => by
    show fb < ((W.setCell ⟨rb, 2, none⟩ u).setCell ⟨rb, 3, none⟩ v).heap.size
    simp [World.setCell]
    exact hfz
  have hne2 : rb ≠ fb := fun h => hne h.symm
  clear hy hP
  cases A with
  | none =>
    obtain ⟨rfl, rfl⟩ := hA0' rfl
    obtain rfl : bs = 0 := by omega
    clear hA0' hA1
    go_enter Try.func51, Try.ntmps51
    go_wp2
    go_region
    go_wp2
    go_region_law (go_simp; go_at_call 105; refine (body_any fb _).mono ?_; rintro e w3 ⟨rfl, rfl⟩)
    all_goals
      go_wp2
    all_goals
      go_end0
      exact ⟨rfl, H2.out.on ((Below.refl _ _).drew.drew), fun i => HFC.out _ _ i, HSZ.out _ _⟩
  | some a0 =>
    obtain ⟨q', rfl⟩ := hA1 a0 rfl
    clear hA0' hA1
    by_cases hc0 : cm = 0
    · subst hc0
      obtain rfl : bs = 0 := by omega
      go_enter Try.func51, Try.ntmps51
      go_wp2
      go_region
      go_wp2
      go_region_law (go_simp; go_at_call 105; refine (body_any fb _).mono ?_; rintro e w3 ⟨rfl, rfl⟩)
      all_goals
        go_wp2
      all_goals
        go_end0
        exact ⟨rfl, H2.out.on ((Below.refl _ _).drew.drew), fun i => HFC.out _ _ i, HSZ.out _ _⟩
    · have hbc : bs ≤ cm := by omega
      have hcp : 0 < cm := by omega
      go_enter Try.func51, Try.ntmps51
      go_wp2
      go_region
      go_wp2
      go_region_law (go_simp; go_at_call 105; refine (body_any fb _).mono ?_; rintro e w3 ⟨rfl, rfl⟩)
      all_goals
        go_wp2
      all_goals
        go_end0
        exact ⟨rfl, H2.out.on ((Below.refl _ _).drew.drew), fun i => HFC.out _ _ i, HSZ.out _ _⟩
end
end Go.Proofs.Ytdoabcmfblmklaa

/-
  Package sem: a panic that another has taken the place of is taken from the row.
-/
namespace Go.Proofs.Ytdoabcmfblmklaa
set_option linter.unusedVariables false
set_option linter.unusedSimpArgs false
open Go.ChangeShapes Go.WideShapes Go.ChangeAt Go.RowKit

section
variable {w0 W W' w8 W1 : World}
theorem u65 : Try.prog.underlying 65 = some (.slice 130) := by kernel_rfl
theorem z142 (w : World) : (zeroValue 130).run Try.prog w = .ok (.pointer none) w := by kernel_rfl
set_option maxRecDepth 100000 in
set_option maxHeartbeats 3200000 in
/-- the last but one is taken from a row of panics -/
theorem delete_rsd (q k j n cq : Nat) (x u : Value) (hj : j = k + 1) (hn : n = k + 2) (hk : n ≤ cq) (hl : k ≤ 1048577) (hcm : cq ≤ 9223372036854775807) (hq : q < W.heap.size) (c0 : W.cell? ⟨q, k, none⟩ = some u) (c1 : W.cell? ⟨q, j, none⟩ = some x) (f0 : W.frozen? ⟨q, k, none⟩ = false) (f1 : W.frozen? ⟨q, j, none⟩ = false) (hx : x.oneCell' = true) :
    Calls Try.prog 67 #[.slice (some ⟨q, 0, none⟩) n cq, .int .i64 k, .int .i64 j] W fun e w' => e = .returned (.slice (some ⟨q, 0, none⟩) j cq) ∧ w' = (W.drew.setCell ⟨q, k, none⟩ x).setCell ⟨q, j, none⟩ (.pointer none) := by
  obtain ⟨i0, hi0, hz0, hz1, hz2⟩ := info_parts info_rsd
  have s1 : Hid ([x].length = (n - j) * 1) := Lib.hid (by simp; omega)
  have s2 : Hid (∀ v ∈ [x], v.oneCell' = true) := Lib.hid fun v hv => by simp at hv; subst hv; exact hx
  have hsrc : Hid (∀ i v, [x][i]? = some v → W.drew.cell? ((⟨q, j, none⟩ : Addr).add i) = some v) := Lib.hid fun i v hi => by
    cases i with
    | zero =>
      simp at hi
      subst hi
      have e : (⟨q, j, none⟩ : Addr).add 0 = ⟨q, j, none⟩ := by simp [Addr.add]
      rw [e]
      exact c1
    | succ i => simp at hi
  have s3 : Hid (∀ i, i < [x].length → (W.drew.cell? ⟨q, 0 + k * 1 + i, none⟩).isSome = true ∧ W.drew.frozen? ⟨q, 0 + k * 1 + i, none⟩ = false) := Lib.hid fun i hi => by
    have : i = 0 := by simpa using hi
    subst this
    rw [show 0 + k * 1 + 0 = k by omega]
    exact ⟨by show (W.cell? _).isSome = true; rw [c0]; rfl, f0⟩
  have hW : Hid (W.drew.setCells q (0 + k * 1) [x] = W.drew.setCell ⟨q, k, none⟩ x) := Lib.hid (by
    rw [show 0 + k * 1 = k by omega]
    rfl)
  obtain ⟨W1, hW1⟩ : ∃ W1, W1 = W.drew.setCell ⟨q, k, none⟩ x := ⟨_, rfl⟩
  rw [← hW1] at hW ⊢
  have d1 : W1.cell? ⟨q, j, none⟩ = some x := by
    rw [hW1, World.cell?_setCell_other _ _ _ _ (by simp; try omega)]
    exact c1
  have g1 : W1.frozen? ⟨q, j, none⟩ = false := by
    rw [hW1]
    simpa using f1
  obtain ⟨z, hz⟩ : ∃ z, z = k + (n - j) := ⟨_, rfl⟩
  have hzj : z = j := by omega
  have hcl : ∀ ty, (Builtin.clear_ #[65] ty #[.slice (some ⟨q, k + (n - j), none⟩) (n - (k + (n - j))) (cq - (k + (n - j)))]).run Try.prog W1 = .ok (.tuple #[]) (W1.setCell ⟨q, j, none⟩ (.pointer none)) := fun ty => by
    rw [← hz, hzj, show n - j = 1 by omega]
    exact (Lib.run_clear_slice W1 _ _ ty _ u65 z142 rfl rfl q j 1 (cq - j) (by omega) (fun i hi => by
      have : i = 0 := by omega
      subst this
      rw [Nat.add_zero, d1]; rfl) (fun i hi => by
      have : i = 0 := by omega
      subst this
      exact g1)).trans rfl
  have hkj : k ≤ j := by omega
  have hkl : k < j := by omega
  have hjn : j ≤ n := by omega
  have hkc : k ≤ cq := by omega
  have hjc : j ≤ cq := by omega
  have hne : ¬ (cq = j) := by omega
  have hnl : n ≤ 1048579 := by omega
  have hroom : k + (n - j) ≤ n := by omega
  have HJ : Hid (j = k + (n - j)) := Lib.hid (by omega)
  clear hW1 hj hn hz hzj c0 c1 f0 f1 d1 g1
  go_enter Try.func67, Try.ntmps67
  go_wp2_with fail
  go_region_law (refine step_append_room rfl (.tmp 22) (.tmp 25) 65 rfl 130 i0 1 u65 hi0 hz1 q 0 k cq (by simp [Act.eval, Act.put]) ⟨q, j, none⟩ (n - j) (cq - j) [x] (by simp [Act.eval, Act.put]) s1.out hsrc.out s2.out (by omega) s3.out ?_; rw [hW.out])
  all_goals
    go_wp2
  go_ret
  exact ⟨by rw [← HJ.out]; rfl, rfl⟩
end
end Go.Proofs.Ytdoabcmfblmklaa

/-
  Package trace's object as the run holds it: next, In, Out.
-/
namespace Go.Proofs.Ytdoabcmfblmklaa
set_option linter.unusedVariables false
set_option linter.unusedSimpArgs false
open Go.ChangeShapes Go.WideShapes Go.ChangeAt Go.RowKit

theorem info_ev : (Try.prog.info? 50).map (fun i => (i.zero, i.size, i.bytes)) = some (some (.agg #[.int .i64 0, .int .u64 0]), 2, 16) := by kernel_rfl
theorem app_ev {w : World} {ops : Array Oper} {rest : List Oper} {o : Oper} {a : Act} {Q : Exit → Act → World → Prop} (hgd : o.guard = none) (s x : Operand)
    (ho : o.op = .call { callee := .builtin .append, args := #[s, x], argTypes := #[28, 28] }) (base : Nat)
    (v : Value) (n : Nat) (xs : List Value) (hs : a.eval s = v) (hown : w.ownsRow base 50 2 v n xs)
    (B : Nat) (A : Option Addr) (m c : Nat) (news : List Value) (hx : a.eval x = .slice A m c) (hr : Reads w B 2 A m news) (h1 : ∀ u ∈ news, u.oneCell' = true)
    (hbytes : (n + m) * 16 ≤ 140737488355328) (hbase : base ≤ w.heap.size)
    (h : ∀ v' w', w'.ownsRow base 50 2 v' (n + m) (xs ++ news) → w.grownBy w' v.ownBlock → (v'.ownBlock = v.ownBlock ∨ v'.ownBlock = some w.heap.size) → wpList Try.prog ops Q rest (a.put o.dst v') w') : wpList Try.prog ops Q (o :: rest) a w := by
  obtain ⟨i0, hi, hz0, hz1, hz2⟩ := info_parts info_ev
  exact wpList_append_any w hgd s x _ ho base 50 i0 (.agg #[.int .i64 0, .int .u64 0]) 2 16 Try.underlying28 hi hz0 hz1 hz2 rfl (by decide) v n xs hs hown B A m c news hx hr h1 (by unfold maxLen; omega) hbytes hbase h
theorem reads_ev (W : World) (a b : Int) : Reads (W.alloc (.cells #[.int .i64 a, .int .u64 b] 50)) (W.heap.size + 1) 2 (some ⟨W.heap.size, 0, none⟩) 1 [.int .i64 a, .int .u64 b] := ⟨rfl, fun _ => ⟨_, rfl, by simp, fun j x hj => by
  have ea : (⟨W.heap.size, 0, none⟩ : Addr).add j = ⟨W.heap.size, j, none⟩ := by simp [Addr.add]; exact Eq.symm
  rw [ea, (Blk.new W _ _).cell]
  simpa using hj⟩⟩
section
variable {w0 W W' w8 W1 : World} {ow ow' : Nat → Nat} {ex : Nat → Prop} {rb tg fa fo n c k : Nat} {rs : List Raw} {st st' : Mc} {g g' : RG} {t : Fr} {bl : List Fr} {gl : List (Nat × Nat)} {pbs : List Nat} {fb b : Nat}
/-- the trace has turned -/
theorem RunAt.tr_ {tv xv : Value} {tape : List Int} {evs : List (Int × Int)} (h : RunAt w0 rb tg fa fo n c rs st g ow W) (kr : Kr ex ow ow' W W') (hex : ∀ x, ex x → x = 1 ∨ x = 3) (hd : st.doing ≠ 3) (hn : TrAt W' ow' w0.heap.size tg tv xv tape evs) :
    RunAt w0 rb tg fa fo n c rs { st with tape := tape, evs := evs } { g with tv := tv, xv := xv } ow' W' := by
  have nx : ∀ r, r ≠ 1 → r ≠ 3 → ¬ ex r := fun r h1 h3 hx => by have := hex r hx; omega
  exact ⟨h.run.kr kr (nx 0 (by omega) (by omega)), h.frs.kr kr (nx 4 (by omega) (by omega)), h.frames.kr kr (nx 8 (by omega) (by omega)) fun j hj => ⟨nx _ (by omega) (by omega), nx _ (by omega) (by omega), nx _ (by omega) (by omega)⟩, h.mem.kr kr (nx 5 (by omega) (by omega)), h.pan.kr kr (nx 6 (by omega) (by omega)), h.pans.kr kr (nx 7 (by omega) (by omega)), h.nodup, hn, h.res, fun h3 => absurd h3 hd, h.prog.kr kr h.below.size fun i hi => by rw [h.frn i hi]; exact nx 9 (by omega) (by omega), Kr.below h.below kr h.below.size fun i hi => by rw [h.frn i hi]; exact nx 9 (by omega) (by omega), fun i hi => (kr.old i (Nat.lt_of_lt_of_le hi h.below.size)).trans (h.frn i hi)⟩

set_option maxRecDepth 100000 in
set_option maxHeartbeats 1600000 in
theorem next_any (h : RunX w0 rb tg fa fo n c rs st gl pbs W) (hd : st.doing ≠ 3) :
    Calls Try.prog 64 #[.pointer (some ⟨tg, 0, none⟩)] W fun e w' => e = .returned (.int .u64 (st.tape.headD 0)) ∧ RunX w0 rb tg fa fo n c rs { st with tape := st.tape.tail } gl pbs w' := by
  obtain ⟨g, ow, hR, hgl, hpb⟩ := h
  obtain ⟨A, m, cp, htv, hnc, hcm, hlen, hnil, hcells⟩ := hR.tr.tape
  have c0 : W.cell? ⟨tg, 0, none⟩ = some (.slice A m cp) := by rw [hR.tr.blk.blk.cell, ← htv]; rfl
  have f0 : W.frozen? ⟨tg, 0, none⟩ = false := hR.tr.blk.blk.frozen 0
  unfold maxLen at hcm
  have HR := Lib.hid hR
  have HGL := Lib.hid hgl
  have HPB := Lib.hid hpb
  have HD := Lib.hid hd
  obtain ⟨tape, htp⟩ : ∃ tp, tp = st.tape := ⟨_, rfl⟩
  rw [← htp] at hlen hcells ⊢
  have HTP := Lib.hid htp
  clear hR hgl hpb hd htp
  cases tape with
  | nil =>
    simp only [List.length_nil] at hlen
    subst hlen
    have HSAME : Hid (RunX w0 rb tg fa fo n c rs { st with tape := [] } gl pbs W) := Lib.hid ⟨g, ow, by have h := HR.out; rw [show st = { st with tape := [] } by rw [HTP.out]] at h; exact h, HGL.out, HPB.out⟩
    clear hcells
    go_enter Try.func64, Try.ntmps64
    go_wp2
    go_ret
    exact ⟨rfl, HSAME.out⟩
  | cons x rest =>
    obtain ⟨gt, off, cs, rfl, hBg, hrl, hb, hc⟩ := hcells (by rw [← hlen]; simp)
    have x0 : W.cell? ⟨gt, off, none⟩ = some (.int .u64 x) := by
      have := hc 0 x rfl
      rw [hb.cell]
      exact this
    have hn1 : 1 ≤ m := by rw [← hlen]; simp
    have HFIN : Hid (∀ o2 c2, (1 < m → o2 = off + 1) → m - 1 ≤ c2 → c2 ≤ maxLen → RunX w0 rb tg fa fo n c rs { st with tape := rest } gl pbs (W.setCell ⟨tg, 0, none⟩ (.slice (some ⟨gt, o2, none⟩) (m - 1) c2))) := Lib.hid (by
      intro o2 c2 ho hc2 hc3
      have hB := HR.out.tr.blk.set_ 0 (.slice (some ⟨gt, o2, none⟩) (m - 1) c2)
      have kr := Kr.set HR.out.tr.blk 0 (.slice (some ⟨gt, o2, none⟩) (m - 1) c2)
      have hne : gt ≠ tg := by rintro rfl; rw [HR.out.tr.blk.role] at hrl; omega
      refine ⟨{ g with tv := .slice (some ⟨gt, o2, none⟩) (m - 1) c2 }, ow, HR.out.tr_ (xv := g.xv) (evs := st.evs) kr (fun x hx => .inl hx) HD.out ⟨hB, ⟨_, m - 1, c2, rfl, hc2, hc3, by rw [← hlen]; simp, (fun h => by cases h), fun hp => ⟨gt, o2, cs, rfl, hBg, hrl, hb.far (p := ⟨tg, 0, none⟩) hne _, fun j y hj => ?_⟩⟩, HR.out.tr.evs.kr kr (ne1 (by omega))⟩, HGL.out, HPB.out⟩
      rw [ho (by omega), show off + 1 + j = off + (j + 1) by omega]
      exact hc (j + 1) y (by simpa using hj))
    clear hb hc hlen hnil hcells
    go_enter Try.func64, Try.ntmps64
    by_cases hc1 : cp = 1
    · subst hc1
      obtain rfl : m = 1 := by omega
      go_wp2
      go_ret
      refine ⟨rfl, HFIN.out off 0 (fun h => by omega) (by omega) (by unfold maxLen; omega)⟩
    · go_wp2
      go_ret
      refine ⟨rfl, HFIN.out (off + 1) (cp - 1) (fun _ => rfl) (by omega) (by unfold maxLen; omega)⟩
/-- an event behind the others -/
theorem ev_push {w8 W1 : World} {A8 : Value} {x : Int × Int} (hR : RunAt w0 rb tg fa fo n c rs st g ow W) (hd : st.doing ≠ 3) (hgl : g.gs.map (fun x => (x.fb, x.by_)) = gl) (hpb : g.pbs = pbs) (hb : Below W.heap.size W W1) (hown : w8.ownsRow w0.heap.size 50 2 A8 (st.evs.length + 1) (evc6 st.evs ++ [.int .i64 x.1, .int .u64 x.2])) (hg : W1.grownBy w8 g.xv.ownBlock) (hor : A8.ownBlock = g.xv.ownBlock ∨ A8.ownBlock = some W1.heap.size) :
    w8.cell? ⟨tg, 1, none⟩ = some g.xv ∧ w8.frozen? ⟨tg, 1, none⟩ = false ∧ tg < w8.heap.size ∧ RunX w0 rb tg fa fo n c rs { st with evs := st.evs ++ [x] } gl pbs (w8.setCell ⟨tg, 1, none⟩ A8) := by
  obtain ⟨hb8, hB8, hO8, hkr⟩ := app_set hR.tr.blk hR.tr.evs (by omega) hb hown hg hor 1
  refine ⟨by rw [hb8.cell]; rfl, hb8.frozen 1, hb8.lt, ?_⟩
  refine ⟨{ g with xv := A8 }, _, hR.tr_ (tv := g.tv) (tape := st.tape) hkr (fun y hy => hy.elim .inr .inl) hd ⟨hB8, ?_, ?_⟩, hgl, hpb⟩
  · obtain ⟨A, m, cp, e1, e2, e3, e4, e5, e6⟩ := hR.tr.tape
    refine ⟨A, m, cp, e1, e2, e3, e4, e5, fun hn => ?_⟩
    obtain ⟨gt, off, cs, d1, d2, d3, d4, d5⟩ := e6 hn
    exact ⟨gt, off, cs, d1, d2, (hkr.old gt d4.lt).trans d3, (hkr.block gt d4.lt (by rw [d3]; exact ne2 (by omega) (by omega))).trans d4, d5⟩
  · have e1 : (st.evs ++ [x]).length = st.evs.length + 1 := by simp
    have e2 : evc6 (st.evs ++ [x]) = evc6 st.evs ++ [.int .i64 x.1, .int .u64 x.2] := by simp [evc6]
    rw [e1, e2]; exact hO8

set_option maxRecDepth 100000 in
set_option maxHeartbeats 1600000 in
theorem out_any (v : Int) (h : RunX w0 rb tg fa fo n c rs st gl pbs W) (hd : st.doing ≠ 3) (hs : st.evs.length ≤ 1048576) :
    Calls Try.prog 47 #[.pointer (some ⟨tg, 0, none⟩), .int .u64 v] W fun e w' => e = .returned (.tuple #[]) ∧ RunX w0 rb tg fa fo n c rs { st with evs := st.evs ++ [(1, v)] } gl pbs w' := by
  obtain ⟨g, ow, hR, hgl, hpb⟩ := h
  obtain ⟨m, hm⟩ : ∃ m, m = st.evs.length := ⟨_, rfl⟩
  obtain ⟨xv, hxv⟩ : ∃ m, m = g.xv := ⟨_, rfl⟩
  have c1 : W.cell? ⟨tg, 1, none⟩ = some xv := by rw [hxv]; exact hR.tr.blk.blk.cell 1
  have htz := hR.tr.blk.blk.lt
  have hbz : w0.heap.size ≤ W.heap.size := hR.below.size
  have HO := Lib.hid (reads_ev W 1 v)
  have H6 : Hid (∀ u ∈ [Value.int .i64 1, Value.int .u64 v], u.oneCell' = true) := Lib.hid (fun u hu => by simp at hu; rcases hu with rfl | rfl <;> rfl)
  have H7 : Hid ((W.alloc (.cells #[.int .i64 1, .int .u64 v] 50)).ownsRow w0.heap.size 50 2 xv m (evc6 st.evs)) := Lib.hid (by rw [hxv, hm]; exact hR.tr.evs.own.alloc _)
  rw [← hm] at hs
  have HM := Lib.hid hm
  have HXV := Lib.hid hxv
  have HR := Lib.hid hR
  have HGL := Lib.hid hgl
  have HPB := Lib.hid hpb
  have HD := Lib.hid hd
  clear hm hxv hR hgl hpb hd
  go_enter Try.func47, Try.ntmps47
  go_wp2_with (at_builtin; refine app_ev rfl _ _ rfl w0.heap.size xv m (evc6 st.evs) rfl H7.out (W.heap.size + 1) (some ⟨W.heap.size, 0, none⟩) 1 1 [.int .i64 1, .int .u64 v] rfl HO.out H6.out (by omega) (by simp; omega) ?_; intro v8 w8 hown hgr hor; refine Hid.out ?_)
  obtain ⟨A8, c8, rfl⟩ := own_slice hown
  rw [HM.out] at hown hor
  rw [HXV.out] at hgr hor
  obtain ⟨d1, f1, hz8, hX⟩ := ev_push (x := (1, v)) HR.out HD.out HGL.out HPB.out ((Below.refl _ _).alloc (Nat.le_refl _) _) hown hgr hor
  rw [← HM.out] at hX
  rw [← HXV.out] at d1
  have HX := Lib.hid hX
  clear hown hgr hor hX
  refine Lib.hid ?_
  go_wp2
  go_end0
  exact ⟨rfl, HX.out⟩

set_option maxRecDepth 100000 in
set_option maxHeartbeats 1600000 in
theorem in_any (h : RunX w0 rb tg fa fo n c rs st gl pbs W) (hd : st.doing ≠ 3) (hs : st.evs.length ≤ 1048576) :
    Calls Try.prog 46 #[.pointer (some ⟨tg, 0, none⟩)] W fun e w' => e = .returned (.int .u64 (st.tape.headD 0)) ∧ RunX w0 rb tg fa fo n c rs { st with tape := st.tape.tail, evs := st.evs ++ [(2, st.tape.headD 0)] } gl pbs w' := by
  obtain ⟨v, HV⟩ : ∃ v, Hid (v = st.tape.headD 0) := ⟨_, Lib.hid rfl⟩
  have HN := Lib.hid (next_any h hd)
  rw [← HV.out] at HN ⊢
  have HD := Lib.hid hd
  obtain ⟨m, hm⟩ : ∃ m, m = st.evs.length := ⟨_, rfl⟩
  rw [← hm] at hs
  have HM := Lib.hid hm
  have htz : tg < W.heap.size := by obtain ⟨g, ow, hR, _, _⟩ := h; exact hR.tr.blk.blk.lt
  clear h hd hm
  go_enter Try.func46, Try.ntmps46
  go_wp2_with (go_at_call 64; refine HN.out.mono ?_; rintro e w1 ⟨rfl, h1⟩; have H1 := Lib.hid h1; clear h1; refine Hid.out ?_)
  obtain ⟨g, ow, hR, hgl, hpb⟩ := H1.out
  obtain ⟨xv, hxv⟩ : ∃ m, m = g.xv := ⟨_, rfl⟩
  have c1 : w1.cell? ⟨tg, 1, none⟩ = some xv := by rw [hxv]; exact hR.tr.blk.blk.cell 1
  have htz1 := hR.tr.blk.blk.lt
  have hbz : w0.heap.size ≤ w1.heap.size := hR.below.size
  have HO := Lib.hid (reads_ev w1 2 v)
  have H6 : Hid (∀ u ∈ [Value.int .i64 2, Value.int .u64 v], u.oneCell' = true) := Lib.hid (fun u hu => by simp at hu; rcases hu with rfl | rfl <;> rfl)
  have H7 : Hid ((w1.alloc (.cells #[.int .i64 2, .int .u64 v] 50)).ownsRow w0.heap.size 50 2 xv m (evc6 st.evs)) := Lib.hid (by rw [hxv, HM.out]; exact hR.tr.evs.own.alloc _)
  have HXV := Lib.hid hxv
  have HR := Lib.hid hR
  have HGL := Lib.hid hgl
  have HPB := Lib.hid hpb
  clear hxv hR hgl hpb
  refine Lib.hid ?_
  go_wp2_with (at_builtin; refine app_ev rfl _ _ rfl w0.heap.size xv m (evc6 st.evs) rfl H7.out (w1.heap.size + 1) (some ⟨w1.heap.size, 0, none⟩) 1 1 [.int .i64 2, .int .u64 v] rfl HO.out H6.out (by omega) (by simp; omega) ?_; intro v8 w8 hown hgr hor; refine Hid.out ?_)
  obtain ⟨A8, c8, rfl⟩ := own_slice hown
  rw [HM.out] at hown hor
  rw [HXV.out] at hgr hor
  obtain ⟨d1, f1, hz8, hX⟩ := ev_push (x := (2, v)) HR.out HD.out HGL.out HPB.out ((Below.refl _ _).alloc (Nat.le_refl _) _) hown hgr hor
  rw [← HM.out] at hX
  rw [← HXV.out] at d1
  have HX := Lib.hid hX
  clear hown hgr hor hX
  refine Lib.hid ?_
  go_wp2
  go_ret
  exact ⟨rfl, HX.out⟩
end
end Go.Proofs.Ytdoabcmfblmklaa

/-
  Package sem: end; the trace's Events.
-/
namespace Go.Proofs.Ytdoabcmfblmklaa
set_option linter.unusedVariables false
set_option linter.unusedSimpArgs false
open Go.ChangeShapes Go.WideShapes Go.ChangeAt Go.RowKit

theorem evc6_one (l : List (Int × Int)) : ∀ u ∈ evc6 l, u.oneCell' = true := by
  intro u hu
  simp only [evc6, List.mem_flatMap] at hu
  obtain ⟨p, _, hu⟩ := hu
  simp at hu
  rcases hu with rfl | rfl <;> rfl
set_option maxHeartbeats 800000 in
theorem clone_ev (B : Nat) (ao : Option Addr) (n c : Nat) (xs : List (Int × Int)) (w : World) (h : Reads w B 2 ao n (evc6 xs)) (hB : B ≤ w.heap.size) (hr : n * 16 ≤ 140737488355328) :
    Calls Try.prog 53 #[.slice ao n c] w fun e w' => ∃ v', e = .returned v' ∧ w'.ownsRow w.heap.size 50 2 v' n (evc6 xs) ∧ Below w.heap.size w w' := by
  obtain ⟨i0, hi, hz0, hz1, hz2⟩ := info_parts info_ev
  have q22 : ∀ (w : World) (a : Option Addr) (n c n' c' : Nat), (binOp .eql 28 (.slice a n c) (.slice none n' c')).run Try.prog w = .ok (.bool a.isNone) w := fun w a n c n' c' => Lib.run_eql_slice_nil w _ _ a n c n' c' Try.underlying28
  have HH := Lib.hid h
  clear h
  cases ao with
  | none =>
    have hn : n = 0 := by
      rcases Nat.eq_zero_or_pos n with h0 | h0
      · exact h0
      · obtain ⟨ad, e, _⟩ := HH.out.2 h0
        cases e
    go_enter Try.func53, Try.ntmps53
    go_wp2
    go_ret
    refine ⟨_, rfl, ?_, Below.refl _ _⟩
    have hl := HH.out.1
    subst hn
    have hx : evc6 xs = [] := List.eq_nil_of_length_eq_zero (by simpa using hl)
    rw [hx]
    exact ⟨rfl, .inl ⟨rfl, rfl⟩⟩
  | some ad =>
    go_enter Try.func53, Try.ntmps53
    go_wp2_with (at_builtin; refine wpList_append_any _ rfl _ _ 28 rfl w.heap.size 50 i0 (.agg #[.int .i64 0, .int .u64 0]) 2 16 Try.underlying28 hi hz0 hz1 hz2 rfl (by decide) _ 0 [] rfl (World.ownsRow_made w #[] 0 (Nat.le_refl _) (Nat.zero_le _) (by simp)) B (some ad) n c (evc6 xs) rfl (HH.out.alloc hB _) (evc6_one xs) (by unfold maxLen; omega) (by omega) (by simp) ?_; intro v' w1 hown hgr _)
    go_wp2
    go_ret
    refine ⟨v', rfl, by simpa using hown, ((Below.refl _ _).alloc (Nat.le_refl _) _).grown hgr (by simp) ?_⟩
    intro k hk
    injection hk with hk
    exact Nat.le_of_eq hk
section
variable {w0 W W' w8 W1 : World} {ow ow' : Nat → Nat} {ex : Nat → Prop} {base rb tg fa fo n c k : Nat} {rs : List Raw} {st st' : Mc} {g g' : RG} {t : Fr} {bl : List Fr} {gl : List (Nat × Nat)} {pbs : List Nat} {fb b : Nat} {tv xv : Value} {tape : List Int} {evs : List (Int × Int)}
set_option maxHeartbeats 800000 in
theorem events_any (h : TrAt W ow base tg tv xv tape evs) (hs : evs.length ≤ 1048577) :
    Calls Try.prog 27 #[.pointer (some ⟨tg, 0, none⟩)] W fun e w' => ∃ v', e = .returned v' ∧ w'.ownsRow W.heap.size 50 2 v' evs.length (evc6 evs) ∧ Below W.heap.size W w' := by
  have c1 : W.cell? ⟨tg, 1, none⟩ = some xv := h.blk.blk.cell 1
  obtain ⟨A, cp, rfl⟩ := h.evs.slice
  have HR : Hid (Reads W W.heap.size 2 A evs.length (evc6 evs)) := Lib.hid (Reads.of_own h.evs.own)
  clear h
  go_enter Try.func27, Try.ntmps27
  go_wp2_with (go_at_call 53; refine (clone_ev W.heap.size A evs.length cp evs _ HR.out (Nat.le_refl _) (by omega)).mono ?_; rintro e w' ⟨v', rfl, hown, hb⟩; refine Hid.out ?_)
  have HW := Lib.hid hown
  clear hown
  refine Lib.hid ?_
  go_wp2
  go_ret
  exact ⟨v', rfl, HW.out, hb⟩

set_option maxRecDepth 100000 in
set_option maxHeartbeats 1600000 in
theorem end_any (kk v : Int) (h : RunX w0 rb tg fa fo n c rs st gl pbs W) (hd : st.doing ≠ 3) (hs : st.evs.length ≤ 1048577) :
    Calls Try.prog 17 #[.pointer (some ⟨rb, 0, none⟩), .int .i64 kk, .int .u64 v] W fun e w' => e = .returned (.tuple #[]) ∧ RunX w0 rb tg fa fo n c rs (st.over kk v) gl pbs w' := by
  obtain ⟨g, ow, hR, hgl, hpb⟩ := h
  have hrz := hR.run.blk.lt
  have htz := hR.tr.blk.blk.lt
  have c1 : W.cell? ⟨rb, 1, none⟩ = some (.pointer (some ⟨tg, 0, none⟩)) := hR.run.blk.cell 1
  have c6 : W.cell? ⟨rb, 6, none⟩ = some (.int .i64 st.doing) := hR.run.blk.cell 6
  have c7 : W.cell? ⟨rb, 7, none⟩ = some g.ev := hR.run.blk.cell 7
  have c8 : W.cell? ⟨rb, 8, none⟩ = some (.int .i64 st.endk) := hR.run.blk.cell 8
  have c9 : W.cell? ⟨rb, 9, none⟩ = some (.int .u64 st.endv) := hR.run.blk.cell 9
  have f6 : W.frozen? ⟨rb, 6, none⟩ = false := hR.run.blk.frozen 6
  have f7 : W.frozen? ⟨rb, 7, none⟩ = false := hR.run.blk.frozen 7
  have f8 : W.frozen? ⟨rb, 8, none⟩ = false := hR.run.blk.frozen 8
  have f9 : W.frozen? ⟨rb, 9, none⟩ = false := hR.run.blk.frozen 9
  have hB1 := hR.run.set_ 6 (.int .i64 3)
  have hB2 := hB1.set_ 8 (.int .i64 kk)
  have hB3 := hB2.set_ 9 (.int .u64 v)
  have k3 := ((Kr.set hR.run 6 (.int .i64 3)).trans (Kr.set hB1 8 (.int .i64 kk))).trans (Kr.set hB2 9 (.int .u64 v))
  obtain ⟨W3, hW3⟩ : ∃ W3, W3 = ((W.setCell ⟨rb, 6, none⟩ (.int .i64 3)).setCell ⟨rb, 8, none⟩ (.int .i64 kk)).setCell ⟨rb, 9, none⟩ (.int .u64 v) := ⟨_, rfl⟩
  rw [← hW3] at hB3 k3
  have hT3 := hR.tr.kr k3 (ne1 (by omega)) (ne1 (by omega)) (ne1 (by omega))
  have HEV := Lib.hid (events_any hT3 hs)
  rw [hW3] at HEV
  have HFIN : Hid (∀ A8 cp w5, w5.ownsRow W3.heap.size 50 2 (.slice A8 st.evs.length cp) st.evs.length (evc6 st.evs) → Below W3.heap.size W3 w5 → w5.cell? ⟨rb, 7, none⟩ = some g.ev ∧ w5.frozen? ⟨rb, 7, none⟩ = false ∧ rb < w5.heap.size ∧ RunX w0 rb tg fa fo n c rs (st.over kk v) gl pbs (w5.setCell ⟨rb, 7, none⟩ (.slice A8 st.evs.length cp))) := Lib.hid (by
    intro A8 cp w5 hown hb
    have k4 : Kr (e1 0) ow (up ow W3.heap.size 8) W3 w5 := Kr.of_new hb ow 8 _
    have hB4 : OB w5 (up ow W3.heap.size 8) w0.heap.size 0 rb 68 _ := hB3.kr (Kr.of_new (ex := fun _ => False) hb ow 8) (fun h => h)
    have hB5 := hB4.set_ 7 (.slice A8 st.evs.length cp)
    have kr := (k3.trans k4).trans (Kr.set hB4 7 (.slice A8 st.evs.length cp))
    have hz3 : W.heap.size ≤ W3.heap.size := k3.size
    have hO : OR w5 (up ow W3.heap.size 8) w0.heap.size 8 50 2 (.slice A8 st.evs.length cp) st.evs.length (evc6 st.evs) := ⟨own_more hown (by have := hR.below.size; omega), fun q hq => up_new (own_lt' hown hq).1⟩
    refine ⟨by rw [hB4.blk.cell]; rfl, hB4.blk.frozen 7, hB4.blk.lt, ⟨{ g with ev := .slice A8 st.evs.length cp }, _, ⟨hB5, hR.frs.kr kr (ne1 (by omega)), hR.frames.kr kr (ne1 (by omega)) fun j hj => ⟨ne1 (by omega), ne1 (by omega), ne1 (by omega)⟩, hR.mem.kr kr (ne1 (by omega)), hR.pan.kr kr (ne1 (by omega)), hR.pans.kr kr (ne1 (by omega)), hR.nodup, hR.tr.kr kr (ne1 (by omega)) (ne1 (by omega)) (ne1 (by omega)), fun h3 => absurd rfl h3, fun _ => hO.kr (Kr.set hB4 7 _) (ne1 (by omega)), hR.prog.kr kr hR.below.size fun i hi => by rw [hR.frn i hi]; exact ne1 (by omega), Kr.below hR.below kr hR.below.size fun i hi => by rw [hR.frn i hi]; exact ne1 (by omega), fun i hi => (kr.old i (Nat.lt_of_lt_of_le hi hR.below.size)).trans (hR.frn i hi)⟩, hgl, hpb⟩⟩)
  rw [hW3] at HFIN
  obtain ⟨m, hm⟩ : ∃ m, m = st.evs.length := ⟨_, rfl⟩
  rw [← hm] at HEV HFIN
  clear hR hgl hpb hd hs hB1 hB2 hB3 k3 hW3 hT3 hm
  go_enter Try.func17, Try.ntmps17
  go_wp2_with (go_at_call 27; refine HEV.out.mono ?_; rintro e w5 ⟨v', rfl, hown, hb⟩; obtain ⟨A8, cp, rfl⟩ := own_slice hown; obtain ⟨d7, g7, hz, hX⟩ := HFIN.out _ _ _ hown hb; have HX := Lib.hid hX; clear hX hown hb)
  go_end0
  exact ⟨rfl, HX.out⟩
end
end Go.Proofs.Ytdoabcmfblmklaa

/-
  Package sem: what follows a frame's end.
-/
namespace Go.Proofs.Ytdoabcmfblmklaa
set_option linter.unusedVariables false
set_option linter.unusedSimpArgs false
open Go.ChangeShapes Go.WideShapes Go.ChangeAt Go.RowKit

section
variable {w0 W W' w8 W1 : World} {ow ow' : Nat → Nat} {ex : Nat → Prop} {base rb tg fa fo n c k : Nat} {rs : List Raw} {st st' : Mc} {g g' : RG} {t : Fr} {bl : List Fr} {gl : List (Nat × Nat)} {pbs : List Nat} {fb b fz kf : Nat}
theorem RunX.cutPans {p : Int × Bool} {ps : List (Int × Bool)} (h : RunX w0 rb tg fa fo n c rs st gl (b :: pbs) W) (hp : st.panics = p :: ps) (hd : st.doing ≠ 3) :
    ∃ q cq, W.cell? ⟨rb, 4, none⟩ = some (.slice (some ⟨q, 0, none⟩) (ps.length + 1) cq) ∧ ps.length + 1 ≤ cq ∧ RunX w0 rb tg fa fo n c rs { st with panics := ps } gl pbs (W.setCell ⟨rb, 4, none⟩ (.slice (some ⟨q, 0, none⟩) ps.length cq)) := by
  obtain ⟨g, ow, hR, hg, hpb⟩ := h
  have h4 := hR.pan
  have hps := hR.pans
  have hnd := hR.nodup
  rw [hp, hpb] at h4 hps
  rw [hpb] at hnd
  obtain ⟨q, cq, hq⟩ := h4.form (by simp)
  rw [hq] at h4
  have hl : (pbs.map ptrV).length = ps.length := by rw [List.length_map]; exact hps.2.len
  obtain ⟨_, _, _, _, e5, _⟩ := h4.cell_ (k := ps.length) (u := ptrV b) (by
    rw [List.map_cons, List.reverse_cons, List.getElem?_append_right (by simp [hl])]
    simp [hl])
  obtain ⟨hB8, hO8, hkr⟩ := cut_set (k := ps.length) hR.run h4 (by omega) (by simp) 4
  have htk : ((b :: pbs).map ptrV).reverse.take (ps.length * 1) = (pbs.map ptrV).reverse := by
    rw [List.map_cons, List.reverse_cons, Nat.mul_one, ← hl, ← List.length_reverse]; simp
  rw [htk] at hO8
  refine ⟨q, cq, ?_, e5, ?_⟩
  · rw [hR.run.blk.cell]
    show some g.pv = _
    rw [hq]; rfl
  · have hlow := hR.low (st' := { st with panics := ps }) (g' := { g with pv := .slice (some ⟨q, 0, none⟩) ps.length cq, pbs := pbs }) hkr (fun y hy => by have : y = 0 := hy; omega) (by exact hB8) (hR.frs.kr hkr (ne1 (by omega))) (hR.frames.kr hkr (ne1 (by omega)) fun j hj => ⟨ne1 (by omega), ne1 (by omega), ne1 (by omega)⟩) (hR.mem.kr hkr (ne1 (by omega))) hO8 (hps.2.kr hkr (ne1 (by omega))) (List.nodup_cons.1 hnd).2 rfl rfl hd hd rfl rfl rfl
    exact ⟨_, ow, hlow, hg, rfl⟩

theorem ended_first_any (h : RunX w0 rb tg fa fo n c rs st gl pbs W) (hd : st.doing ≠ 3) (hs : st.evs.length ≤ 1048577) :
    Calls Try.prog 106 #[.pointer (some ⟨fz, 0, none⟩), .pointer (some ⟨rb, 0, none⟩)] W fun e w' => e = .returned (.tuple #[]) ∧ RunX w0 rb tg fa fo n c rs (st.over 1 0) gl pbs w' := by
  have HE := Lib.hid (end_any 1 0 h hd hs)
  clear h hd hs
  go_enter Try.func106, Try.ntmps106
  go_wp2_with (go_at_call 17; refine HE.out.mono ?_; rintro e w2 ⟨rfl, h2⟩; have H2 := Lib.hid h2; clear h2)
  go_end0
  exact ⟨rfl, H2.out⟩
theorem ended_deferred_any (h : RunX w0 rb tg fa fo n c rs st gl pbs W) :
    Calls Try.prog 110 #[.pointer (some ⟨fz, 0, none⟩), .pointer (some ⟨rb, 0, none⟩)] W fun e w' => e = .returned (.tuple #[]) ∧ RunX w0 rb tg fa fo n c rs st gl pbs w' := by
  have HE := Lib.hid h
  clear h
  go_enter Try.func110, Try.ntmps110
  go_wp2
  go_end0
  exact ⟨rfl, HE.out⟩
set_option maxRecDepth 100000 in
set_option maxHeartbeats 1600000 in
theorem ended_called_no (r : Raw) (h : RunX w0 rb tg fa fo n c rs st ((fb, b) :: gl) pbs W) (hf : st.frames = t :: bl) (hd : st.doing ≠ 3) (hr : rs[kf]? = some r) (hz : fz < W.heap.size) (c0 : W.cell? ⟨fz, 0, none⟩ = some (.pointer (some ⟨fa, fo + kf * 5, none⟩))) (hno : r.fn.result = false) :
    Calls Try.prog 107 #[.pointer (some ⟨fz, 0, none⟩), .pointer (some ⟨rb, 0, none⟩)] W fun e w' => e = .returned (.tuple #[]) ∧ RunX w0 rb tg fa fo n c rs { st with doing := 0 } ((fb, b) :: gl) pbs w' := by
  obtain ⟨haz, _, _, x2, _⟩ := h.fn_ hr
  obtain ⟨hrz, _, _, _, d6, _, _, ff⟩ := h.cells
  have f6 := ff 6
  rw [hno] at x2
  have HF := Lib.hid (h.setDoing 0 hd (by omega))
  clear h hf hd hr hno ff
  go_enter Try.func107, Try.ntmps107
  go_wp2
  go_end0
  exact ⟨rfl, HF.out⟩
set_option maxRecDepth 100000 in
set_option maxHeartbeats 1600000 in
theorem ended_called_yes (r : Raw) (v : Int) (h : RunX w0 rb tg fa fo n c rs st ((fb, b) :: gl) pbs W) (hf : st.frames = t :: bl) (hd : st.doing ≠ 3) (hs : bl.length ≤ 1048577) (hl : t.stack.length ≤ 1048576) (hr : rs[kf]? = some r) (hz : fz < W.heap.size) (c0 : W.cell? ⟨fz, 0, none⟩ = some (.pointer (some ⟨fa, fo + kf * 5, none⟩))) (c5 : W.cell? ⟨fz, 5, none⟩ = some (.int .u64 v)) (hno : r.fn.result = true) :
    Calls Try.prog 107 #[.pointer (some ⟨fz, 0, none⟩), .pointer (some ⟨rb, 0, none⟩)] W fun e w' => e = .returned (.tuple #[]) ∧ RunX w0 rb tg fa fo n c rs { st.top (t.push v) bl with doing := 0 } ((fb, b) :: gl) pbs w' := by
  obtain ⟨haz, _, _, x2, _⟩ := h.fn_ hr
  rw [hno] at x2
  have HLA : Hid (∀ W', Below W.heap.size W W' → Calls Try.prog 24 #[.pointer (some ⟨rb, 0, none⟩)] W' fun e w' => e = .returned (.pointer (some ⟨fb, 0, none⟩)) ∧ Below W.heap.size W w') := Lib.hid fun W' hb => (last_any (h.on hb) hf hs).mono fun e w' hw => ⟨hw.1, hb.trans (hw.2.mono hb.size)⟩
  have HPU : Hid (∀ W', Below W.heap.size W W' → Calls Try.prog 37 #[.pointer (some ⟨fb, 0, none⟩), .int .u64 v] W' fun e w' => e = .returned (.tuple #[]) ∧ RunX w0 rb tg fa fo n c rs (st.top (t.push v) bl) ((fb, b) :: gl) pbs w') := Lib.hid fun W' hb => push_any v (h.on hb) hf hl
  have HD := Lib.hid hd
  clear h hf hd hr hno hl hs
  go_enter Try.func107, Try.ntmps107
  go_upto_region 1 with fail
  go_cut [] (fun wx => Hid (RunX w0 rb tg fa fo n c rs (st.top (t.push v) bl) ((fb, b) :: gl) pbs wx))
  case first =>
    go_region_law (first
      | (go_simp; go_at_call 24; refine (HLA.out _ (by first | exact Below.refl _ _ | exact (Below.refl _ _).drew)).mono ?_; rintro e w2 ⟨rfl, hb2⟩; have d5 := (hb2.cell (p := ⟨fz, 5, none⟩) hz).trans c5; have hz2 := Nat.lt_of_lt_of_le hz hb2.size; have HB2 := Lib.hid hb2; clear hb2)
      | (go_simp; go_at_call 37; refine (HPU.out _ (by exact HB2.out)).mono ?_; rintro e w3 ⟨rfl, h3⟩; have H3 := Lib.hid h3; clear h3))
    all_goals
      go_wp2
      go_meet
    all_goals
      exact H3
  case rest =>
    obtain ⟨hrb2, _, _, _, d6, _, _, ff⟩ := hcut.out.cells
    have f6 := ff 6
    have HF := Lib.hid (hcut.out.setDoing 0 (by exact HD.out) (by omega))
    clear ff hcut
    go_wp2
    go_end0
    exact ⟨rfl, HF.out⟩
set_option maxRecDepth 100000 in
set_option maxHeartbeats 1600000 in
theorem ended_panic_no (v : Int) (ps : List (Int × Bool)) (h : RunX w0 rb tg fa fo n c rs st gl (b :: pbs) W) (hp : st.panics = (v, false) :: ps) (hd : st.doing ≠ 3) (hz : fz < W.heap.size) (c6 : W.cell? ⟨fz, 6, none⟩ = some (.pointer (some ⟨b, 0, none⟩))) :
    Calls Try.prog 108 #[.pointer (some ⟨fz, 0, none⟩), .pointer (some ⟨rb, 0, none⟩)] W fun e w' => e = .returned (.tuple #[]) ∧ RunX w0 rb tg fa fo n c rs { st with doing := 2 } gl (b :: pbs) w' := by
  obtain ⟨_, _, _, _, _, _, hbz, _, _, b1⟩ := h.actv hp
  obtain ⟨hrz, _, _, _, d6, _, _, ff⟩ := h.cells
  have f6 := ff 6
  have HF := Lib.hid (h.setDoing 2 hd (by omega))
  clear h hp hd ff
  go_enter Try.func108, Try.ntmps108
  go_wp2
  exact bodyPost_ret (v := .tuple #[]) (by simp [results, Try.results108, go_sem]) rfl ⟨rfl, HF.out⟩
set_option maxRecDepth 100000 in
set_option maxHeartbeats 1600000 in
theorem ended_panic_yes (v x : Int) (b0 : Nat) (ps : List (Int × Bool)) (h : RunX w0 rb tg fa fo n c rs st ((fb, b0) :: gl) (b :: pbs) W) (hf : st.frames = t :: bl) (hp : st.panics = (v, true) :: ps) (hd : st.doing ≠ 3) (hs : bl.length ≤ 1048577) (hl : ps.length ≤ 1048577) (hz : fz < W.heap.size) (c6 : W.cell? ⟨fz, 6, none⟩ = some (.pointer (some ⟨b, 0, none⟩)))
    (HK : ∀ W', RunX w0 rb tg fa fo n c rs { st with panics := ps } ((fb, b0) :: gl) pbs W' → Calls Try.prog 109 #[.pointer (some ⟨rb, 0, none⟩), .pointer (some ⟨fb, 0, none⟩)] W' fun e w' => e = .returned (.int .u64 x) ∧ Below W'.heap.size W' w') :
    Calls Try.prog 108 #[.pointer (some ⟨fz, 0, none⟩), .pointer (some ⟨rb, 0, none⟩)] W fun e w' => e = .returned (.tuple #[]) ∧ RunX w0 rb tg fa fo n c rs { st.top { t with number := x } bl with panics := ps } ((fb, b0) :: gl) pbs w' := by
  obtain ⟨hbz, b1⟩ : b < W.heap.size ∧ W.cell? ⟨b, 1, none⟩ = some (.bool true) := by
    obtain ⟨_, _, _, _, _, _, h1, _, _, h2⟩ := h.actv hp
    exact ⟨h1, h2⟩
  obtain ⟨q, cq, x4, hcq, h1⟩ := h.cutPans hp hd
  obtain ⟨hrz, _, _, _, _, _, _, ff⟩ := h.cells
  have f4 := ff 4
  obtain ⟨m, hm⟩ : ∃ m, m = ps.length := ⟨_, rfl⟩
  rw [← hm] at x4 hcq hl h1
  have hm1 : ((m : Int) + 1) - 1 = (m : Int) := by omega
  have H1 := Lib.hid h1
  have HLA : Hid (∀ W', RunX w0 rb tg fa fo n c rs { st with panics := ps } ((fb, b0) :: gl) pbs W' → Calls Try.prog 24 #[.pointer (some ⟨rb, 0, none⟩)] W' fun e w' => e = .returned (.pointer (some ⟨fb, 0, none⟩)) ∧ RunX w0 rb tg fa fo n c rs { st with panics := ps } ((fb, b0) :: gl) pbs w') := Lib.hid fun W' hb => (last_any hb hf hs).mono fun e w' hw => ⟨hw.1, hb.on hw.2⟩
  have HKP : Hid (∀ W', RunX w0 rb tg fa fo n c rs { st with panics := ps } ((fb, b0) :: gl) pbs W' → Calls Try.prog 109 #[.pointer (some ⟨rb, 0, none⟩), .pointer (some ⟨fb, 0, none⟩)] W' fun e w' => e = .returned (.int .u64 x) ∧ RunX w0 rb tg fa fo n c rs { st with panics := ps } ((fb, b0) :: gl) pbs w') := Lib.hid fun W' hb => (HK W' hb).mono fun e w' hw => ⟨hw.1, hb.on hw.2⟩
  have HFN : Hid (∀ W', RunX w0 rb tg fa fo n c rs { st with panics := ps } ((fb, b0) :: gl) pbs W' → fb < W'.heap.size ∧ W'.cell? ⟨fb, 5, none⟩ = some (.int .u64 t.number) ∧ W'.frozen? ⟨fb, 5, none⟩ = false ∧ RunX w0 rb tg fa fo n c rs { st.top { t with number := x } bl with panics := ps } ((fb, b0) :: gl) pbs (W'.setCell ⟨fb, 5, none⟩ (.int .u64 x))) := Lib.hid fun W' hb => by
    obtain ⟨a1, _, _, _, _, a5, _, a7⟩ := hb.top hf
    exact ⟨a1, a5, a7, hb.setNumber hf x⟩
  clear h hf hp hd hs HK ff h1 hm
  go_enter Try.func108, Try.ntmps108
  go_wp2
  go_region
  go_wp2_with (go_at_call 24; refine (HLA.out _ (H1.out.on (by first | exact Below.refl _ _ | exact (Below.refl _ _).drew))).mono ?_; rintro e w2 ⟨rfl, h2⟩; have H2 := Lib.hid h2; clear h2; refine Hid.out ?_)
  have hfb2 := (HFN.out _ H2.out).1
  refine Lib.hid ?_
  go_wp2_with (go_at_call 109; refine (HKP.out _ (by first | exact H2.out | exact H2.out.on (Below.refl _ _).drew)).mono ?_; rintro e w3 ⟨rfl, h3⟩; obtain ⟨a1, a5, a7, hX⟩ := HFN.out _ h3; have HX := Lib.hid hX; clear h3 hX)
  all_goals
    go_end0
    exact ⟨rfl, HX.out⟩
end
end Go.Proofs.Ytdoabcmfblmklaa
