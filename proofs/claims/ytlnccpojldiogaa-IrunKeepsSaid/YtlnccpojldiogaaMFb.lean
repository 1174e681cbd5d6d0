/-
  Texts of one seat, one behind the other: IKeepM, IKeepR, IKeep.
-/
import Derived.Test.YtlnccpojldiogaaMEd
import Derived.Test.YtlnccpojldiogaaMFa

/-
  IrunKeeps: main calls leaf, read bound: reckoned.
-/
namespace Go.Proofs.Ytlnccpojldiogaa
set_option linter.unusedVariables false
set_option linter.unusedSimpArgs false

section
variable {rs : List RG} {st st1 st2 : IMc} {t : IFr} {bl : List IFr} {r : RG} {nd : RN} {x : Nat}
/-- at most two frames, without deferred calls, and no panic -/
structure Few (rs : List RG) (st : IMc) : Prop where
  hid : st.hidn = 0
  kb : st.kb = []
  waiting : st.waiting = 0
  pans : st.panics = []
  evs : st.evs = []
  maxp : st.maxp = 0
  defers : st.defers = 0
  depth : st.depth ≤ 2
  begun : st.begun ≤ 2
  len : st.frames.length ≤ 2
  frs : ∀ t ∈ st.frames, t.defs = [] ∧ t.why ≤ 1 ∧ t.serial ≤ 1 ∧ ∃ r, rs[t.f]? = some r
  down : SerDown st.frames
theorem Few.ibd (h : Few rs st) : IBd rs true st := by
  have h1 := h.len
  have h2 := h.depth
  have h3 := h.begun
  have h4 := h.waiting
  have h5 := h.maxp
  have h6 := h.defers
  refine ⟨h.hid, h.kb, by omega, by omega, by omega, by omega, by omega, by rw [h.pans]; simp, by omega, by rw [h.evs]; simp, fun y hy => (h.frs y hy).2.2.2, fun y hy => ?_, fun y hy d hd => ?_, (fun hb => by cases hb), h.down, fun y hy => ?_, fun y hy => ?_⟩
  · rw [(h.frs y hy).1]; simp
  · rw [(h.frs y hy).1] at hd; cases hd
  · have := (h.frs y hy).2.1; omega
  · have := (h.frs y hy).2.2.1; omega
theorem Few.step {N : Nat} (hv : valid (grs rs) true) (hf : st.frames = t :: bl) (h : Few rs (({ st with steps := st.steps + 1 } : IMc).top { t with at_ := nd.nd.next } bl)) (hd : st.doing = 0) (hs : st.steps ≤ 100000) (hr : rs[t.f]? = some r) (hnd : r.ns[x]? = some nd) (hat : t.at_ = (x : Int)) (hop : nd.nd.op ≠ 2) (hmem : nd.nd ∈ r.gr.nodes)
    (hwd : ∀ p, PlOk r p → isW (getP (grs rs) true st.regs { t with at_ := nd.nd.next } p))
    (hx : execI (grs rs) true { st with steps := st.steps + 1 } { t with at_ := nd.nd.next } bl nd.nd = some st1) (hset : settleI (grs rs) true N st1 = some st2) (hbs : IBds rs true N st1) (hs2 : st2.steps = st.steps + 1) (he : st2.evs = []) : StepB rs true st st2 := by
  have hl := h.len
  have hrt : rs[({ t with at_ := nd.nd.next } : IFr).f]? = some r := hr
  refine ⟨t, bl, r, nd, x, st1, N, hf, h.hid, hr, hnd, hat, by omega, ?_, join_any (fun h2 => absurd h2 hop) waitOK_bound hv hrt hmem h.ibd hd hwd hx, hx, hset, hbs, hs2, by rw [he]; simp⟩
  have : bl.length + 1 ≤ 2 := hl
  omega
def mainN (p v : Int) : List Nd := [⟨1, 0, p, 0, 0, 0, 0, 0, v, [], 1, 0⟩, ⟨11, 0, 0, 0, 0, 0, 1, 0, 0, [], 2, 0⟩, ⟨18, 0, 0, 0, p, 0, 0, 0, 0, [], 0, 0⟩]
def leafNd (u : Int) (i : Nat) : Nd := ⟨1, 0, (i : Int), 0, 0, 0, 0, 0, u, [], ((i + 1 : Nat) : Int), 0⟩
def leafRet : Nd := ⟨12, 0, 0, 0, 3, 0, 0, 0, 0, [], 0, 0⟩
def leafN (u : Int) : List Nd := (List.range 16).map (leafNd u) ++ [leafRet]
def mainGr (p v : Int) : Gr := ⟨[], List.replicate 16 0, 0, [], false, -1, mainN p v, 0⟩
def leafGr (u : Int) : Gr := ⟨[], List.replicate 16 0, 0, [], true, -1, leafN u, 0⟩
def keepG (p v u : Int) : List Gr := [mainGr p v, leafGr u]
def mainFr (a : Int) (bef : List Int) : IFr := ⟨0, 0, 0, a, fun _ => 0, [], 0, 0, bef⟩
def leafFr (a num : Int) : IFr := ⟨1, 1, 1, a, fun _ => 0, [], num, 0, List.replicate 16 0⟩
def keepM (regs : List Int) (a : Int) (bef : List Int) (n k : Nat) : IMc := ⟨[], [], [mainFr a bef], k, [], 0, 0, 0, 0, n, k, 0, 0, regs, 0, []⟩
def keepL (regs : List Int) (a num : Int) (bef : List Int) (n : Nat) (d : Int) : IMc := ⟨[], [], [leafFr a num, mainFr 2 bef], 2, [], 0, d, 0, 0, n, 2, 0, 0, regs, 0, []⟩
/-- what a run of it needs to know -/
structure KeepE (rs : List RG) (p : Nat) (v u : Int) (r0 r1 : RG) : Prop where
  g : grs rs = keepG p v u
  vl : valid (keepG p v u) true
  z0 : rs[0]? = some r0
  z1 : rs[1]? = some r1
  n0 : nds r0.ns = mainN p v
  n1 : nds r1.ns = leafN u
  g0 : r0.gr = mainGr p v
  g1 : r1.gr = leafGr u
  lt : p < 16
  vw : isW v
  uw : isW u
variable {p : Nat} {v u a num : Int} {r0 r1 : RG} {regs bef : List Int} {n k i : Nat}
theorem few_main (E : KeepE rs p v u r0 r1) (hk : k ≤ 2) : Few rs (keepM regs a bef n k) := by
  refine ⟨rfl, rfl, rfl, rfl, rfl, rfl, rfl, hk, hk, by show 1 ≤ 2; omega, fun t ht => ?_, ?_⟩
  · have e : t = mainFr a bef := by
      have : t ∈ [mainFr a bef] := ht
      simpa using this
    subst e
    exact ⟨rfl, Nat.zero_le _, Nat.zero_le _, r0, E.z0⟩
  · show SerDown [mainFr a bef]
    intro i j x y hi hj hij
    cases j with
    | zero => omega
    | succ j => cases hj
theorem few_leaf (E : KeepE rs p v u r0 r1) {d : Int} : Few rs (keepL regs a num bef n d) := by
  refine ⟨rfl, rfl, rfl, rfl, rfl, rfl, rfl, Nat.le_refl 2, Nat.le_refl 2, Nat.le_refl 2, fun t ht => ?_, ?_⟩
  · have : t ∈ [leafFr a num, mainFr 2 bef] := ht
    simp only [List.mem_cons, List.not_mem_nil, or_false] at this
    rcases this with rfl | rfl
    · exact ⟨rfl, Nat.le_refl _, Nat.le_refl _, r1, E.z1⟩
    · exact ⟨rfl, Nat.zero_le _, Nat.zero_le _, r0, E.z0⟩
  · show SerDown [leafFr a num, mainFr 2 bef]
    intro i j x y hi hj hij
    match i, j, hi, hj, hij with
    | 0, 1, hi, hj, _ =>
      injection hi with hi
      injection hj with hj
      subst hi hj
      show 0 < 1
      omega
    | 0, j + 2, _, hj, _ => cases hj
    | i + 1, 1, _, _, h => omega
    | i + 1, j + 2, _, hj, _ => cases hj
    | i, 0, _, _, h => omega
theorem reg_wd (hR : ∀ x ∈ regs, isW x) (hw : t.words = fun _ => 0) (gs : List Gr) (q : Int) : isW (getP gs true regs t q) := by
  unfold getP
  split
  · rw [List.getD_eq_getElem?_getD]
    cases hq : regs[q.toNat]? with
    | none => exact ⟨by decide, by decide⟩
    | some y => exact hR y (List.mem_of_getElem? hq)
  · rw [hw]
    exact (show isW 0 from ⟨by decide, by decide⟩)
theorem isW_set (hR : ∀ x ∈ regs, isW x) (hv : isW v) (j : Nat) : ∀ x ∈ regs.set j v, isW x := fun x hx => by
  rcases List.mem_or_eq_of_mem_set hx with h | h
  · exact hR x h
  · rw [h]; exact hv
theorem at_nds {ns : List RN} {l : List Nd} {m : Nd} {j : Nat} (h : nds ns = l) (hm : l[j]? = some m) : ∃ nd, ns[j]? = some nd ∧ nd.nd = m := by
  rw [← h] at hm
  unfold nds at hm
  rw [List.getElem?_map] at hm
  obtain ⟨nd, h1, h2⟩ := Option.map_eq_some_iff.1 hm
  exact ⟨nd, h1, h2⟩
theorem settle_zero (gs : List Gr) (h : st.doing = 0 ∨ st.doing = 3) : settleI gs true 1 st = some st := by
  unfold settleI
  rw [if_neg (by omega)]
theorem keep_first (E : KeepE rs p v u r0 r1) (hR : ∀ x ∈ regs, isW x) (hn : n ≤ 1000) : StepB rs true (keepM regs 0 bef n 1) (keepM (regs.set p v) 1 bef (n + 1) 1) := by
  obtain ⟨nd, h1, h2⟩ := at_nds (j := 0) (m := ⟨1, 0, p, 0, 0, 0, 0, 0, v, [], 1, 0⟩) E.n0 rfl
  have hlt := E.lt
  refine Few.step (t := mainFr 0 bef) (bl := []) (N := 1) (st1 := keepM (regs.set p v) 1 bef (n + 1) 1) (x := 0) (by rw [E.g]; exact E.vl) rfl (few_main E (show 1 ≤ 2 by omega)) rfl (by show n ≤ _; omega) E.z0 h1 rfl (by rw [h2]; show (1 : Int) ≠ 2; decide) (by rw [h2, E.g0]; exact List.mem_of_getElem? (i := 0) rfl) (fun q _ => reg_wd hR rfl _ _) ?_ (settle_zero _ (.inl rfl)) ⟨(few_main E (show 1 ≤ 2 by omega)).ibd, fun _ _ => trivial⟩ rfl rfl
  rw [h2]
  have hc : true = true ∧ (p : Int) < 16 := ⟨rfl, by omega⟩
  unfold execI
  rw [if_pos rfl]
  unfold IMc.put putT putR
  show some ({ keepM regs 0 bef n 1 with steps := n + 1, frames := (if true = true ∧ (p : Int) < 16 then _ else _) :: [], regs := if true = true ∧ (p : Int) < 16 then _ else _ } : IMc) = _
  rw [if_pos hc, if_pos hc, Int.toNat_natCast]
  rfl
theorem keep_call (E : KeepE rs p v u r0 r1) (hR : ∀ x ∈ regs, isW x) (hn : n ≤ 1000) : StepB rs true (keepM regs 1 bef n 1) (keepL regs 0 0 regs (n + 1) 0) := by
  obtain ⟨nd, h1, h2⟩ := at_nds (j := 1) (m := ⟨11, 0, 0, 0, 0, 0, 1, 0, 0, [], 2, 0⟩) E.n0 rfl
  refine Few.step (t := mainFr 1 bef) (bl := []) (N := 1) (st1 := keepL regs 0 0 regs (n + 1) 0) (x := 1) (by rw [E.g]; exact E.vl) rfl (few_main E (show 1 ≤ 2 by omega)) rfl (by show n ≤ _; omega) E.z0 h1 rfl (by rw [h2]; show (11 : Int) ≠ 2; decide) (by rw [h2, E.g0]; exact List.mem_of_getElem? (i := 1) rfl) (fun q _ => reg_wd hR rfl _ _) ?_ (settle_zero _ (.inl rfl)) ⟨(few_leaf E).ibd, fun _ _ => trivial⟩ rfl rfl
  rw [h2, E.g]
  rfl
theorem keep_const (E : KeepE rs p v u r0 r1) (hR : ∀ x ∈ regs, isW x) (hn : n ≤ 1000) (hi : i < 16) : StepB rs true (keepL regs i 0 bef n 0) (keepL (regs.set i u) ((i + 1 : Nat) : Int) 0 bef (n + 1) 0) := by
  have hat : (leafN u)[i]? = some (leafNd u i) := by
    unfold leafN
    rw [List.getElem?_append_left (by simpa using hi), List.getElem?_map, List.getElem?_range hi]
    rfl
  obtain ⟨nd, h1, h2⟩ := at_nds E.n1 hat
  refine Few.step (t := leafFr i 0) (bl := [mainFr 2 bef]) (N := 1) (st1 := keepL (regs.set i u) ((i + 1 : Nat) : Int) 0 bef (n + 1) 0) (x := i) (by rw [E.g]; exact E.vl) rfl (few_leaf E) rfl (by show n ≤ _; omega) E.z1 h1 rfl (by rw [h2]; show (1 : Int) ≠ 2; decide) (by rw [h2, E.g1]; exact List.mem_of_getElem? (i := i) hat) (fun q _ => reg_wd hR rfl _ _) ?_ (settle_zero _ (.inl rfl)) ⟨(few_leaf E).ibd, fun _ _ => trivial⟩ rfl rfl
  rw [h2]
  have hc : true = true ∧ (i : Int) < 16 := ⟨rfl, by omega⟩
  unfold execI
  rw [if_pos (show (leafNd u i).op = 1 from rfl)]
  unfold IMc.put putT putR
  show some ({ keepL regs i 0 bef n 0 with steps := n + 1, frames := (if true = true ∧ (i : Int) < 16 then _ else _) :: [mainFr 2 bef], regs := if true = true ∧ (i : Int) < 16 then _ else _ } : IMc) = _
  rw [if_pos hc, if_pos hc, show (leafNd u i).d.toNat = i from Int.toNat_natCast i]
  rfl
theorem keep_ret (E : KeepE rs p v u r0 r1) (hR : ∀ x ∈ regs, isW x) (hn : n ≤ 1000) : StepB rs true (keepL regs 16 0 bef n 0) (keepM (resumeR true bef true (regs.getD 3 0)) 2 bef (n + 1) 2) := by
  obtain ⟨nd, h1, h2⟩ := at_nds (j := 16) (m := leafRet) E.n1 rfl
  have hs1 : settleI1 (grs rs) true (keepL regs 0 (regs.getD 3 0) bef (n + 1) 1) = some (keepM (resumeR true bef true (regs.getD 3 0)) 2 bef (n + 1) 2) := by
    rw [E.g]
    rfl
  refine Few.step (t := leafFr 16 0) (bl := [mainFr 2 bef]) (N := 2) (st1 := keepL regs 0 (regs.getD 3 0) bef (n + 1) 1) (x := 16) (by rw [E.g]; exact E.vl) rfl (few_leaf E) rfl (by show n ≤ _; omega) E.z1 h1 rfl (by rw [h2]; show (12 : Int) ≠ 2; decide) (by rw [h2, E.g1]; exact List.mem_of_getElem? (i := 16) rfl) (fun q _ => reg_wd hR rfl _ _) ?_ ?_ ⟨(few_leaf E).ibd, fun st' h => ?_⟩ rfl rfl
  · rw [h2]
    rfl
  · unfold settleI
    rw [if_pos (.inl rfl), hs1]
    exact settle_zero _ (.inl rfl)
  · rw [hs1] at h
    injection h with h
    subst h
    exact ⟨(few_main E (Nat.le_refl _)).ibd, fun _ _ => trivial⟩
theorem keep_exit (E : KeepE rs p v u r0 r1) (hR : ∀ x ∈ regs, isW x) (hn : n ≤ 1000) : StepB rs true (keepM regs 2 bef n 2) ((keepM regs 0 bef (n + 1) 2).over 1 (regs.getD p 0)) := by
  obtain ⟨nd, h1, h2⟩ := at_nds (j := 2) (m := ⟨18, 0, 0, 0, p, 0, 0, 0, 0, [], 0, 0⟩) E.n0 rfl
  have hlt := E.lt
  have hfw : Few rs ((keepM regs 0 bef (n + 1) 2).over 1 (regs.getD p 0)) := by
    obtain ⟨q1, q2, q3, q4, q5, q6, q7, q8, q9, q10, q11, q12⟩ := few_main (regs := regs) (a := 0) (bef := bef) (n := n + 1) E (Nat.le_refl 2)
    exact ⟨q1, q2, q3, q4, q5, q6, q7, q8, q9, q10, q11, q12⟩
  refine Few.step (t := mainFr 2 bef) (bl := []) (N := 1) (st1 := (keepM regs 0 bef (n + 1) 2).over 1 (regs.getD p 0)) (x := 2) (by rw [E.g]; exact E.vl) rfl (few_main E (Nat.le_refl _)) rfl (by show n ≤ _; omega) E.z0 h1 rfl (by rw [h2]; show (18 : Int) ≠ 2; decide) (by rw [h2, E.g0]; exact List.mem_of_getElem? (i := 2) rfl) (fun q _ => reg_wd hR rfl _ _) ?_ (settle_zero _ (.inr rfl)) ⟨hfw.ibd, fun _ _ => trivial⟩ rfl rfl
  rw [h2]
  have hg : getP (grs rs) true regs (mainFr 0 bef) (p : Int) = regs.getD p 0 := by
    unfold getP
    rw [if_pos ⟨rfl, by omega⟩, Int.toNat_natCast]
  unfold execI
  repeat rw [if_neg (by decide)]
  rw [if_pos rfl]
  show some ((IMc.top _ _ _).over 1 (getP (grs rs) true regs (mainFr 0 bef) (p : Int))) = _
  rw [hg]
  rfl
theorem resume_isW (hB : ∀ x ∈ bef, isW x) (hn : isW num) : ∀ x ∈ resumeR true bef true num, isW x := by
  intro x hx
  unfold resumeR at hx
  rw [if_pos rfl] at hx
  obtain ⟨j, _, rfl⟩ := List.mem_map.1 hx
  split
  · exact hn
  · split
    · rw [List.getD_eq_getElem?_getD]
      cases hq : bef[j]? with
      | none => exact ⟨by decide, by decide⟩
      | some y => exact hB y (List.mem_of_getElem? hq)
    · exact ⟨by unfold iPoison; decide, by unfold iPoison; decide⟩
theorem resume_at {q : Nat} (hq : q < 16) : (resumeR true bef true num).getD q 0 = if q = 0 then num else if 6 ≤ q ∧ q < 12 then bef.getD q 0 else iPoison := by
  unfold resumeR
  rw [if_pos rfl, List.getD_eq_getElem?_getD, List.getElem?_map, List.getElem?_range hq]
  simp
/-- what a call leaves in p -/
def keptW (p : Nat) (v u : Int) : Int := if p = 0 then u else if 6 ≤ p ∧ p < 12 then v else iPoison
theorem keep_leaf (E : KeepE rs p v u r0 r1) (hB : ∀ x ∈ bef, isW x) (hbp : bef.getD p 0 = v) (m : Nat) : ∀ (j : Nat) (regs : List Int) (n : Nat), j ≤ 16 → regs.length = 16 → (∀ x ∈ regs, isW x) → (∀ q, q < 16 - j → regs.getD q 0 = u) → n + j ≤ 500 →
    ∃ stF, RunB rs true (j + 2 + m) (keepL regs ((16 - j : Nat) : Int) 0 bef n 0) stF ∧ stF.doing = 3 ∧ stF.endk = 1 ∧ stF.endv = keptW p v u := by
  intro j
  induction j with
  | zero =>
    intro regs n _ hl hR hu hn
    have h1 := keep_ret (bef := bef) (n := n) E hR (by omega)
    have h2 := keep_exit (bef := bef) (n := n + 1) E (resume_isW (num := regs.getD 3 0) hB (by rw [hu 3 (by omega)]; exact E.uw)) (by omega)
    refine ⟨(keepM (resumeR true bef true (regs.getD 3 0)) 0 bef (n + 1 + 1) 2).over 1 ((resumeR true bef true (regs.getD 3 0)).getD p 0), ?_, rfl, rfl, ?_⟩
    · rw [show 0 + 2 + m = m + 1 + 1 by omega]
      refine runB_cons rfl h1 (runB_cons rfl h2 ?_)
      cases m with
      | zero => rfl
      | succ m => unfold RunB; rw [if_pos (show ((keepM (resumeR true bef true (regs.getD 3 0)) 0 bef (n + 1 + 1) 2).over 1 ((resumeR true bef true (regs.getD 3 0)).getD p 0)).doing = 3 from rfl)]
    · show (resumeR true bef true (regs.getD 3 0)).getD p 0 = _
      rw [resume_at E.lt, hu 3 (by omega), hbp]
      rfl
  | succ j ih =>
    intro regs n hj hl hR hu hn
    have h1 := keep_const (bef := bef) (n := n) (i := 16 - (j + 1)) E hR (by omega) (by omega)
    obtain ⟨stF, r1, r2, r3, r4⟩ := ih (regs.set (16 - (j + 1)) u) (n + 1) (by omega) (by simpa using hl) (isW_set hR E.uw _) (fun q hq => by
      rw [List.getD_eq_getElem?_getD, List.getElem?_set]
      split
      · rw [if_pos (by omega)]
        rfl
      · rw [← List.getD_eq_getElem?_getD]
        exact hu q (by omega)) (by omega)
    refine ⟨stF, ?_, r2, r3, r4⟩
    rw [show j + 1 + 2 + m = (j + 2 + m) + 1 by omega]
    rw [show 16 - j = 16 - (j + 1) + 1 by omega] at r1
    exact runB_cons rfl h1 r1
theorem keep_start (p v u : Int) : startI (keepG p v u) true [] = keepM (List.replicate 16 0) 0 (List.replicate 16 0) 0 1 := rfl
/-- the whole run -/
theorem keep_all (E : KeepE rs p v u r0 r1) : ∃ stF, RunB rs true 100 (startI (grs rs) true []) stF ∧ stF.doing = 3 ∧ stF.endk = 1 ∧ stF.endv = keptW p v u := by
  have hlt := E.lt
  rw [E.g, keep_start]
  have hz : ∀ x ∈ List.replicate 16 (0 : Int), isW x := fun x hx => by rw [(List.mem_replicate.1 hx).2]; exact ⟨by decide, by decide⟩
  have h0 := keep_first (bef := List.replicate 16 0) (n := 0) E hz (by omega)
  have hs := isW_set hz E.vw p
  have h1 := keep_call (bef := List.replicate 16 0) (n := 0 + 1) E hs (by omega)
  obtain ⟨stF, r1, r2, r3, r4⟩ := keep_leaf E hs (by
    rw [List.getD_eq_getElem?_getD, List.getElem?_set, if_pos rfl, if_pos (by simpa using hlt)]
    rfl) 80 16 ((List.replicate 16 0).set p v) (0 + 1 + 1) (Nat.le_refl _) (by simp) hs (fun q hq => by omega) (by omega)
  exact ⟨stF, runB_cons rfl h0 (runB_cons rfl h1 r1), r2, r3, r4⟩
theorem keep_valid (v u : Int) {p : Nat} (hp : p < 16) : valid (keepG p v u) true := by
  have h : p = 0 ∨ p = 1 ∨ p = 2 ∨ p = 3 ∨ p = 4 ∨ p = 5 ∨ p = 6 ∨ p = 7 ∨ p = 8 ∨ p = 9 ∨ p = 10 ∨ p = 11 ∨ p = 12 ∨ p = 13 ∨ p = 14 ∨ p = 15 := by omega
  rcases h with rfl | rfl | rfl | rfl | rfl | rfl | rfl | rfl | rfl | rfl | rfl | rfl | rfl | rfl | rfl | rfl <;> exact of_decide_eq_true (by kernel_rfl)
end
end Go.Proofs.Ytlnccpojldiogaa

/-
  IrunKeeps: the two graphs in memory; the run.
-/
namespace Go.Proofs.Ytlnccpojldiogaa
set_option linter.unusedVariables false
set_option linter.unusedSimpArgs false
open Go.ChangeShapes Go.WideShapes Go.ChangeAt Go.RowKit

/-- leaf's nodes as rows -/
def lfN (u : Int) (i : Nat) : List RN := (List.range i).map fun j => ⟨leafNd u j, none, 0⟩
theorem lfN_succ (u : Int) (i : Nat) : lfN u (i + 1) = lfN u i ++ [⟨leafNd u i, none, 0⟩] := by
  unfold lfN
  rw [List.range_succ, List.map_append]
  rfl
theorem lfN_len (u : Int) (i : Nat) : (lfN u i).length = i := by simp [lfN]
def lfAll (u : Int) : List RN := lfN u 16 ++ [⟨leafRet, none, 0⟩]
theorem lfAll_nds (u : Int) : nds (lfAll u) = leafN u := rfl
/-- leaf, half made: its box behind its kinds -/
structure KpI (w1 : World) (z : Nat) (ns : List RN) (n : Nat) (A : Option Addr) (c : Nat) (wr : World) : Prop where
  len : ns.length = n
  box : Blk wr (z + 1) 48 #[.slice none 0 0, .slice (some ⟨z, 0, none⟩) 16 16, .int .i64 0, .slice none 0 0, .bool true, .int .i64 (-1), .slice A n c, .int .i64 0]
  kinds : Blk wr z 67 (u8c (List.replicate 16 0)).toArray
  own : wr.ownsRow w1.heap.size 45 12 (.slice A n c) n (rnc ns)
  below : Below w1.heap.size w1 wr
theorem KpI.push {w1 wr w' : World} {z c n : Nat} {ns : List RN} {A : Option Addr} {v' : Value} {o : Obj} {nd : RN} (h : KpI w1 z ns n A c wr) (hz : w1.heap.size ≤ z) (hown : w'.ownsRow w1.heap.size 45 12 v' (n + 1) (rnc ns ++ rnOne nd)) (hgr : (wr.alloc o).grownBy w' (Value.slice A n c).ownBlock) :
    ∃ A' c', v' = .slice A' (n + 1) c' ∧ w'.frozen? ⟨z + 1, 6, none⟩ = false ∧ w'.cell? ⟨z + 1, 6, none⟩ = some (.slice A n c) ∧ Hid (Blk w' (z + 1) 48 #[.slice none 0 0, .slice (some ⟨z, 0, none⟩) 16 16, .int .i64 0, .slice none 0 0, .bool true, .int .i64 (-1), .slice A n c, .int .i64 0]) ∧ Hid (KpI w1 z (ns ++ [nd]) (n + 1) A' c' (w'.setCell ⟨z + 1, 6, none⟩ v')) := by
  obtain ⟨A', c', rfl⟩ := own_slice hown
  have hO := own_alloc h.own o
  have hb := blk_grown (h.box.alloc o) hO hgr (by decide)
  have hk := blk_grown (h.kinds.alloc o) hO hgr (by decide)
  have hbl : Below w1.heap.size w1 w' := (h.below.alloc h.below.size o).grown hgr (h.below.alloc h.below.size o).size fun k hk => (own_block_le hO hk).1
  refine ⟨A', c', rfl, hb.frozen 6, hb.cell 6, Lib.hid hb, Lib.hid ⟨by simp [h.len], hb.set_ 6 (.slice A' (n + 1) c'), hk.far (p := ⟨z + 1, 6, none⟩) (by show z ≠ z + 1; omega) _, ?_, hbl.setCell (p := ⟨z + 1, 6, none⟩) (by show w1.heap.size ≤ z + 1; omega) _⟩⟩
  rw [rnc_append, show rnc [nd] = rnOne nd by simp [rnc]]
  exact own_far hown hb (by decide) 6 _
def mnN (p v : Int) : List RN := (mainN p v).map fun m => ⟨m, none, 0⟩
def rgM (p v : Int) (m : Nat) : RG := ⟨mainGr p v, none, 0, some ⟨m, 0, none⟩, 16, none, 0, some ⟨m + 1, 0, none⟩, 3, mnN p v⟩
def rgL (u : Int) (z : Nat) (A : Option Addr) (c : Nat) : RG := ⟨leafGr u, none, 0, some ⟨z, 0, none⟩, 16, none, 0, A, c, lfAll u⟩
theorem wfn_mk {op d a f m nx : Int} (h0 : 0 ≤ op ∧ op ≤ 255) (hd : I64 d) (ha : I64 a) (hf : I64 f) (hm : isW m) (hn : I64 nx) : WfN ⟨op, 0, d, 0, a, 0, f, 0, m, [], nx, 0⟩ := by
  have z : I64 0 := i64_lit (by omega)
  exact ⟨h0.1, h0.2, Int.le_refl 0, (show (0 : Int) ≤ 255 by omega), hd, z, ha, z, hf, z, hm.1, Int.le_of_lt_add_one hm.2, (fun x h => by cases h), hn, z, (show 0 * 8 ≤ 140737488351232 by omega)⟩
theorem isW_zero' : isW 0 := ⟨by decide, by decide⟩
theorem leaf_wfn {u : Int} (hu : isW u) : ∀ m ∈ leafN u, WfN m := by
  intro m hm
  unfold leafN at hm
  rcases List.mem_append.1 hm with h | h
  · obtain ⟨j, hj, rfl⟩ := List.mem_map.1 h
    have hj : j < 16 := by simpa using hj
    exact wfn_mk (by omega) (i64_lit (by omega)) (i64_lit (by omega)) (i64_lit (by omega)) hu (i64_lit (by omega))
  · obtain rfl : m = leafRet := by simpa using h
    exact wfn_mk (by omega) (i64_lit (by omega)) (i64_lit (by omega)) (i64_lit (by omega)) isW_zero' (i64_lit (by omega))
theorem main_wfn {v : Int} {p : Nat} (hv : isW v) (hp : p < 16) : ∀ m ∈ mainN p v, WfN m := by
  intro m hm
  simp only [mainN, List.mem_cons, List.not_mem_nil, or_false] at hm
  rcases hm with rfl | rfl | rfl
  · exact wfn_mk (by omega) (i64_lit (by omega)) (i64_lit (by omega)) (i64_lit (by omega)) hv (i64_lit (by omega))
  · exact wfn_mk (by omega) (i64_lit (by omega)) (i64_lit (by omega)) (i64_lit (by omega)) isW_zero' (i64_lit (by omega))
  · exact wfn_mk (by omega) (i64_lit (by omega)) (i64_lit (by omega)) (i64_lit (by omega)) isW_zero' (i64_lit (by omega))
theorem kinds16 : Byt (List.replicate 16 (0 : Int)) := by intro b hb; rw [(List.mem_replicate.1 hb).2]; decide
theorem leaf_wfg {u : Int} (hu : isW u) : WfG (leafGr u) := ⟨(fun x h => by cases h), kinds16, ⟨by show (_ : Int) ≤ 0; decide, by show (0 : Int) ≤ _; decide⟩, (fun x h => by cases h), ⟨by show (_ : Int) ≤ -1; decide, by show (-1 : Int) ≤ _; decide⟩, leaf_wfn hu, ⟨by show (_ : Int) ≤ 0; decide, by show (0 : Int) ≤ _; decide⟩, by simp [leafGr], by simp [leafGr], by simp [leafGr], by simp [leafGr, leafN]⟩
theorem main_wfg {v : Int} {p : Nat} (hv : isW v) (hp : p < 16) : WfG (mainGr p v) := ⟨(fun x h => by cases h), kinds16, ⟨by show (_ : Int) ≤ 0; decide, by show (0 : Int) ≤ _; decide⟩, (fun x h => by cases h), ⟨by show (_ : Int) ≤ -1; decide, by show (-1 : Int) ≤ _; decide⟩, main_wfn hv hp, ⟨by show (_ : Int) ≤ 0; decide, by show (0 : Int) ≤ _; decide⟩, by simp [mainGr], by simp [mainGr], by simp [mainGr], by simp [mainGr, mainN]⟩
theorem rdn_plain {W : World} {B : Nat} (m : Nd) (h : m.args = []) : RdN W B ⟨m, none, 0⟩ := by
  refine ⟨?_, by show m.args.length ≤ _; rw [h]; exact Nat.zero_le _⟩
  show Reads W B 1 none m.args.length (i64c m.args)
  rw [h]
  exact Reads.none_
theorem keep_rd {W : World} {z m c B : Nat} {p : Nat} {v u : Int} {A : Option Addr} (hp : p < 16) (hv : isW v) (hu : isW u) (hz : z < B) (hm : m + 3 < B) (h1 : Blk W z 67 (u8c (List.replicate 16 0)).toArray) (h2 : Blk W m 67 (u8c (List.replicate 16 0)).toArray) (h3 : Blk W (m + 1) 45 (rnc (mnN p v)).toArray)
    (h4 : Blk W (m + 3) 48 (rgc [rgM p v m, rgL u z A c]).toArray) (h5 : Reads W B 12 A 17 (rnc (lfAll u))) : RdP W B (some ⟨m + 3, 0, none⟩) 2 [rgM p v m, rgL u z A c] := by
  have k1 : Reads W B 1 (some ⟨z, 0, none⟩) 16 (u8c (List.replicate 16 0)) := reads_blk h1 (by omega) (by simp [u8c])
  have k2 : Reads W B 1 (some ⟨m, 0, none⟩) 16 (u8c (List.replicate 16 0)) := reads_blk h2 (by omega) (by simp [u8c])
  have k3 : Reads W B 12 (some ⟨m + 1, 0, none⟩) 3 (rnc (mnN p v)) := reads_blk h3 (by omega) (by rw [length_rnc]; rfl)
  have k4 : Reads W B 8 (some ⟨m + 3, 0, none⟩) 2 (rgc [rgM p v m, rgL u z A c]) := reads_blk h4 (by omega) (by rw [length_rgc]; rfl)
  clear h1 h2 h3 h4
  have hr2 : ∀ r ∈ [rgM p v m, rgL u z A c], r = rgM p v m ∨ r = rgL u z A c := fun r hr => by simpa using hr
  refine ⟨k4, rfl, fun r hr => ?_, fun r hr => ?_, by omega⟩
  · rcases hr2 r hr with rfl | rfl
    · refine ⟨Reads.none_, k2, Reads.none_, ⟨k3, rfl, fun i hi => ?_, fun i hi => ?_⟩, rfl, Nat.le_refl _⟩
      · obtain ⟨nd, hm, rfl⟩ := List.mem_map.1 hi
        refine rdn_plain nd ?_
        simp only [mainN, List.mem_cons, List.not_mem_nil, or_false] at hm
        rcases hm with rfl | rfl | rfl <;> rfl
      · obtain ⟨nd, hm, rfl⟩ := List.mem_map.1 hi
        exact main_wfn hv hp nd hm
    · refine ⟨Reads.none_, k1, Reads.none_, ⟨h5, rfl, fun i hi => ?_, fun i hi => ?_⟩, lfAll_nds u, Nat.le_refl _⟩
      · have hi : i ∈ lfN u 16 ++ [⟨leafRet, none, 0⟩] := hi
        rcases List.mem_append.1 hi with h | h
        · obtain ⟨j, _, rfl⟩ := List.mem_map.1 h
          exact rdn_plain _ rfl
        · obtain rfl : i = ⟨leafRet, none, 0⟩ := by simpa using h
          exact rdn_plain _ rfl
      · refine leaf_wfn hu i.nd ?_
        rw [← lfAll_nds]
        exact List.mem_map_of_mem hi
  · rcases hr2 r hr with rfl | rfl
    · exact main_wfg hv hp
    · exact leaf_wfg hu
theorem keepE {p : Nat} {v u : Int} (hp : p < 16) (hv : isW v) (hu : isW u) (m z : Nat) (A : Option Addr) (c : Nat) : KeepE [rgM p v m, rgL u z A c] p v u (rgM p v m) (rgL u z A c) := ⟨rfl, keep_valid v u hp, rfl, rfl, rfl, lfAll_nds u, rfl, rfl, hp, hv, hu⟩
/-- what the run answers -/
def KeepPost (P : Int) (wr : World) (e : Ending) (w' : World) : Prop := ∃ A m c d0 d1 d2 d3, e = .returned (.tuple #[.agg #[.slice A m c, .int .i64 1, .int .u64 P, .int .i64 d0, .int .i64 d1, .int .i64 d2, .int .i64 d3], .int .i64 0]) ∧ Below wr.heap.size wr w'
theorem keep_runs {W : World} {z m c B : Nat} {p : Nat} {v u : Int} {A : Option Addr} (hp : p < 16) (hv : isW v) (hu : isW u) (hB : B ≤ W.heap.size) (hrd : RdP W B (some ⟨m + 3, 0, none⟩) 2 [rgM p v m, rgL u z A c]) (cc : Nat) :
    Calls Try.prog 10 #[.agg #[.slice (some ⟨m + 3, 0, none⟩) 2 cc], .bool true, .slice none 0 0, .int .i64 100] W (KeepPost (keptW p v u) W) := by
  have E := keepE hp hv hu m z A c
  obtain ⟨stF, r1, r2, r3, r4⟩ := keep_all E
  refine (run_okT resumeOK_bound B (m + 3) 0 2 cc [rgM p v m, rgL u z A c] none 0 0 [] 100 stF W hrd hB Reads.none_ (by omega) (by omega) (by rw [E.g]; exact E.vl) r1 stF (by rw [if_pos r2])).mono ?_
  rintro e w' ⟨ev, rfl, hown, h⟩
  obtain ⟨A', c', rfl⟩ := own_slice hown
  exact ⟨A', _, c', _, _, _, _, by rw [r3, r4], h⟩
/-- the world of the run -/
def keepWf (p v u : Int) (m z : Nat) (A : Option Addr) (c : Nat) (W : World) : World := ((((W.alloc (.cells (madeCells #[.int .u8 0] 16) 67)).alloc (.cells (rnc (mnN p v)).toArray 45)).alloc (.cells (rgOne (rgM p v m)).toArray 48)).alloc (.cells (rgc [rgM p v m, rgL u z A c]).toArray 48))
theorem made_16 : madeCells #[.int .u8 0] 16 = (u8c (List.replicate 16 0)).toArray := by kernel_rfl
theorem keep_run_at {w1 W : World} {z m c : Nat} {p : Nat} {v u : Int} {A : Option Addr} (h : KpI w1 z (lfAll u) 17 A c W) (hp : p < 16) (hv : isW v) (hu : isW u) (hm : W.heap.size = m) :
    Calls Try.prog 10 #[.agg #[.slice (some ⟨m + 1 + 1 + 1, 0, none⟩) 2 2], .bool true, .slice none 0 0, .int .i64 100] (keepWf p v u m z A c W) fun e w' => KeepPost (keptW p v u) (keepWf p v u m z A c W) e w' ∧ Below w1.heap.size w1 w' := by
  obtain ⟨W4, hW4⟩ : ∃ X, X = keepWf p v u m z A c W := ⟨_, rfl⟩
  have hsz : W4.heap.size = m + 4 := by rw [hW4, ← hm]; unfold keepWf; simp
  have hb : Below W.heap.size W W4 := by
    rw [hW4]
    unfold keepWf
    exact ((((Below.refl _ _).alloc (Nat.le_refl _) _).alloc (by simp) _).alloc (by simp; omega) _).alloc (by simp; omega) _
  have k2 : Blk W4 m 67 (u8c (List.replicate 16 0)).toArray := by
    rw [hW4, ← made_16, ← hm]
    unfold keepWf
    exact (((Blk.new W _ _).alloc _).alloc _).alloc _
  have k3 : Blk W4 (m + 1) 45 (rnc (mnN p v)).toArray := by
    rw [hW4]
    unfold keepWf
    have h1 := Blk.new (W.alloc (.cells (madeCells #[.int .u8 0] 16) 67)) 45 (rnc (mnN p v)).toArray
    rw [show (W.alloc (.cells (madeCells #[.int .u8 0] 16) 67)).heap.size = m + 1 by simp [hm]] at h1
    exact (h1.alloc _).alloc _
  have k4 : Blk W4 (m + 3) 48 (rgc [rgM p v m, rgL u z A c]).toArray := by
    rw [hW4]
    unfold keepWf
    have h1 := Blk.new (((W.alloc (.cells (madeCells #[.int .u8 0] 16) 67)).alloc (.cells (rnc (mnN p v)).toArray 45)).alloc (.cells (rgOne (rgM p v m)).toArray 48)) 48 (rgc [rgM p v m, rgL u z A c]).toArray
    rw [show (((W.alloc (.cells (madeCells #[.int .u8 0] 16) 67)).alloc (.cells (rnc (mnN p v)).toArray 45)).alloc (.cells (rgOne (rgM p v m)).toArray 48)).heap.size = m + 3 by simp [hm]] at h1
    exact h1
  have hzl := h.kinds.lt
  have k1 := h.kinds.below hb hzl
  have k5 : Reads W4 (m + 4) 12 A 17 (rnc (lfAll u)) := ((Reads.of_own h.own).below hb).more (by omega)
  rw [← hW4]
  have hrd := keep_rd hp hv hu (B := m + 4) (by omega) (by omega) k1 k2 k3 k4 k5
  refine (keep_runs hp hv hu (by omega) hrd 2).mono fun e w' hpost => ⟨hpost, ?_⟩
  obtain ⟨_, _, _, _, _, _, _, _, hbl⟩ := hpost
  have s1 : w1.heap.size ≤ W.heap.size := h.below.size
  have a := h.below.trans (hb.mono s1)
  exact a.trans (hbl.mono a.size)
end Go.Proofs.Ytlnccpojldiogaa

/-
  IrunKeeps: the walk.
-/
namespace Go.Proofs.Ytlnccpojldiogaa
set_option linter.unusedVariables false
set_option linter.unusedSimpArgs false
open Go.ChangeShapes Go.WideShapes Go.ChangeAt Go.RowKit

theorem umod16 (x : Int) : ∃ p : Nat, p < 16 ∧ (IntKind.u64.wrap x).tmod 16 = (p : Int) ∧ wrap64 (p : Int) = (p : Int) := by
  refine ⟨((x % 18446744073709551616) % 16).toNat, by omega, ?_, ?_⟩
  · rw [wrap_u64_eq, Int.tmod_eq_emod_of_nonneg (by omega)]
    omega
  · unfold wrap64
    omega
theorem kpI_start (w1 : World) : KpI w1 w1.heap.size [] 0 none 0 ((w1.alloc (.cells (madeCells #[.int .u8 0] 16) 67)).alloc (.cells #[.slice none 0 0, .slice (some ⟨w1.heap.size, 0, none⟩) 16 16, .int .i64 0, .slice none 0 0, .bool true, .int .i64 (-1), .slice none 0 0, .int .i64 0] 48)) := by
  rw [made_16]
  have h := Blk.new (w1.alloc (.cells (u8c (List.replicate 16 0)).toArray 67)) 48 #[.slice none 0 0, .slice (some ⟨w1.heap.size, 0, none⟩) 16 16, .int .i64 0, .slice none 0 0, .bool true, .int .i64 (-1), .slice none 0 0, .int .i64 0]
  rw [show (w1.alloc (.cells (u8c (List.replicate 16 0)).toArray 67)).heap.size = w1.heap.size + 1 by simp] at h
  exact ⟨rfl, h, (Blk.new w1 _ _).alloc _, own_none _ _ _ _, ((Below.refl _ _).alloc (Nat.le_refl _) _).alloc (by simp) _⟩
set_option maxRecDepth 100000 in
set_option maxHeartbeats 3200000 in
theorem keeps_all (HM : MoveOK false) (x v u : Int) (w : World) (hv : isW v) (hu : isW u) :
    Calls Try.prog 5 #[.int .i64 x, .int .u64 v, .int .u64 u] w fun e w' => e = .returned (.bool true) ∧ Below w.heap.size w w' := by
  have hmk : ∀ W : World, (Instr.makeSlice 40 (.int .i64 16) (.int .i64 16)).run Try.prog W = .ok (.slice (some ⟨W.heap.size, 0, none⟩) 16 16) (W.alloc (.cells (madeCells #[.int .u8 0] 16) 67)) := fun W => run_make_row' _ _ _ 1 Try.underlying40 info_kind' rfl .i64 .i64 16 (by omega) (by omega) W
  obtain ⟨p, hp, hpx, hpw⟩ := umod16 x
  have HP := Lib.hid hp
  have HV := Lib.hid hv
  have HU := Lib.hid hu
  clear hv hu hp
  go_enter Try.func5, Try.ntmps5
  go_wp2_with (go_at_call 9; refine (first8_any HM _).mono ?_; rintro e w1 ⟨rfl, hb1⟩; have HB1 := Lib.hid hb1; clear hb1; refine Hid.out ?_)
  refine Lib.hid ?_
  go_wp2
  have HI := Lib.hid (kpI_start w1)
  obtain ⟨z, hz⟩ : ∃ z, z = w1.heap.size := ⟨_, rfl⟩
  have HZ := Lib.hid (show w1.heap.size ≤ z by omega)
  rw [← hz]
  rw [show KpI w1 w1.heap.size = KpI w1 z by rw [hz]] at HI
  rw [← hz] at HI
  clear hz
  simp only [hpw]
  go_loopw [22] (fun i wr => ∃ (j : Nat) (A : Option Addr) (c : Nat), j ≤ 16 ∧ i = .int .i64 j ∧ Hid (KpI w1 z (lfN u j) j A c wr)) (fun i _ => 16 - (intOf i).toNat)
  case atStart => exact ⟨0, none, 0, by omega, rfl, HI⟩
  case round =>
    obtain ⟨j, A, c, hj, rfl, HK⟩ := hrel
    have x6 : wr.cell? ⟨z + 1, 6, none⟩ = some (.slice A j c) := HK.out.box.cell 6
    by_cases hlt : j < 16
    · have gj : IntKind.i64.wrap ((j : Int) + 1) = ((j + 1 : Nat) : Int) := by
        rw [show (j : Int) + 1 = ((j + 1 : Nat) : Int) by omega]
        exact wrap_nat' (by omega)
      go_wp2_with (at_builtin; refine app_node rfl (.tmp 26) (.tmp 32) rfl w1.heap.size (.slice A j c) j (rnc (lfN u j)) rfl (own_alloc HK.out.own _) (wr.heap.size + 1) (some ⟨wr.heap.size, 0, none⟩) 1 1 (rnOne ⟨leafNd u j, none, 0⟩) rfl (one_reads wr _ _ 12 rfl) (rnOne_one _) (by omega) (by have := HK.out.below.size; simp; omega) ?_; intro v' w' hown hgr hor; obtain ⟨A', c', rfl, f6, y6, _, HKN⟩ := HK.out.push HZ.out hown hgr; clear hown hgr hor)
      go_roundw
      case rel => exact ⟨j + 1, A', c', by omega, by go_num, by rw [lfN_succ]; exact HKN⟩
      case measure => simp [intOf]; omega
    · obtain rfl : j = 16 := by omega
      go_wp2_with (at_builtin; refine app_node rfl (.tmp 37) (.tmp 39) rfl w1.heap.size (.slice A 16 c) 16 (rnc (lfN u 16)) rfl (own_alloc HK.out.own _) (wr.heap.size + 1) (some ⟨wr.heap.size, 0, none⟩) 1 1 (rnOne ⟨leafRet, none, 0⟩) rfl (one_reads wr _ _ 12 rfl) (rnOne_one _) (by omega) (by have := HK.out.below.size; simp; omega) ?_; intro v' w' hown hgr hor; obtain ⟨A', c', rfl, f6, y6, HBX, HKN⟩ := HK.out.push HZ.out hown hgr; clear hown hgr hor; refine Hid.out ?_)
      have yk0 : ∀ a b d : Obj, ((((w'.setCell ⟨z + 1, 6, none⟩ (.slice A' 17 c')).alloc a).alloc b).alloc d).cell? ⟨z + 1, 0, none⟩ = some (.slice none 0 0) := fun a b d => (((HKN.out.box.alloc a).alloc b).alloc d).cell 0
      have yk1 : ∀ a b d : Obj, ((((w'.setCell ⟨z + 1, 6, none⟩ (.slice A' 17 c')).alloc a).alloc b).alloc d).cell? ⟨z + 1, 1, none⟩ = some (.slice (some ⟨z, 0, none⟩) 16 16) := fun a b d => (((HKN.out.box.alloc a).alloc b).alloc d).cell 1
      have yk2 : ∀ a b d : Obj, ((((w'.setCell ⟨z + 1, 6, none⟩ (.slice A' 17 c')).alloc a).alloc b).alloc d).cell? ⟨z + 1, 2, none⟩ = some (.int .i64 0) := fun a b d => (((HKN.out.box.alloc a).alloc b).alloc d).cell 2
      have yk3 : ∀ a b d : Obj, ((((w'.setCell ⟨z + 1, 6, none⟩ (.slice A' 17 c')).alloc a).alloc b).alloc d).cell? ⟨z + 1, 3, none⟩ = some (.slice none 0 0) := fun a b d => (((HKN.out.box.alloc a).alloc b).alloc d).cell 3
      have yk4 : ∀ a b d : Obj, ((((w'.setCell ⟨z + 1, 6, none⟩ (.slice A' 17 c')).alloc a).alloc b).alloc d).cell? ⟨z + 1, 4, none⟩ = some (.bool true) := fun a b d => (((HKN.out.box.alloc a).alloc b).alloc d).cell 4
      have yk5 : ∀ a b d : Obj, ((((w'.setCell ⟨z + 1, 6, none⟩ (.slice A' 17 c')).alloc a).alloc b).alloc d).cell? ⟨z + 1, 5, none⟩ = some (.int .i64 (-1)) := fun a b d => (((HKN.out.box.alloc a).alloc b).alloc d).cell 5
      have yk6 : ∀ a b d : Obj, ((((w'.setCell ⟨z + 1, 6, none⟩ (.slice A' 17 c')).alloc a).alloc b).alloc d).cell? ⟨z + 1, 6, none⟩ = some (.slice A' 17 c') := fun a b d => (((HKN.out.box.alloc a).alloc b).alloc d).cell 6
      have yk7 : ∀ a b d : Obj, ((((w'.setCell ⟨z + 1, 6, none⟩ (.slice A' 17 c')).alloc a).alloc b).alloc d).cell? ⟨z + 1, 7, none⟩ = some (.int .i64 0) := fun a b d => (((HKN.out.box.alloc a).alloc b).alloc d).cell 7
      have HRUN : Hid (Calls Try.prog 10 #[.agg #[.slice (some ⟨w'.heap.size + 1 + 1 + 1, 0, none⟩) 2 2], .bool true, .slice none 0 0, .int .i64 100] (keepWf p v u w'.heap.size z A' c' (w'.setCell ⟨z + 1, 6, none⟩ (.slice A' 17 c'))) fun e w' => _) := Lib.hid (keep_run_at (p := p) HKN.out HP.out HV.out HU.out (by simp))
      refine Lib.hid ?_
      go_wp2_with (go_at_call 10; refine HRUN.out.mono ?_; rintro e w8 ⟨⟨A8, m8, c8, d0, d1, d2, d3, rfl, _⟩, hb8⟩; have HB8 := Lib.hid hb8; clear hb8; refine Hid.out ?_)
      clear HK x6 f6 y6 HBX HKN yk0 yk1 yk2 yk3 yk4 yk5 yk6 yk7
      by_cases p0 : p = 0
      · subst p0
        have hk : keptW 0 v u = u := by unfold keptW; rw [if_pos rfl]
        rw [hk]
        have hee : ∀ W, Sem.run Try.prog (Op.equalIn 10000 32 (.agg #[.int .i64 1, .int .u64 u]) (.agg #[.int .i64 1, .int .u64 u])) W = .ok true W := fun W => by
          have := equalIn_end (1, u) (1, u) W
          simpa using this
        clear hk HRUN
        refine Lib.hid ?_
        go_wp2
        go_ret
        exact ⟨rfl, (HB1.out.trans (HB8.out.mono HB1.out.size)).alloc (HB1.out.trans (HB8.out.mono HB1.out.size)).size _⟩
      · have q0 : ((p : Int) == 0) = false := by simpa using p0
        by_cases p6 : 6 ≤ p
        · have q6 : decide ((p : Int) ≥ 6) = true := by simp; omega
          have q6' : decide ((6 : Int) ≤ (p : Int)) = true := by simp; omega
          by_cases p12 : p < 12
          · have q11 : decide ((p : Int) ≤ 11) = true := by simp; omega
            have hk : keptW p v u = v := by unfold keptW; rw [if_neg p0, if_pos ⟨p6, p12⟩]
            rw [hk]
            have hee : ∀ W, Sem.run Try.prog (Op.equalIn 10000 32 (.agg #[.int .i64 1, .int .u64 v]) (.agg #[.int .i64 1, .int .u64 v])) W = .ok true W := fun W => by
              have := equalIn_end (1, v) (1, v) W
              simpa using this
            clear hk HRUN
            refine Lib.hid ?_
            go_wp2
            go_ret
            exact ⟨rfl, (HB1.out.trans (HB8.out.mono HB1.out.size)).alloc (HB1.out.trans (HB8.out.mono HB1.out.size)).size _⟩
          · have q11 : decide ((p : Int) ≤ 11) = false := by simp; omega
            have hk : keptW p v u = 6510615555426900570 := by unfold keptW; rw [if_neg p0, if_neg (by omega)]; rfl
            rw [hk]
            have hee : ∀ W, Sem.run Try.prog (Op.equalIn 10000 32 (.agg #[.int .i64 1, .int .u64 6510615555426900570]) (.agg #[.int .i64 1, .int .u64 6510615555426900570])) W = .ok true W := fun W => by
              have := equalIn_end (1, 6510615555426900570) (1, 6510615555426900570) W
              simpa using this
            clear hk HRUN
            refine Lib.hid ?_
            go_wp2
            go_ret
            exact ⟨rfl, (HB1.out.trans (HB8.out.mono HB1.out.size)).alloc (HB1.out.trans (HB8.out.mono HB1.out.size)).size _⟩
        · have q6 : decide ((p : Int) ≥ 6) = false := by simp; omega
          have q6' : decide ((6 : Int) ≤ (p : Int)) = false := by simp; omega
          have hk : keptW p v u = 6510615555426900570 := by unfold keptW; rw [if_neg p0, if_neg (by omega)]; rfl
          rw [hk]
          have hee : ∀ W, Sem.run Try.prog (Op.equalIn 10000 32 (.agg #[.int .i64 1, .int .u64 6510615555426900570]) (.agg #[.int .i64 1, .int .u64 6510615555426900570])) W = .ok true W := fun W => by
            have := equalIn_end (1, 6510615555426900570) (1, 6510615555426900570) W
            simpa using this
          clear hk HRUN
          refine Lib.hid ?_
          go_wp2
          go_ret
          exact ⟨rfl, (HB1.out.trans (HB8.out.mono HB1.out.size)).alloc (HB1.out.trans (HB8.out.mono HB1.out.size)).size _⟩
end Go.Proofs.Ytlnccpojldiogaa
