/-
  Moves that are made all at once, one after the other, as plain lists: the moves that wait, how often each place is still to be read, what the words are behind a line of moves. Nothing here speaks of the code.
-/
namespace Go.Proofs.Ytedmcfaghfgpoaa
set_option linter.unusedVariables false

abbrev Mv := Int × Int
def keysL (fs : List Mv) : List Int := fs.map Prod.fst
def valsL (fs : List Mv) : List Int := fs.map Prod.snd
def delL (fs : List Mv) (c : Int) : List Mv := fs.filter (fun p => p.1 != c)
def step1 (W : Int → Int) (m : Mv) : Int → Int := fun p => if p = m.1 then W m.2 else W p
def runL (W : Int → Int) (ln : List Mv) : Int → Int := ln.foldl step1 W

theorem runL_nil (W : Int → Int) : runL W [] = W := rfl
theorem runL_snoc (W : Int → Int) (ln : List Mv) (m : Mv) : runL W (ln ++ [m]) = step1 (runL W ln) m := by simp [runL, List.foldl_append]
theorem runL_cons (W : Int → Int) (m : Mv) (ln : List Mv) : runL W (m :: ln) = runL (step1 W m) ln := rfl

theorem mem_keys {fs : List Mv} {t : Int} : t ∈ keysL fs ↔ ∃ f, (t, f) ∈ fs := by
  unfold keysL
  rw [List.mem_map]
  exact ⟨fun ⟨p, hp, e⟩ => ⟨p.2, by rw [← e]; exact hp⟩, fun ⟨f, hf⟩ => ⟨_, hf, rfl⟩⟩
theorem mem_vals {fs : List Mv} {t : Int} : t ∈ valsL fs ↔ ∃ f, (f, t) ∈ fs := by
  unfold valsL
  rw [List.mem_map]
  exact ⟨fun ⟨p, hp, e⟩ => ⟨p.1, by rw [← e]; exact hp⟩, fun ⟨f, hf⟩ => ⟨_, hf, rfl⟩⟩

theorem mem_del {fs : List Mv} {c : Int} {p : Mv} : p ∈ delL fs c ↔ p ∈ fs ∧ p.1 ≠ c := by
  unfold delL
  rw [List.mem_filter]
  simp
theorem keys_del {fs : List Mv} {c t : Int} : t ∈ keysL (delL fs c) ↔ t ∈ keysL fs ∧ t ≠ c := by
  rw [mem_keys, mem_keys]
  exact ⟨fun ⟨f, hf⟩ => ⟨⟨f, (mem_del.1 hf).1⟩, (mem_del.1 hf).2⟩, fun ⟨⟨f, hf⟩, hne⟩ => ⟨f, mem_del.2 ⟨hf, hne⟩⟩⟩

theorem del_miss : ∀ (fs : List Mv) (c : Int), c ∉ keysL fs → delL fs c = fs
  | [], _, _ => rfl
  | p :: r, c, h => by
    have h1 : p.1 ≠ c := fun e => h (by simp [keysL, e])
    have h2 : c ∉ keysL r := fun e => h (by simp only [keysL, List.map_cons, List.mem_cons]; exact Or.inr e)
    have := del_miss r c h2
    unfold delL at this ⊢
    rw [List.filter_cons_of_pos (by simpa using h1), this]

theorem nodup_tail {p : Mv} {r : List Mv} (h : (keysL (p :: r)).Nodup) : p.1 ∉ keysL r ∧ (keysL r).Nodup := by
  simpa [keysL] using h

theorem perm_del : ∀ (fs : List Mv) (c f : Int), (keysL fs).Nodup → (c, f) ∈ fs → fs.Perm ((c, f) :: delL fs c)
  | [], _, _, _, h => by cases h
  | p :: r, c, f, hn, h => by
    obtain ⟨h1, h2⟩ := nodup_tail hn
    rcases List.mem_cons.1 h with e | e
    · subst e
      have h3 : delL ((c, f) :: r) c = r := by
        have := del_miss r c h1
        unfold delL at this ⊢
        rw [List.filter_cons_of_neg (by simp), this]
      rw [h3]
    · have hne : p.1 ≠ c := fun e2 => h1 (by rw [e2]; exact mem_keys.2 ⟨f, e⟩)
      have ih := perm_del r c f h2 e
      have h3 : delL (p :: r) c = p :: delL r c := by
        unfold delL
        rw [List.filter_cons_of_pos (by simpa using hne)]
      rw [h3]
      exact (ih.cons p).trans (List.Perm.swap _ _ _)

theorem del_nodup {fs : List Mv} (c : Int) (h : (keysL fs).Nodup) : (keysL (delL fs c)).Nodup := by
  have : (keysL (delL fs c)).Sublist (keysL fs) := by
    unfold keysL delL
    exact List.Sublist.map _ List.filter_sublist
  exact List.Nodup.sublist this h
theorem del_len {fs : List Mv} {c f : Int} (h : (keysL fs).Nodup) (hm : (c, f) ∈ fs) : (delL fs c).length + 1 = fs.length := by
  have := (perm_del fs c f h hm).length_eq
  simpa using this.symm
theorem del_count {fs : List Mv} {c f : Int} (h : (keysL fs).Nodup) (hm : (c, f) ∈ fs) (a : Int) : (valsL fs).count a = (valsL (delL fs c)).count a + (if f = a then 1 else 0) := by
  have := ((perm_del fs c f h hm).map Prod.snd).count_eq a
  unfold valsL
  rw [this]
  simp only [List.map_cons, List.count_cons, beq_iff_eq]
theorem one_val {fs : List Mv} {c f g : Int} (h : (keysL fs).Nodup) (hm : (c, f) ∈ fs) (hg : (c, g) ∈ fs) : f = g := by
  have hp := (perm_del fs c f h hm).mem_iff.1 hg
  rcases List.mem_cons.1 hp with e | e
  · exact (Prod.mk.inj e).2.symm
  · exact absurd rfl (mem_del.1 e).2

/-- as many places as reads, each place read: what is read is one of them -/
theorem pigeon : ∀ (a b : List Int), a.Nodup → (∀ x ∈ a, x ∈ b) → b.length ≤ a.length → ∀ x ∈ b, x ∈ a
  | [], b, _, _, hl, x, hx => by
    cases b with
    | nil => cases hx
    | cons => simp at hl
  | y :: a, b, hn, hs, hl, x, hx => by
    obtain ⟨h1, h2⟩ := List.nodup_cons.1 hn
    by_cases e : x = y
    · simp [e]
    · have hy : y ∈ b := hs y (by simp)
      refine List.mem_cons_of_mem _ (pigeon a (b.erase y) h2 (fun z hz => ?_) ?_ x ((List.mem_erase_of_ne e).2 hx))
      · exact (List.mem_erase_of_ne (fun e2 => h1 (by rw [← e2]; exact hz))).2 (hs z (by simp [hz]))
      · rw [List.length_erase_of_mem hy]
        simp at hl
        omega

theorem full_vals {fs : List Mv} (hn : (keysL fs).Nodup) (h : ∀ t ∈ keysL fs, t ∈ valsL fs) : ∀ p ∈ valsL fs, p ∈ keysL fs :=
  pigeon _ _ hn h (by simp [keysL, valsL])

/-- the line so far, and the moves that wait: each of these still finds its word, and each place that waits no more has its own -/
structure MvI (ms : List Mv) (B : Int) (ln fs : List Mv) : Prop where
  nd : (keysL fs).Nodup
  sub : ∀ t ∈ keysL fs, t ∈ keysL ms
  wait : ∀ W0 : Int → Int, ∀ p ∈ fs, ∀ q ∈ ms, q.1 = p.1 → runL W0 ln p.2 = W0 q.2
  done : ∀ W0 : Int → Int, ∀ q ∈ ms, q.1 ∉ keysL fs → runL W0 ln q.1 = W0 q.2
  bf : ∀ p ∈ fs, 0 ≤ p.1 ∧ p.1 ≤ B ∧ 0 ≤ p.2 ∧ p.2 ≤ B
  bl : ∀ p ∈ ln, 0 ≤ p.1 ∧ p.1 ≤ B ∧ 0 ≤ p.2 ∧ p.2 ≤ B

/-- of the places that P names, each but c that waits is still to be read -/
def Clo (P : Int → Prop) (c : Int) (fs : List Mv) : Prop := ∀ t, P t → t ≠ c → t ∈ keysL fs → t ∈ valsL fs
def Ful (P : Int → Prop) (fs : List Mv) : Prop := ∀ t, P t → t ∈ keysL fs → t ∈ valsL fs

theorem Clo.full {P : Int → Prop} {c : Int} {fs : List Mv} (h : Clo P c fs) (hc : c ∈ keysL fs → c ∈ valsL fs) : Ful P fs := fun t ht hk => by
  by_cases e : t = c
  · rw [e] at hk ⊢; exact hc hk
  · exact h t ht e hk
theorem Ful.clo {P : Int → Prop} {fs : List Mv} (h : Ful P fs) (c : Int) : Clo P c fs := fun t ht _ hk => h t ht hk

section
variable {ms : List Mv} {B : Int} {ln fs : List Mv} {P : Int → Prop}

theorem MvI.begin (hn : (keysL ms).Nodup) (hb : ∀ p ∈ ms, 0 ≤ p.1 ∧ p.1 ≤ B ∧ 0 ≤ p.2 ∧ p.2 ≤ B) (hnf : (keysL fs).Nodup) (hm : ∀ p, p ∈ fs ↔ p ∈ ms ∧ p.1 ≠ p.2) : MvI ms B [] fs := by
  refine ⟨hnf, fun t ht => ?_, fun W0 p hp q hq e => ?_, fun W0 q hq hk => ?_, fun p hp => hb p ((hm p).1 hp).1, by simp⟩
  · obtain ⟨f, hf⟩ := mem_keys.1 ht
    exact mem_keys.2 ⟨f, ((hm _).1 hf).1⟩
  · have h1 := ((hm p).1 hp).1
    rw [runL_nil, one_val hn (c := p.1) (f := p.2) (g := q.2) h1 (by rw [← e]; exact hq)]
  · rw [runL_nil]
    by_cases e : q.1 = q.2
    · rw [e]
    · exact absurd (mem_keys.2 ⟨q.2, (hm _).2 ⟨hq, e⟩⟩) hk

theorem MvI.emit (h : MvI ms B ln fs) {c f : Int} (hm : (c, f) ∈ fs) (hc : c ∉ valsL fs) : MvI ms B (ln ++ [(c, f)]) (delL fs c) := by
  have hne : ∀ p ∈ fs, p.2 ≠ c := fun p hp e => hc (mem_vals.2 ⟨p.1, by rw [← e]; exact hp⟩)
  refine ⟨del_nodup c h.nd, fun t ht => h.sub t (keys_del.1 ht).1, fun W0 p hp q hq e => ?_, fun W0 q hq hk => ?_, fun p hp => h.bf p (mem_del.1 hp).1, fun p hp => ?_⟩
  · obtain ⟨h1, h2⟩ := mem_del.1 hp
    rw [runL_snoc]
    unfold step1
    rw [if_neg (hne p h1)]
    exact h.wait W0 p h1 q hq e
  · rw [runL_snoc]
    unfold step1
    by_cases e : q.1 = c
    · rw [if_pos e]
      exact h.wait W0 (c, f) hm q hq e
    · rw [if_neg e]
      exact h.done W0 q hq (fun h1 => hk (keys_del.2 ⟨h1, e⟩))
  · rcases List.mem_append.1 hp with h1 | h1
    · exact h.bl p h1
    · simp at h1
      rw [h1]
      exact h.bf _ hm

theorem Clo.emit {c : Int} (h : Clo P c fs) (hn : (keysL fs).Nodup) {f : Int} (hm : (c, f) ∈ fs) : Clo P f (delL fs c) := fun t ht hne hk => by
  obtain ⟨h1, h2⟩ := keys_del.1 hk
  obtain ⟨k, hk2⟩ := mem_vals.1 (h t ht h2 h1)
  refine mem_vals.2 ⟨k, mem_del.2 ⟨hk2, fun e => hne ?_⟩⟩
  simp only at e
  exact (one_val hn hm (by rw [← e]; exact hk2)).symm

/-- a ring is opened: its word goes by the scratch place s -/
theorem MvI.open (h : MvI ms B ln fs) {c f s : Int} (hm : (c, f) ∈ fs) (hs : s ∉ keysL ms) (hv : s ∉ valsL fs) (hsb : 0 ≤ s ∧ s ≤ B) : MvI ms B (ln ++ [(s, f)]) ((c, s) :: delL fs c) := by
  have hne : ∀ p ∈ fs, p.2 ≠ s := fun p hp e => hv (mem_vals.2 ⟨p.1, by rw [← e]; exact hp⟩)
  have hb := h.bf _ hm
  have hkk : ∀ t, t ∈ keysL ((c, s) :: delL fs c) → t ∈ keysL fs := fun t ht => by
    obtain ⟨g, hg⟩ := mem_keys.1 ht
    rcases List.mem_cons.1 hg with e | e
    · rw [(Prod.mk.inj e).1]; exact mem_keys.2 ⟨f, hm⟩
    · exact mem_keys.2 ⟨g, (mem_del.1 e).1⟩
  refine ⟨?_, fun t ht => h.sub t (hkk t ht), fun W0 p hp q hq e => ?_, fun W0 q hq hk => ?_, fun p hp => ?_, fun p hp => ?_⟩
  · show ((c :: keysL (delL fs c)).Nodup)
    exact List.nodup_cons.2 ⟨fun h1 => (keys_del.1 h1).2 rfl, del_nodup c h.nd⟩
  · rw [runL_snoc]
    unfold step1
    rcases List.mem_cons.1 hp with e1 | e1
    · subst e1
      simp only at e ⊢
      rw [if_pos trivial]
      exact h.wait W0 (c, f) hm q hq e
    · rw [if_neg (hne p (mem_del.1 e1).1)]
      exact h.wait W0 p (mem_del.1 e1).1 q hq e
  · rw [runL_snoc]
    unfold step1
    rw [if_neg (fun e => hs (by have e' : q.1 = s := e; rw [← e']; exact mem_keys.2 ⟨q.2, hq⟩))]
    refine h.done W0 q hq (fun h1 => hk ?_)
    by_cases e : q.1 = c
    · rw [e]; exact mem_keys.2 ⟨s, by simp⟩
    · obtain ⟨g, hg⟩ := mem_keys.1 (keys_del.2 ⟨h1, e⟩)
      exact mem_keys.2 ⟨g, List.mem_cons_of_mem _ hg⟩
  · rcases List.mem_cons.1 hp with e | e
    · rw [e]; exact ⟨hb.1, hb.2.1, hsb.1, hsb.2⟩
    · exact h.bf p (mem_del.1 e).1
  · rcases List.mem_append.1 hp with h1 | h1
    · exact h.bl p h1
    · simp at h1
      rw [h1]
      exact ⟨hsb.1, hsb.2, hb.2.2.1, hb.2.2.2⟩

theorem Ful.open (h : Ful P fs) (hn : (keysL fs).Nodup) {c f s : Int} (hm : (c, f) ∈ fs) (hs : s ∉ keysL ms) : Clo P f ((c, s) :: delL fs c) := fun t ht hne hk => by
  have hk' : t ∈ keysL fs := by
    obtain ⟨g, hg⟩ := mem_keys.1 hk
    rcases List.mem_cons.1 hg with e | e
    · rw [(Prod.mk.inj e).1]; exact mem_keys.2 ⟨f, hm⟩
    · exact mem_keys.2 ⟨g, (mem_del.1 e).1⟩
  obtain ⟨k, hk2⟩ := mem_vals.1 (h t ht hk')
  refine mem_vals.2 ⟨k, List.mem_cons_of_mem _ (mem_del.2 ⟨hk2, fun e => hne ?_⟩)⟩
  simp only at e
  exact (one_val hn hm (by rw [← e]; exact hk2)).symm

/-- where all that waits is still to be read, nothing else is -/
theorem MvI.no_scratch (h : MvI ms B ln fs) (hf : Ful (fun _ => True) fs) {s : Int} (hs : s ∉ keysL ms) : s ∉ valsL fs := fun hv =>
  hs (h.sub s (full_vals h.nd (fun t ht => hf t trivial ht) s hv))

/-- .. and so the place whose ring was opened waits no more -/
theorem MvI.gone (h : MvI ms B ln fs) (hf : Ful (fun _ => True) fs) {c s : Int} {fs0 : List Mv} (hs : s ∉ keysL ms) (hn : (keysL fs0).Nodup) (hm : (c, s) ∈ fs0) (hsub : ∀ p ∈ fs, p ∈ fs0) : c ∉ keysL fs := fun hk => by
  obtain ⟨g, hg⟩ := mem_keys.1 hk
  have e : s = g := one_val hn hm (hsub _ hg)
  rw [← e] at hg
  exact h.no_scratch hf hs (mem_vals.2 ⟨c, hg⟩)
end

/-! ### the code's own way -/
def lookL (fs : List Mv) (a : Int) : Option Int := (fs.find? (fun p => p.1 == a)).map Prod.snd
theorem look_nil (a : Int) : lookL [] a = none := rfl
theorem look_cons (fs : List Mv) (c f a : Int) : lookL ((c, f) :: fs) a = if c = a then some f else lookL fs a := by
  unfold lookL
  by_cases e : c = a
  · rw [List.find?_cons_of_pos (by simpa using e), if_pos e]; rfl
  · rw [List.find?_cons_of_neg (by simpa using e), if_neg e]
theorem look_del : ∀ (fs : List Mv) (c a : Int), lookL (delL fs c) a = if c = a then none else lookL fs a
  | [], c, a => by by_cases e : c = a <;> simp [e, delL, look_nil]
  | (x, f) :: r, c, a => by
    have ih := look_del r c a
    by_cases e1 : x = c
    · have h3 : delL ((x, f) :: r) c = delL r c := by unfold delL; rw [List.filter_cons_of_neg (by simpa using e1)]
      rw [h3, ih, look_cons]
      by_cases e2 : c = a
      · rw [if_pos e2, if_pos e2]
      · rw [if_neg e2, if_neg e2, if_neg (by omega)]
    · have h3 : delL ((x, f) :: r) c = (x, f) :: delL r c := by unfold delL; rw [List.filter_cons_of_pos (by simpa using e1)]
      rw [h3, look_cons, ih, look_cons]
      by_cases e2 : x = a
      · rw [if_pos e2, if_neg (by omega), if_pos e2]
      · rw [if_neg e2, if_neg e2]
theorem look_some {fs : List Mv} {a f : Int} (h : lookL fs a = some f) : (a, f) ∈ fs := by
  unfold lookL at h
  cases e : fs.find? (fun p => p.1 == a) with
  | none => rw [e] at h; cases h
  | some p =>
    rw [e] at h
    have h1 := List.mem_of_find?_eq_some e
    have h2 : p.1 = a := by simpa using List.find?_some e
    obtain ⟨x, y⟩ := p
    simp at h h2
    rw [← h, ← h2]
    exact h1
theorem look_none {fs : List Mv} {a : Int} (h : lookL fs a = none) : a ∉ keysL fs := fun hk => by
  obtain ⟨f, hf⟩ := mem_keys.1 hk
  unfold lookL at h
  simp at h
  exact h _ _ hf rfl

abbrev Sx := List Mv × List Mv
def fillM : Nat → Sx → Int → Sx
  | 0, st, _ => st
  | k + 1, st, a => if a ∈ valsL st.2 then st else
    match lookL st.2 a with
    | none => st
    | some f => fillM k (st.1 ++ [(a, f)], delL st.2 a) f
def fillA (st : Sx) (a : Int) : Sx := fillM (st.2.length + 1) st a
def waitM (fs : List Mv) (a b : Int) : List Mv := (a, b) :: delL fs a
def one1 (fs : List Mv) (m : Mv) : List Mv := if m.1 = m.2 then fs else waitM fs m.1 m.2
def one2 (st : Sx) (m : Mv) : Sx := fillA st m.1
def one3 (s : Int) (st : Sx) (m : Mv) : Sx :=
  match lookL st.2 m.1 with
  | none => st
  | some f => fillA (st.1 ++ [(s, f)], waitM st.2 m.1 s) f
def fs1 (ms : List Mv) : List Mv := ms.foldl one1 []
def st2 (ms l : List Mv) : Sx := l.foldl one2 ([], fs1 ms)
def st3 (s : Int) (ms l : List Mv) : Sx := l.foldl (one3 s) (st2 ms ms)
def lineM (s : Int) (ms : List Mv) : List Mv := (st3 s ms ms).1

theorem fillM_stop {k : Nat} {st : Sx} {a : Int} (h : a ∈ valsL st.2 ∨ lookL st.2 a = none) : fillM k st a = st := by
  cases k with
  | zero => rfl
  | succ k =>
    unfold fillM
    by_cases h1 : a ∈ valsL st.2
    · rw [if_pos h1]
    · rw [if_neg h1, h.resolve_left h1]
theorem fillM_go {k : Nat} {st : Sx} {a f : Int} (h : a ∉ valsL st.2) (h2 : lookL st.2 a = some f) : fillM (k + 1) st a = fillM k (st.1 ++ [(a, f)], delL st.2 a) f := by
  rw [fillM, if_neg h, h2]
theorem fillA_go {st : Sx} {a f : Int} (hn : (keysL st.2).Nodup) (h : a ∉ valsL st.2) (h2 : lookL st.2 a = some f) : fillA st a = fillA (st.1 ++ [(a, f)], delL st.2 a) f := by
  unfold fillA
  rw [fillM_go h h2]
  simp only
  rw [del_len hn (look_some h2)]

section
variable {ms : List Mv} {B : Int} {P : Int → Prop}
/-- what a filling leaves -/
theorem fill_inv : ∀ (k : Nat) (ln fs : List Mv) (a : Int), fs.length < k → MvI ms B ln fs → Clo P a fs →
    MvI ms B (fillM k (ln, fs) a).1 (fillM k (ln, fs) a).2 ∧ Ful P (fillM k (ln, fs) a).2 ∧ ∀ p ∈ (fillM k (ln, fs) a).2, p ∈ fs
  | 0, _, _, _, h, _, _ => absurd h (by omega)
  | k + 1, ln, fs, a, hl, h, hc => by
    by_cases h1 : a ∈ valsL fs
    · rw [fillM_stop (.inl h1)]
      exact ⟨h, hc.full (fun _ => h1), fun p hp => hp⟩
    · cases h2 : lookL fs a with
      | none =>
        rw [fillM_stop (.inr h2)]
        exact ⟨h, hc.full (fun h3 => absurd h3 (look_none h2)), fun p hp => hp⟩
      | some f =>
        have hm := look_some h2
        rw [fillM_go h1 h2]
        obtain ⟨r1, r2, r3⟩ := fill_inv k (ln ++ [(a, f)]) (delL fs a) f (by have := del_len h.nd hm; omega) (h.emit hm h1) (hc.emit h.nd hm)
        exact ⟨r1, r2, fun p hp => (mem_del.1 (r3 p hp)).1⟩

theorem fs1_mem : ∀ (l acc : List Mv), (keysL l).Nodup → (keysL acc).Nodup → (∀ t ∈ keysL l, t ∉ keysL acc) →
    (keysL (l.foldl one1 acc)).Nodup ∧ ∀ p, p ∈ l.foldl one1 acc ↔ p ∈ acc ∨ (p ∈ l ∧ p.1 ≠ p.2)
  | [], acc, _, h, _ => ⟨h, fun p => by simp⟩
  | m :: l, acc, hn, ha, hd => by
    obtain ⟨h1, h2⟩ := nodup_tail hn
    have hma : m.1 ∉ keysL acc := hd m.1 (by simp [keysL])
    rw [List.foldl_cons]
    by_cases e : m.1 = m.2
    · have h3 : one1 acc m = acc := by unfold one1; rw [if_pos e]
      rw [h3]
      obtain ⟨r1, r2⟩ := fs1_mem l acc h2 ha (fun t ht => hd t (by simp only [keysL, List.map_cons, List.mem_cons]; exact Or.inr ht))
      refine ⟨r1, fun p => (r2 p).trans ⟨fun h4 => h4.imp id (fun h5 => ⟨by simp [h5.1], h5.2⟩), fun h4 => h4.imp id (fun h5 => ?_)⟩⟩
      rcases List.mem_cons.1 h5.1 with e2 | e2
      · exact absurd (by rw [e2]; exact e) h5.2
      · exact ⟨e2, h5.2⟩
    · have h3 : one1 acc m = (m.1, m.2) :: acc := by unfold one1 waitM; rw [if_neg e, del_miss _ _ hma]
      rw [h3]
      obtain ⟨r1, r2⟩ := fs1_mem l ((m.1, m.2) :: acc) h2 (by show ((m.1 :: keysL acc).Nodup); exact List.nodup_cons.2 ⟨hma, ha⟩) (fun t ht h4 => by
        rcases List.mem_cons.1 (show t ∈ m.1 :: keysL acc from h4) with e2 | e2
        · exact h1 (by rw [← e2]; exact ht)
        · exact hd t (by simp only [keysL, List.map_cons, List.mem_cons]; exact Or.inr ht) e2)
      refine ⟨r1, fun p => (r2 p).trans ⟨fun h4 => ?_, fun h4 => ?_⟩⟩
      · rcases h4 with h5 | h5
        · rcases List.mem_cons.1 h5 with e2 | e2
          · exact .inr ⟨by simp [e2], by rw [e2]; exact e⟩
          · exact .inl e2
        · exact .inr ⟨by simp [h5.1], h5.2⟩
      · rcases h4 with h5 | h5
        · exact .inl (List.mem_cons_of_mem _ h5)
        · rcases List.mem_cons.1 h5.1 with e2 | e2
          · exact .inl (by rw [e2]; simp)
          · exact .inr ⟨e2, h5.2⟩

/-- all that is asked of the moves -/
structure OkM (ms : List Mv) (B s : Int) : Prop where
  nd : (keysL ms).Nodup
  bd : ∀ p ∈ ms, 0 ≤ p.1 ∧ p.1 ≤ B ∧ 0 ≤ p.2 ∧ p.2 ≤ B
  s0 : 0 ≤ s ∧ s ≤ B
  ns : s ∉ keysL ms
  nv : s ∉ valsL ms

theorem OkM.start {s : Int} (h : OkM ms B s) : MvI ms B [] (fs1 ms) := by
  obtain ⟨r1, r2⟩ := fs1_mem ms [] h.nd (by simp [keysL]) (by simp [keysL])
  exact MvI.begin h.nd h.bd r1 (fun p => (r2 p).trans (by simp))

theorem OkM.two {s : Int} (h : OkM ms B s) : ∀ k, k ≤ ms.length → MvI ms B (st2 ms (ms.take k)).1 (st2 ms (ms.take k)).2 ∧ Ful (fun t => t ∈ keysL (ms.take k)) (st2 ms (ms.take k)).2
  | 0, _ => ⟨h.start, fun t ht => by simp [keysL] at ht⟩
  | k + 1, hk => by
    obtain ⟨r1, r2⟩ := OkM.two h k (by omega)
    have e : ms.take (k + 1) = ms.take k ++ [ms[k]] := by rw [List.take_succ_eq_append_getElem (by omega)]
    have e2 : st2 ms (ms.take (k + 1)) = fillA (st2 ms (ms.take k)) (ms[k]).1 := by
      unfold st2
      rw [e, List.foldl_append]
      rfl
    have hc : Clo (fun t => t ∈ keysL (ms.take (k + 1))) (ms[k]).1 (st2 ms (ms.take k)).2 := fun t ht hne hk2 => by
      refine r2 t ?_ hk2
      rw [e] at ht
      have ht' : t ∈ keysL (ms.take k) ∨ t ∈ keysL [ms[k]] := by unfold keysL at ht ⊢; rw [List.map_append] at ht; exact List.mem_append.1 ht
      rcases ht' with h1 | h1
      · exact h1
      · simp [keysL] at h1; exact absurd h1 hne
    obtain ⟨q1, q2, _⟩ := fill_inv ((st2 ms (ms.take k)).2.length + 1) _ _ (ms[k]).1 (Nat.lt_succ_self _) r1 hc
    rw [e2]
    exact ⟨q1, q2⟩

theorem OkM.three {s : Int} (h : OkM ms B s) : ∀ k, k ≤ ms.length → MvI ms B (st3 s ms (ms.take k)).1 (st3 s ms (ms.take k)).2 ∧ Ful (fun _ => True) (st3 s ms (ms.take k)).2 ∧ ∀ t ∈ keysL (ms.take k), t ∉ keysL (st3 s ms (ms.take k)).2
  | 0, _ => by
    obtain ⟨r1, r2⟩ := h.two ms.length (Nat.le_refl _)
    rw [List.take_length] at r1 r2
    exact ⟨r1, fun t _ hk => r2 t (r1.sub t hk) hk, fun t ht => by simp [keysL] at ht⟩
  | k + 1, hk => by
    obtain ⟨r1, r2, r3⟩ := OkM.three h k (by omega)
    have e : ms.take (k + 1) = ms.take k ++ [ms[k]] := by rw [List.take_succ_eq_append_getElem (by omega)]
    have e2 : st3 s ms (ms.take (k + 1)) = one3 s (st3 s ms (ms.take k)) ms[k] := by
      unfold st3
      rw [e, List.foldl_append]
      rfl
    have hks : ∀ t, t ∈ keysL (ms.take (k + 1)) → t ∈ keysL (ms.take k) ∨ t = (ms[k]).1 := fun t ht => by
      rw [e] at ht
      unfold keysL at ht ⊢
      rw [List.map_append] at ht
      exact (List.mem_append.1 ht).imp id (fun h => by simpa using h)
    rw [e2]
    cases h2 : lookL (st3 s ms (ms.take k)).2 (ms[k]).1 with
    | none =>
      have e3 : one3 s (st3 s ms (ms.take k)) ms[k] = st3 s ms (ms.take k) := by unfold one3; rw [h2]
      rw [e3]
      refine ⟨r1, r2, fun t ht => ?_⟩
      rcases hks t ht with h3 | h3
      · exact r3 t h3
      · rw [h3]; exact look_none h2
    | some f =>
      have hm := look_some h2
      have hv := r1.no_scratch r2 h.ns
      have e3 : one3 s (st3 s ms (ms.take k)) ms[k] = fillA ((st3 s ms (ms.take k)).1 ++ [(s, f)], waitM (st3 s ms (ms.take k)).2 (ms[k]).1 s) f := by unfold one3; rw [h2]
      have o1 := r1.open hm h.ns hv h.s0
      have o2 : Clo (fun _ => True) f (((ms[k]).1, s) :: delL (st3 s ms (ms.take k)).2 (ms[k]).1) := r2.open (ms := ms) r1.nd hm h.ns
      obtain ⟨q1, q2, q3⟩ := fill_inv ((((ms[k]).1, s) :: delL (st3 s ms (ms.take k)).2 (ms[k]).1).length + 1) _ _ f (Nat.lt_succ_self _) o1 o2
      rw [e3]
      refine ⟨q1, q2, fun t ht h4 => ?_⟩
      rcases hks t ht with h3 | h3
      · obtain ⟨g, hg⟩ := mem_keys.1 h4
        rcases List.mem_cons.1 (q3 _ hg) with e5 | e5
        · exact r3 t h3 (by rw [(Prod.mk.inj e5).1]; exact mem_keys.2 ⟨f, hm⟩)
        · exact r3 t h3 (mem_keys.2 ⟨g, (mem_del.1 e5).1⟩)
      · rw [h3] at h4
        exact q1.gone q2 h.ns o1.nd (List.mem_cons_self) q3 h4

/-- behind the whole line each place has its word -/
theorem OkM.line {s : Int} (h : OkM ms B s) : (∀ W0 : Int → Int, ∀ q ∈ ms, runL W0 (lineM s ms) q.1 = W0 q.2) ∧ ∀ p ∈ lineM s ms, 0 ≤ p.1 ∧ p.1 ≤ B ∧ 0 ≤ p.2 ∧ p.2 ≤ B := by
  obtain ⟨r1, r2, r3⟩ := h.three ms.length (Nat.le_refl _)
  rw [List.take_length] at r1 r2 r3
  exact ⟨fun W0 q hq => r1.done W0 q hq (r3 q.1 (mem_keys.2 ⟨q.2, hq⟩)), r1.bl⟩
end
theorem line_swap : lineM 9 [(1, 2), (2, 1)] = [(9, 2), (2, 1), (1, 9)] := by decide
end Go.Proofs.Ytedmcfaghfgpoaa
