/-
  Plain mathematics: a number laid and dropped ahead of a function's code changes nothing of the verdict.
-/
import Derived.Test.YtcgoanfhabjpfaaKMath
namespace Go.Proofs.Ytcgoanfhabjpfaa
set_option linter.unusedVariables false

def sh (i : Ins) : Ins := if i.op = 21 ∨ i.op = 22 then ⟨i.op, i.arg + 2, i.imm⟩ else i
def aheadF (g : Fn) : Fn := { g with code := ⟨1, 0, 0⟩ :: ⟨31, 0, 0⟩ :: g.code.map sh }
theorem all_set {α : Type} {l : List α} {j : Nat} {g g' : α} {p q : α → Bool} (hg : l[j]? = some g) (he : q g' = p g) (hp : ∀ x ∈ l, q x = p x) : (l.set j g').all q = l.all p := by
  rw [Bool.eq_iff_iff, List.all_eq_true, List.all_eq_true]
  constructor
  · intro h x hx
    obtain ⟨k, hk, rfl⟩ := List.getElem_of_mem hx
    by_cases hkj : k = j
    · subst hkj
      have : l[k] = g := by have := (List.getElem?_eq_some_iff.1 hg).2; exact this
      rw [this, ← he]
      exact h g' (List.mem_of_getElem? (i := k) (by rw [List.getElem?_set]; simp [hk]))
    · rw [← hp _ (List.getElem_mem hk)]
      exact h _ (List.mem_of_getElem? (i := k) (by rw [List.getElem?_set_ne (Ne.symm hkj), List.getElem?_eq_getElem hk]))
  · intro h x hx
    rcases List.mem_or_eq_of_mem_set hx with hx | rfl
    · rw [hp x hx]; exact h x hx
    · rw [he]; exact h g (List.mem_of_getElem? hg)
theorem okI_sh {i : Ins} (h : i.op = 21 ∨ i.op = 22 → 0 ≤ i.arg ∧ i.arg ≤ 65533) : okI (sh i) = okI i := by
  unfold sh
  split
  · rename_i ho
    obtain ⟨h1, h2⟩ := h ho
    obtain ⟨op, arg, imm⟩ := i
    simp only at *
    unfold okI
    simp only
    have ha : argW op = 2 := by unfold argW; rw [if_neg (by omega), if_pos ho]
    rw [ha]
    have f1 : fitB 2 (arg + 2) = true := by unfold fitB; simp; omega
    have f2 : fitB 2 arg = true := by unfold fitB; simp; omega
    rw [f1, f2]
  · rfl
section
variable {fs : List Fn} {g : Fn} {j : Nat}
theorem okF_ahead (h1 : 1 ≤ g.code.length) (h2 : g.code.length ≤ 254) (hj : ∀ i ∈ g.code, i.op = 21 ∨ i.op = 22 → 0 ≤ i.arg ∧ i.arg ≤ 65533) : okF (aheadF g) = okF g := by
  unfold okF aheadF
  simp only [List.length_cons, List.length_map, List.all_cons]
  have e1 : decide (g.code.length + 1 + 1 ≤ 65535) = true := by simp; omega
  have e2 : decide (g.code.length ≤ 65535) = true := by simp; omega
  have e3 : okI ⟨1, 0, 0⟩ = true := by decide
  have e4 : okI ⟨31, 0, 0⟩ = true := by decide
  have e5 : (g.code.map sh).all okI = g.code.all okI := by
    rw [List.all_map, Bool.eq_iff_iff, List.all_eq_true, List.all_eq_true]
    exact ⟨fun h i hi => by rw [← okI_sh (hj i hi)]; exact h i hi, fun h i hi => by show okI (sh i) = true; rw [okI_sh (hj i hi)]; exact h i hi⟩
  rw [e1, e2, e3, e4, e5]
  simp
theorem bndF_ahead (h2 : g.code.length ≤ 254) : bndF (aheadF g) = bndF g := by
  unfold bndF aheadF
  simp only [List.length_cons, List.length_map]
  have e1 : decide (g.code.length + 1 + 1 ≤ 256) = true := by simp; omega
  have e2 : decide (g.code.length ≤ 256) = true := by simp; omega
  rw [e1, e2]
theorem set_at (hg : fs[j]? = some g) (k : Nat) : (fs.set j (aheadF g))[k]? = (fs[k]?).map fun f => if k = j then aheadF f else f := by
  by_cases hk : k = j
  · subst hk
    rw [List.getElem?_set, hg]
    simp [(List.getElem?_eq_some_iff.1 hg).1]
  · rw [List.getElem?_set_ne (Ne.symm hk)]
    cases fs[k]? <;> simp [hk]
theorem parK_set (hg : fs[j]? = some g) (i : Ins) : parK (fs.set j (aheadF g)) i = parK fs i ∧ resK (fs.set j (aheadF g)) i = resK fs i := by
  unfold parK resK
  rw [set_at hg]
  cases h : fs[i.arg.toNat]? with
  | none => exact ⟨rfl, rfl⟩
  | some f =>
    simp only [Option.map_some]
    split
    · exact ⟨rfl, rfl⟩
    · exact ⟨rfl, rfl⟩
theorem afterK_set (hg : fs[j]? = some g) (f : Fn) (i : Ins) (s : Stk) : afterK (fs.set j (aheadF g)) f i s = afterK fs f i s := by
  obtain ⟨h1, h2⟩ := parK_set hg i
  unfold afterK takesK leavesK
  rw [h1, h2]
theorem afterK_ahead (fs : List Fn) (g : Fn) (i : Ins) (s : Stk) : afterK fs (aheadF g) i s = afterK fs g i s := rfl
theorem afterK_sh (fs : List Fn) (g : Fn) (i : Ins) (s : Stk) : afterK fs g (sh i) s = afterK fs g i s := by
  unfold sh
  split
  · rename_i ho
    obtain ⟨op, arg, imm⟩ := i
    simp only at ho ⊢
    rcases ho with rfl | rfl
    · simp [afterK, takesK, leavesK]
    · simp [afterK, takesK, leavesK]
  · rfl
theorem reach_set (hg : fs[j]? = some g) (f : Fn) {a : Nat} {s : Stk} : Reach (fs.set j (aheadF g)) f a s ↔ Reach fs f a s := by
  constructor
  · intro h
    induction h with
    | base => exact .base
    | step _ hc hs hb ih => exact .step ih hc (by rw [← afterK_set hg]; exact hs) hb
  · intro h
    induction h with
    | base => exact .base
    | step _ hc hs hb ih => exact .step ih hc (by rw [afterK_set hg]; exact hs) hb
theorem fine_set (hg : fs[j]? = some g) (f : Fn) : Fine (fs.set j (aheadF g)) f ↔ Fine fs f := by
  unfold Fine
  simp only [reach_set hg, afterK_set hg]
theorem succ_sh (b : Nat) (i : Ins) (h : i.op = 21 ∨ i.op = 22 → 0 ≤ i.arg ∧ i.arg ≤ 65533) : succK (b + 2) (sh i) = (succK b i).map (· + 2) := by
  obtain ⟨op, arg, imm⟩ := i
  simp only at h
  unfold sh succK
  by_cases h1 : op = 21
  · have := h (.inl h1)
    simp only [h1]
    simp
    omega
  · by_cases h2 : op = 22
    · have := h (.inr h2)
      simp only [h2]
      simp
      omega
    · simp only [h1, h2, or_self, if_false]
      split
      · rfl
      · rfl
theorem reach_ahead (hj : ∀ i ∈ g.code, i.op = 21 ∨ i.op = 22 → 0 ≤ i.arg ∧ i.arg ≤ 65533) {a : Nat} {s : Stk} : Reach fs (aheadF g) a s ↔ (a = 0 ∧ s = []) ∨ (a = 1 ∧ s = [0]) ∨ ∃ b, a = b + 2 ∧ Reach fs g b s := by
  constructor
  · intro h
    induction h with
    | base => exact .inl ⟨rfl, rfl⟩
    | @step a s i s' b _ hc hs hb ih =>
      rcases ih with ⟨rfl, rfl⟩ | ⟨rfl, rfl⟩ | ⟨b0, rfl, hr⟩
      · have hi : i = ⟨1, 0, 0⟩ := by simpa [aheadF] using hc.symm
        subst hi
        have h1 : s' = [0] := by simpa [afterK, takesK, leavesK] using hs.symm
        have h2 : b = 1 := by simpa [succK] using hb
        exact .inr (.inl ⟨h2, h1⟩)
      · have hi : i = ⟨31, 0, 0⟩ := by simpa [aheadF] using hc.symm
        subst hi
        have h1 : s' = [] := by simpa [afterK, takesK, leavesK, topK] using hs.symm
        have h2 : b = 2 := by simpa [succK] using hb
        subst h1 h2
        exact .inr (.inr ⟨0, rfl, .base⟩)
      · have hc' : (g.code.map sh)[b0]? = some i := by simpa [aheadF] using hc
        rw [List.getElem?_map] at hc'
        obtain ⟨i0, hi0, rfl⟩ := Option.map_eq_some_iff.1 hc'
        rw [afterK_ahead, afterK_sh] at hs
        rw [succ_sh b0 i0 (hj i0 (List.mem_of_getElem? hi0))] at hb
        obtain ⟨c, hc1, rfl⟩ := List.mem_map.1 hb
        exact .inr (.inr ⟨c, rfl, .step hr hi0 hs hc1⟩)
  · have r0 : Reach fs (aheadF g) 0 [] := .base
    have r1 : Reach fs (aheadF g) 1 [0] := .step r0 (i := ⟨1, 0, 0⟩) rfl (by simp [afterK, takesK, leavesK]) (by simp [succK])
    have r2 : Reach fs (aheadF g) 2 [] := .step r1 (i := ⟨31, 0, 0⟩) rfl (by simp [afterK, takesK, leavesK, topK]) (by simp [succK])
    rintro (⟨rfl, rfl⟩ | ⟨rfl, rfl⟩ | ⟨b, rfl, hr⟩)
    · exact r0
    · exact r1
    · induction hr with
      | base => exact r2
      | @step a s i s' b _ hc hs hb ih =>
        refine .step ih (i := sh i) ?_ (by rw [afterK_ahead, afterK_sh]; exact hs) (by rw [succ_sh a i (hj i (List.mem_of_getElem? hc))]; exact List.mem_map.2 ⟨b, hb, rfl⟩)
        show (g.code.map sh)[a]? = some (sh i)
        rw [List.getElem?_map, hc]; rfl
theorem fine_ahead (hj : ∀ i ∈ g.code, i.op = 21 ∨ i.op = 22 → 0 ≤ i.arg ∧ i.arg ≤ 65533) : Fine fs (aheadF g) ↔ Fine fs g := by
  constructor
  · intro h b s hr
    obtain ⟨⟨i, s', h1, h2⟩, h3⟩ := h (b + 2) s ((reach_ahead hj).2 (.inr (.inr ⟨b, rfl, hr⟩)))
    have hc' : (g.code.map sh)[b]? = some i := by simpa [aheadF] using h1
    rw [List.getElem?_map] at hc'
    obtain ⟨i0, hi0, rfl⟩ := Option.map_eq_some_iff.1 hc'
    rw [afterK_ahead, afterK_sh] at h2
    exact ⟨⟨i0, s', hi0, h2⟩, fun s2 hr2 => h3 s2 ((reach_ahead hj).2 (.inr (.inr ⟨b, rfl, hr2⟩)))⟩
  · intro h a s hr
    rcases (reach_ahead hj).1 hr with ⟨rfl, rfl⟩ | ⟨rfl, rfl⟩ | ⟨b, rfl, hr0⟩
    · refine ⟨⟨⟨1, 0, 0⟩, [0], rfl, by simp [afterK, takesK, leavesK]⟩, fun s2 hr2 => ?_⟩
      rcases (reach_ahead hj).1 hr2 with ⟨_, h⟩ | ⟨h, _⟩ | ⟨b, h, _⟩
      · exact h
      · omega
      · omega
    · refine ⟨⟨⟨31, 0, 0⟩, [], rfl, by simp [afterK, takesK, leavesK, topK]⟩, fun s2 hr2 => ?_⟩
      rcases (reach_ahead hj).1 hr2 with ⟨h, _⟩ | ⟨_, h⟩ | ⟨b, h, _⟩
      · omega
      · exact h
      · omega
    · obtain ⟨⟨i, s', h1, h2⟩, h3⟩ := h b s hr0
      refine ⟨⟨sh i, s', ?_, by rw [afterK_ahead, afterK_sh]; exact h2⟩, fun s2 hr2 => ?_⟩
      · show (g.code.map sh)[b]? = some (sh i)
        rw [List.getElem?_map, h1]; rfl
      · rcases (reach_ahead hj).1 hr2 with ⟨h, _⟩ | ⟨h, _⟩ | ⟨b', h, hr'⟩
        · omega
        · omega
        · have : b = b' := by omega
          subst this
          exact h3 s2 hr'
theorem hasDef_ahead (g : Fn) : hasDef (aheadF g) = hasDef g := by
  unfold hasDef aheadF
  simp only [List.any_cons, List.any_map]
  have h : ((fun i : Ins => decide (i.op = 25)) ∘ sh) = fun i : Ins => decide (i.op = 25) := by
    funext i
    show decide ((sh i).op = 25) = decide (i.op = 25)
    unfold sh
    split <;> rfl
  rw [h]
  simp
theorem insRef_set (fs : List Fn) (j : Nat) (g' f : Fn) (i : Ins) : insRef (fs.set j g') f i = insRef fs f i := by
  unfold insRef; rw [List.length_set]
theorem insRef_ahead (fs : List Fn) (g : Fn) (i : Ins) : insRef fs (aheadF g) (sh i) = insRef fs g i := by
  unfold sh
  split
  · rename_i ho
    obtain ⟨op, arg, imm⟩ := i
    simp only at ho ⊢
    unfold insRef
    simp only
    rw [if_neg (by omega), if_neg (by omega), if_pos ho, if_neg (by omega), if_neg (by omega), if_pos ho]
    have : (aheadF g).code.length = g.code.length + 2 := by simp [aheadF]
    rw [this, Bool.eq_iff_iff]
    simp
  · rename_i ho
    unfold insRef numL
    have h1 : (aheadF g).locals = g.locals := rfl
    rw [h1]
    split
    · rfl
    split
    · rfl
    · rfl
theorem fnRef_ahead (fs : List Fn) (g : Fn) : fnRef fs (aheadF g) = fnRef fs g := by
  unfold fnRef
  have h1 : keepsB (aheadF g) = keepsB g := by unfold keepsB; rw [hasDef_ahead]; rfl
  rw [h1]
  congr 1
  show (⟨1, 0, 0⟩ :: ⟨31, 0, 0⟩ :: g.code.map sh : List Ins).all (insRef fs (aheadF g)) = _
  simp only [List.all_cons, List.all_map]
  have e1 : insRef fs (aheadF g) ⟨1, 0, 0⟩ = true := by unfold insRef; simp
  have e2 : insRef fs (aheadF g) ⟨31, 0, 0⟩ = true := by unfold insRef; simp
  have e3 : (insRef fs (aheadF g) ∘ sh) = insRef fs g := by funext i; exact insRef_ahead fs g i
  rw [e1, e2, e3]
  simp
theorem refB_ahead (hg : fs[j]? = some g) : refB (fs.set j (aheadF g)) = refB fs := by
  have h1 : mainB (fs.set j (aheadF g)) = mainB fs := by
    cases fs with
    | nil => rfl
    | cons m r =>
      cases j with
      | zero =>
        have : g = m := by simpa using hg.symm
        subst this
        rfl
      | succ j => rfl
  have h2 : (fs.set j (aheadF g)).all (fnRef (fs.set j (aheadF g))) = fs.all (fnRef fs) := by
    have h3 : ∀ f, fnRef (fs.set j (aheadF g)) f = fnRef fs f := fun f => by
      unfold fnRef
      have : insRef (fs.set j (aheadF g)) f = insRef fs f := by funext i; exact insRef_set fs j _ f i
      rw [this]
    exact all_set hg (by rw [h3, fnRef_ahead]) fun x _ => h3 x
  unfold refB
  rw [h1, h2]
theorem ite_same {p q : Prop} {dp : Decidable p} {dq : Decidable q} (h : p ↔ q) {a b b' : Int} (hb : b = b') : @ite _ p dp a b = @ite _ q dq a b' := by
  by_cases hp : p
  · rw [if_pos hp, if_pos (h.1 hp)]
  · rw [if_neg hp, if_neg (fun hq => hp (h.2 hq)), hb]
theorem verd_ahead (hg : fs[j]? = some g) (h1 : 1 ≤ g.code.length) (h2 : g.code.length ≤ 254) (hj : ∀ i ∈ g.code, i.op = 21 ∨ i.op = 22 → 0 ≤ i.arg ∧ i.arg ≤ 65533) : verd (fs.set j (aheadF g)) = verd fs := by
  have e1 : okP (fs.set j (aheadF g)) = okP fs := by
    unfold okP
    rw [List.length_set, all_set hg (okF_ahead h1 h2 hj) fun x _ => rfl]
  have e2 : bnd (fs.set j (aheadF g)) = bnd fs := by
    unfold bnd
    rw [List.length_set, all_set hg (bndF_ahead h2) fun x _ => rfl]
  have hmem : ∀ {P : Fn → Prop}, (P (aheadF g) ↔ P g) → ((∀ f ∈ fs.set j (aheadF g), P f) ↔ ∀ f ∈ fs, P f) := fun {P} hP => by
    constructor
    · intro h f hf
      obtain ⟨k, hk, rfl⟩ := List.getElem_of_mem hf
      by_cases hkj : k = j
      · subst hkj
        have : fs[k] = g := (List.getElem?_eq_some_iff.1 hg).2
        rw [this]
        exact hP.1 (h _ (List.mem_of_getElem? (i := k) (by rw [List.getElem?_set]; simp [hk])))
      · exact h _ (List.mem_of_getElem? (i := k) (by rw [List.getElem?_set_ne (Ne.symm hkj), List.getElem?_eq_getElem hk]))
    · intro h f hf
      rcases List.mem_or_eq_of_mem_set hf with hf | rfl
      · exact h f hf
      · exact hP.2 (h g (List.mem_of_getElem? hg))
  have e3 : (∀ f ∈ fs.set j (aheadF g), Fine (fs.set j (aheadF g)) f) ↔ ∀ f ∈ fs, Fine fs f := by
    have h3 : (∀ f ∈ fs.set j (aheadF g), Fine (fs.set j (aheadF g)) f) ↔ ∀ f ∈ fs.set j (aheadF g), Fine fs f := ⟨fun h f hf => (fine_set hg f).1 (h f hf), fun h f hf => (fine_set hg f).2 (h f hf)⟩
    rw [h3]
    exact hmem (P := fun f => Fine fs f) (fine_ahead hj)
  have e4 : Deep (fs.set j (aheadF g)) ↔ Deep fs := by
    have h4 : ¬ Deep (fs.set j (aheadF g)) ↔ ¬ Deep fs := by
      have d : ∀ gs, ¬ Deep gs ↔ ∀ f ∈ gs, ∀ a s, Reach gs f a s → s.length ≤ 16 := fun gs => by
        unfold Deep
        constructor
        · intro h f hf a s hr
          rcases Nat.lt_or_ge 16 s.length with hh | hh
          · exact absurd ⟨f, hf, a, s, hr, hh⟩ h
          · exact hh
        · rintro h ⟨f, hf, a, s, hr, hh⟩
          have := h f hf a s hr
          omega
      rw [d, d]
      have h5 : (∀ f ∈ fs.set j (aheadF g), ∀ a s, Reach (fs.set j (aheadF g)) f a s → s.length ≤ 16) ↔ ∀ f ∈ fs.set j (aheadF g), ∀ a s, Reach fs f a s → s.length ≤ 16 :=
        ⟨fun h f hf a s hr => h f hf a s ((reach_set hg f).2 hr), fun h f hf a s hr => h f hf a s ((reach_set hg f).1 hr)⟩
      rw [h5]
      refine hmem (P := fun f => ∀ a s, Reach fs f a s → s.length ≤ 16) ⟨fun h a s hr => h (a + 2) s ((reach_ahead hj).2 (.inr (.inr ⟨a, rfl, hr⟩))), fun h a s hr => ?_⟩
      rcases (reach_ahead hj).1 hr with ⟨_, rfl⟩ | ⟨_, rfl⟩ | ⟨b, _, hr0⟩
      · simp
      · simp
      · exact h b s hr0
    constructor
    · intro h; exact Classical.byContradiction fun hn => h4.2 hn h
    · intro h; exact Classical.byContradiction fun hn => h4.1 hn h
  unfold verd
  rw [e1, e2, refB_ahead hg]
  exact ite_same Iff.rfl (ite_same Iff.rfl (ite_same Iff.rfl (ite_same (not_congr e3) (ite_same e4 rfl))))
end
end Go.Proofs.Ytcgoanfhabjpfaa
