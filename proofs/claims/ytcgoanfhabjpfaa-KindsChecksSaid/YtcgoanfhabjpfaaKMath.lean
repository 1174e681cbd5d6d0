/-
  Plain mathematics of the rules of kinds: what an instruction takes and leaves, what is reached with which stack, when all is well, and two facts by which a walk that goes along the paths knows that it has come to its end. Nothing here speaks of the code.
-/
import Derived.Test.YtcgoanfhabjpfaaLang
namespace Go.Proofs.Ytcgoanfhabjpfaa
set_option linter.unusedVariables false

/-- kinds on the operand stack, the last one on top -/
abbrev Stk := List Int
def resOf (f : Fn) : Stk := if f.result then [0] else []
def locK (f : Fn) (i : Ins) : Int := f.locals.getD i.arg.toNat 0
def parK (fs : List Fn) (i : Ins) : Stk := match fs[i.arg.toNat]? with
  | some g => g.locals.take g.params.toNat
  | none => []
def resK (fs : List Fn) (i : Ins) : Stk := match fs[i.arg.toNat]? with
  | some g => resOf g
  | none => []
def takesK (fs : List Fn) (f : Fn) (i : Ins) (top : Int) : Stk :=
  if i.op = 3 then [locK f i] else if i.op = 5 then [1] else if i.op = 6 then [1, 0]
  else if i.op = 22 ∨ i.op = 26 ∨ i.op = 29 ∨ i.op = 30 then [0]
  else if i.op = 23 ∨ i.op = 25 then parK fs i
  else if i.op = 24 then resOf f
  else if i.op = 31 ∨ i.op = 32 then [top]
  else if 7 ≤ i.op ∧ i.op ≤ 20 then [0, 0] else []
def leavesK (fs : List Fn) (f : Fn) (i : Ins) (top : Int) : Stk :=
  if i.op = 1 ∨ i.op = 28 ∨ i.op = 5 then [0]
  else if i.op = 2 then [locK f i] else if i.op = 4 then [1]
  else if i.op = 23 then resK fs i else if i.op = 27 then [0, 0] else if i.op = 32 then [top, top]
  else if 7 ≤ i.op ∧ i.op ≤ 20 then [0] else []
def topK (s : Stk) : Int := s.getLast?.getD 0
def afterK (fs : List Fn) (f : Fn) (i : Ins) (s : Stk) : Option Stk :=
  if (takesK fs f i (topK s)).length ≤ s.length ∧ s.drop (s.length - (takesK fs f i (topK s)).length) = takesK fs f i (topK s) ∧ ¬(i.op = 24 ∧ (takesK fs f i (topK s)).length < s.length)
  then some (s.take (s.length - (takesK fs f i (topK s)).length) ++ leavesK fs f i (topK s)) else none
def succK (a : Nat) (i : Ins) : List Nat :=
  if i.op = 21 then [i.arg.toNat] else if i.op = 22 then [a + 1, i.arg.toNat] else if i.op = 24 ∨ i.op = 26 ∨ i.op = 30 then [] else [a + 1]

theorem resOf_len (f : Fn) : (resOf f).length ≤ 1 := by unfold resOf; split <;> simp
theorem leavesK_len (fs : List Fn) (f : Fn) (i : Ins) (t : Int) : (leavesK fs f i t).length ≤ 2 := by
  unfold leavesK
  split
  · simp
  split
  · simp
  split
  · simp
  split
  · unfold resK; split
    · have := resOf_len ‹_›; omega
    · simp
  split
  · simp
  split
  · simp
  split <;> simp
theorem afterK_len {fs : List Fn} {f : Fn} {i : Ins} {s s' : Stk} (h : afterK fs f i s = some s') : s'.length ≤ s.length + 2 := by
  unfold afterK at h
  split at h
  · injection h with h
    rw [← h, List.length_append, List.length_take]
    have := leavesK_len fs f i (topK s)
    omega
  · cases h
theorem succK_len (a : Nat) (i : Ins) : (succK a i).length ≤ 2 := by unfold succK; split; · simp
                                                                     split; · simp
                                                                     split <;> simp

/-- an instruction is reached with a stack -/
inductive Reach (fs : List Fn) (f : Fn) : Nat → Stk → Prop where
  | base : Reach fs f 0 []
  | step {a : Nat} {s : Stk} {i : Ins} {s' : Stk} {b : Nat} : Reach fs f a s → f.code[a]? = some i → afterK fs f i s = some s' → b ∈ succK a i → Reach fs f b s'
/-- no rule about stacks or successors is broken -/
def Fine (fs : List Fn) (f : Fn) : Prop := ∀ a s, Reach fs f a s → (∃ i s', f.code[a]? = some i ∧ afterK fs f i s = some s') ∧ ∀ s2, Reach fs f a s2 → s2 = s
/-- what is known of a function's stacks, and what is still to be gone on from -/
def cnt (l : List (Option Stk)) : Nat := l.countP Option.isNone
structure Inv (fs : List Fn) (f : Fn) (l : List (Option Stk)) (o : List Nat) : Prop where
  len : l.length = f.code.length
  zero : l[0]? = some (some [])
  sound : ∀ (a : Nat) s, l[a]? = some (some s) → Reach fs f a s
  opened : ∀ a ∈ o, ∃ s, l[a]? = some (some s)
  closed : ∀ (a : Nat) s, l[a]? = some (some s) → a ∉ o → ∃ i s', f.code[a]? = some i ∧ afterK fs f i s = some s' ∧ ∀ b ∈ succK a i, l[b]? = some (some s')
  short : ∀ (a : Nat) s, l[a]? = some (some s) → s.length + 2 + 2 * cnt l ≤ 2 * l.length
/-- the whole answer of a function -/
structure Sol (fs : List Fn) (f : Fn) (l : List (Option Stk)) : Prop where
  len : l.length = f.code.length
  fine : Fine fs f
  iff : ∀ (a : Nat) s, l[a]? = some (some s) ↔ Reach fs f a s

section
variable {fs : List Fn} {f : Fn} {l l' : List (Option Stk)} {o o' : List Nat} {a b : Nat} {s s' : Stk} {i : Ins}
theorem cnt_set (hb : l[b]? = some none) (s : Stk) : cnt (l.set b (some s)) + 1 = cnt l := by
  obtain ⟨hlt, he⟩ := List.getElem?_eq_some_iff.1 hb
  have hp : 0 < l.countP Option.isNone := List.countP_pos_iff.2 ⟨none, List.mem_of_getElem? hb, rfl⟩
  unfold cnt
  rw [List.countP_set hlt, he]
  simp
  omega
theorem cnt_le (l : List (Option Stk)) : cnt l ≤ l.length := List.countP_le_length
theorem not_fine_code (h : Reach fs f a s) (hc : f.code[a]? = none) : ¬ Fine fs f := fun hf => by
  obtain ⟨⟨i, _, hi, _⟩, _⟩ := hf a s h
  rw [hc] at hi
  cases hi
theorem not_fine_after (h : Reach fs f a s) (hc : f.code[a]? = some i) (hn : afterK fs f i s = none) : ¬ Fine fs f := fun hf => by
  obtain ⟨⟨j, _, hj, hs⟩, _⟩ := hf a s h
  rw [hc] at hj
  injection hj with hj
  subst hj
  rw [hn] at hs
  cases hs
theorem not_fine_two {s2 : Stk} (h : Reach fs f a s) (h2 : Reach fs f a s2) (hn : s ≠ s2) : ¬ Fine fs f := fun hf => hn ((hf a s2 h2).2 s h)
theorem Inv.start (hc : 0 < f.code.length) : Inv fs f ((List.replicate f.code.length none).set 0 (some [])) [0] := by
  have h0 : (List.replicate f.code.length (none : Option Stk))[0]? = some none := by rw [List.getElem?_replicate]; simp [hc]
  have hat : ∀ (a : Nat) s, ((List.replicate f.code.length none).set 0 (some ([] : Stk)))[a]? = some (some s) → a = 0 ∧ s = [] := by
    intro a s h
    rw [List.getElem?_set] at h
    split at h
    · subst_vars
      split at h
      · simp at h; exact ⟨rfl, h⟩
      · cases h
    · rw [List.getElem?_replicate] at h
      split at h <;> simp at h
  refine ⟨by simp, by rw [List.getElem?_set]; simp [hc], fun a s h => ?_, fun a ha => ?_, fun a s h hn => ?_, fun a s h => ?_⟩
  · obtain ⟨rfl, rfl⟩ := hat a s h
    exact .base
  · obtain rfl : a = 0 := by simpa using ha
    exact ⟨[], by rw [List.getElem?_set]; simp [hc]⟩
  · obtain ⟨rfl, rfl⟩ := hat a s h
    simp at hn
  · obtain ⟨rfl, rfl⟩ := hat a s h
    have h1 := cnt_set h0 ([] : Stk)
    have h2 := cnt_le (List.replicate f.code.length (none : Option Stk))
    simp at h2 ⊢
    omega
/-- a new one is reached -/
theorem Inv.reach (h : Inv fs f l o) (hb : l[b]? = some none) (hr : Reach fs f b s) (hs : s.length + 2 * cnt l ≤ 2 * l.length) : Inv fs f (l.set b (some s)) (o ++ [b]) := by
  obtain ⟨hlt, he⟩ := List.getElem?_eq_some_iff.1 hb
  have hcs := cnt_set hb s
  have hsame : ∀ a, a ≠ b → (l.set b (some s))[a]? = l[a]? := fun a ha => List.getElem?_set_ne (Ne.symm ha)
  have hself : (l.set b (some s))[b]? = some (some s) := by rw [List.getElem?_set]; simp [hlt]
  have hkeep : ∀ (a : Nat) t, l[a]? = some (some t) → (l.set b (some s))[a]? = some (some t) := fun a t ht => by
    rw [hsame a (by rintro rfl; rw [hb] at ht; cases ht)]; exact ht
  refine ⟨by rw [List.length_set]; exact h.len, hkeep _ _ h.zero, fun a t ht => ?_, fun a ha => ?_, fun a t ht hn => ?_, fun a t ht => ?_⟩
  · by_cases hab : a = b
    · subst hab; rw [hself] at ht; injection ht with ht; injection ht with ht; subst ht; exact hr
    · rw [hsame a hab] at ht; exact h.sound a t ht
  · rcases List.mem_append.1 ha with ha | ha
    · obtain ⟨t, ht⟩ := h.opened a ha; exact ⟨t, hkeep _ _ ht⟩
    · obtain rfl : a = b := by simpa using ha
      exact ⟨s, hself⟩
  · simp only [List.mem_append, List.mem_singleton, not_or] at hn
    rw [hsame a hn.2] at ht
    obtain ⟨i, t', h1, h2, h3⟩ := h.closed a t ht hn.1
    exact ⟨i, t', h1, h2, fun c hc => hkeep _ _ (h3 c hc)⟩
  · rw [List.length_set]
    by_cases hab : a = b
    · subst hab; rw [hself] at ht; injection ht with ht; injection ht with ht; subst ht; omega
    · rw [hsame a hab] at ht; have := h.short a t ht; omega
theorem Inv.more (h : Inv fs f l o) (hs : ∀ x ∈ o, x ∈ o') (ho : ∀ x ∈ o', ∃ s, l[x]? = some (some s)) : Inv fs f l o' :=
  ⟨h.len, h.zero, h.sound, ho, fun a s ha hn => h.closed a s ha fun hx => hn (hs a hx), h.short⟩
/-- one is gone on from -/
theorem Inv.close (h : Inv fs f l (a :: o)) (ha : l[a]? = some (some s)) (hc : f.code[a]? = some i) (hs : afterK fs f i s = some s') (hb : ∀ b ∈ succK a i, l[b]? = some (some s')) : Inv fs f l o :=
  ⟨h.len, h.zero, h.sound, fun x hx => h.opened x (by simp [hx]), fun x t ht hn => by
    by_cases hxa : x = a
    · subst hxa; rw [ha] at ht; injection ht with ht; injection ht with ht; subst ht; exact ⟨i, s', hc, hs, hb⟩
    · exact h.closed x t ht (by simp [hxa, hn]), h.short⟩
/-- nothing is left to be gone on from: that is the whole answer -/
theorem Inv.sol (h : Inv fs f l []) : Sol fs f l := by
  have hall : ∀ a s, Reach fs f a s → l[a]? = some (some s) := by
    intro a s hr
    induction hr with
    | base => exact h.zero
    | step _ hc hs hb ih =>
      obtain ⟨i, s', h1, h2, h3⟩ := h.closed _ _ ih (by simp)
      rw [hc] at h1
      injection h1 with h1
      subst h1
      rw [hs] at h2
      injection h2 with h2
      subst h2
      exact h3 _ hb
  refine ⟨h.len, fun a s hr => ⟨?_, fun s2 hr2 => ?_⟩, fun a s => ⟨h.sound a s, hall a s⟩⟩
  · obtain ⟨i, s', h1, h2, _⟩ := h.closed a s (hall a s hr) (by simp)
    exact ⟨i, s', h1, h2⟩
  · have h1 := hall a s hr
    rw [hall a s2 hr2] at h1
    injection h1 with h1
    injection h1 with h1
theorem Inv.step (h : Inv fs f l o) (ha : l[a]? = some (some s)) (hc : f.code[a]? = some i) (hs : afterK fs f i s = some s') (hb : b ∈ succK a i) : Reach fs f b s' := .step (h.sound a s ha) hc hs hb
theorem Sol.eq_ (h : Sol fs f l) (h' : Sol fs f l') : l = l' := by
  refine List.ext_getElem? fun a => ?_
  have key : ∀ {m m' : List (Option Stk)}, Sol fs f m → Sol fs f m' → ∀ x, m[a]? = some x → m'[a]? = some x := by
    intro m m' k k' x hx
    cases x with
    | some s => exact (k'.iff a s).2 ((k.iff a s).1 hx)
    | none =>
      obtain ⟨hlt, _⟩ := List.getElem?_eq_some_iff.1 hx
      have hlt' : a < m'.length := by rw [k'.len, ← k.len]; exact hlt
      cases hm : m'[a] with
      | none => rw [List.getElem?_eq_getElem hlt', hm]
      | some s =>
        have h1 := (k.iff a s).2 ((k'.iff a s).1 (by rw [List.getElem?_eq_getElem hlt', hm]))
        rw [hx] at h1
        cases h1
  cases hx : l[a]? with
  | some x => exact (key h h' x hx).symm
  | none =>
    cases hy : l'[a]? with
    | none => rfl
    | some y => rw [key h' h y hy] at hx; cases hx
theorem Sol.zero (h : Sol fs f l) : l[0]? = some (some []) := (h.iff 0 []).2 .base
theorem Sol.pos (h : Sol fs f l) : 0 < f.code.length := by
  have := (List.getElem?_eq_some_iff.1 h.zero).1
  rw [h.len] at this
  exact this
theorem Sol.next (h : Sol fs f l) (ha : l[a]? = some (some s)) (hc : f.code[a]? = some i) : ∃ s', afterK fs f i s = some s' ∧ ∀ b ∈ succK a i, l[b]? = some (some s') := by
  have hr := (h.iff a s).1 ha
  obtain ⟨⟨j, s', hj, hs⟩, _⟩ := h.fine a s hr
  rw [hc] at hj
  injection hj with hj
  subst hj
  exact ⟨s', hs, fun b hb => (h.iff b s').2 (.step hr hc hs hb)⟩
end
/-- is a stack too deep? -/
def deepO (x : Option Stk) : Bool := match x with
  | some s => decide (16 < s.length)
  | none => false
def Deep (fs : List Fn) : Prop := ∃ f ∈ fs, ∃ a s, Reach fs f a s ∧ 16 < s.length

/-! the rules that ask nothing of a stack -/
def numL (f : Fn) (x : Int) : Bool := decide (x < f.locals.length) && decide (f.locals.getD x.toNat 0 = 0)
def hasDef (f : Fn) : Bool := f.code.any fun i => decide (i.op = 25)
def keepsB (f : Fn) : Bool := if f.keep = -1 then !f.result || !hasDef f else numL f f.keep
def insRef (fs : List Fn) (f : Fn) (i : Ins) : Bool :=
  if i.op = 2 ∨ i.op = 3 then decide (i.arg < f.locals.length)
  else if i.op = 4 then numL f i.arg
  else if i.op = 21 ∨ i.op = 22 then decide (i.arg < f.code.length)
  else if i.op = 23 ∨ i.op = 25 then decide (i.arg < fs.length) else true
def fnRef (fs : List Fn) (f : Fn) : Bool := keepsB f && f.code.all (insRef fs f)
def mainB (fs : List Fn) : Bool := match fs with
  | m :: _ => decide (m.params ≤ 0) && !m.result
  | [] => true
def refB (fs : List Fn) : Bool := mainB fs && fs.all (fnRef fs)
open Classical in
/-- the error: 0 for none -/
noncomputable def verd (fs : List Fn) : Int :=
  if okP fs = false then 30 else if bnd fs = false then 31 else if refB fs = false then 50 else if ¬ ∀ f ∈ fs, Fine fs f then 50 else if Deep fs then 31 else 0
/-- the answers of all functions -/
def Sols (fs gs : List Fn) (ls : List (List (Option Stk))) : Prop := ls.length = gs.length ∧ ∀ (k : Nat) f, gs[k]? = some f → ∃ l, ls[k]? = some l ∧ Sol fs f l
section
variable {fs : List Fn}
theorem verd_form (h : okP fs = false) : verd fs = 30 := by unfold verd; rw [if_pos h]
theorem verd_big (h : okP fs = true) (hb : bnd fs = false) : verd fs = 31 := by unfold verd; rw [if_neg (by simp [h]), if_pos hb]
theorem verd_ref (h : okP fs = true) (hb : bnd fs = true) (hr : refB fs = false) : verd fs = 50 := by unfold verd; rw [if_neg (by simp [h]), if_neg (by simp [hb]), if_pos hr]
theorem verd_fine (h : okP fs = true) (hb : bnd fs = true) (hr : refB fs = true) {f : Fn} (hf : f ∈ fs) (hn : ¬ Fine fs f) : verd fs = 50 := by
  unfold verd; rw [if_neg (by simp [h]), if_neg (by simp [hb]), if_neg (by simp [hr]), if_pos fun hall => hn (hall f hf)]
theorem Sols.fine {ls : List (List (Option Stk))} (h : Sols fs fs ls) : ∀ f ∈ fs, Fine fs f := fun f hf => by
  obtain ⟨k, hk, he⟩ := List.getElem_of_mem hf
  obtain ⟨l, _, hl⟩ := h.2 k f (by rw [List.getElem?_eq_getElem hk, he])
  exact hl.fine
theorem Sols.deep {ls : List (List (Option Stk))} (h : Sols fs fs ls) : Deep fs ↔ ls.any (fun l => l.any deepO) = true := by
  constructor
  · rintro ⟨f, hf, a, s, hr, hs⟩
    obtain ⟨k, hk, he⟩ := List.getElem_of_mem hf
    obtain ⟨l, hl, hS⟩ := h.2 k f (by rw [List.getElem?_eq_getElem hk, he])
    exact List.any_eq_true.2 ⟨l, List.mem_of_getElem? hl, List.any_eq_true.2 ⟨some s, List.mem_of_getElem? ((hS.iff a s).2 hr), by simp [deepO, hs]⟩⟩
  · intro hd
    obtain ⟨l, hl, hd⟩ := List.any_eq_true.1 hd
    obtain ⟨x, hx, hd⟩ := List.any_eq_true.1 hd
    obtain ⟨k, hk, he⟩ := List.getElem_of_mem hl
    have hk' : k < fs.length := by rw [← h.1]; exact hk
    obtain ⟨l', hl', hS⟩ := h.2 k fs[k] (List.getElem?_eq_getElem hk')
    rw [List.getElem?_eq_getElem hk, he] at hl'
    injection hl' with hl'
    subst hl'
    obtain ⟨a, ha, hxa⟩ := List.getElem_of_mem hx
    cases x with
    | none => cases hd
    | some s => exact ⟨fs[k], List.getElem_mem hk', a, s, (hS.iff a s).1 (by rw [List.getElem?_eq_getElem ha, hxa]), by simpa [deepO] using hd⟩
theorem verd_deep (h : okP fs = true) (hb : bnd fs = true) (hr : refB fs = true) {ls : List (List (Option Stk))} (hs : Sols fs fs ls) (hd : ls.any (fun l => l.any deepO) = true) : verd fs = 31 := by
  unfold verd; rw [if_neg (by simp [h]), if_neg (by simp [hb]), if_neg (by simp [hr]), if_neg (fun hn => hn hs.fine), if_pos (hs.deep.2 hd)]
theorem verd_ok (h : okP fs = true) (hb : bnd fs = true) (hr : refB fs = true) {ls : List (List (Option Stk))} (hs : Sols fs fs ls) (hd : ls.any (fun l => l.any deepO) = false) : verd fs = 0 := by
  unfold verd; rw [if_neg (by simp [h]), if_neg (by simp [hb]), if_neg (by simp [hr]), if_neg (fun hn => hn hs.fine), if_neg (fun hn => by rw [hs.deep.1 hn] at hd; cases hd)]
end
end Go.Proofs.Ytcgoanfhabjpfaa
