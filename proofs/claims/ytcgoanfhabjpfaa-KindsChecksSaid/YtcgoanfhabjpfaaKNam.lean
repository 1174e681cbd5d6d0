/-
  The row's own package: what its names asks, plainly; that it is what the document's rules ask, but that a code is not empty.
-/
import Derived.Test.YtcgoanfhabjpfaaKRow
namespace Go.Proofs.Ytcgoanfhabjpfaa
set_option linter.unusedVariables false
set_option linter.unusedSimpArgs false

/-- what is named by an instruction is there -/
def insNam (fs : List Fn) (f : Fn) (i : Ins) : Bool :=
  if i.op = 2 ∨ i.op = 3 then decide (i.arg < f.locals.length)
  else if i.op = 4 then decide (i.arg < f.locals.length) && decide (f.locals.getD i.arg.toNat 0 = 0)
  else if i.op = 21 ∨ i.op = 22 then decide (i.arg < f.code.length)
  else if i.op = 23 then decide (i.arg < fs.length)
  else if i.op = 25 then decide (i.arg < fs.length) && !(f.result && decide (f.keep < 0)) else true
def headNam (f : Fn) : Bool := decide (f.code.length ≠ 0) && decide (f.keep < f.locals.length) && !(decide (0 ≤ f.keep) && decide (f.locals.getD f.keep.toNat 0 ≠ 0))
def namB (fs : List Fn) (f : Fn) : Bool := headNam f && f.code.all (insNam fs f)
theorem insNam_split (fs : List Fn) (f : Fn) (i : Ins) : insNam fs f i = (insRef fs f i && !(decide (i.op = 25) && (f.result && decide (f.keep < 0)))) := by
  unfold insNam insRef numL
  by_cases h1 : i.op = 2 ∨ i.op = 3
  · rw [if_pos h1, if_pos h1, decide_eq_false (by omega : ¬ i.op = 25)]; simp
  rw [if_neg h1, if_neg h1]
  by_cases h2 : i.op = 4
  · rw [if_pos h2, if_pos h2, decide_eq_false (by omega : ¬ i.op = 25)]; simp
  rw [if_neg h2, if_neg h2]
  by_cases h3 : i.op = 21 ∨ i.op = 22
  · rw [if_pos h3, if_pos h3, decide_eq_false (by omega : ¬ i.op = 25)]; simp
  rw [if_neg h3, if_neg h3]
  by_cases h4 : i.op = 23
  · rw [if_pos h4, if_pos (.inl h4), decide_eq_false (by omega : ¬ i.op = 25)]; simp
  rw [if_neg h4]
  by_cases h5 : i.op = 25
  · rw [if_pos h5, if_pos (.inr h5), decide_eq_true h5]; simp
  · rw [if_neg h5, if_neg (by omega), decide_eq_false h5]; simp
theorem all_and {α : Type} (l : List α) (p q : α → Bool) : l.all (fun x => p x && q x) = (l.all p && l.all q) := by
  induction l with
  | nil => rfl
  | cons x l ih => simp only [List.all_cons, ih]; cases p x <;> cases q x <;> simp
theorem all_not {α : Type} (l : List α) (p : α → Bool) (c : Bool) : l.all (fun x => !(p x && c)) = (!c || !l.any p) := by
  induction l with
  | nil => simp
  | cons x l ih => simp only [List.all_cons, List.any_cons, ih]; cases p x <;> cases c <;> simp
theorem namB_is (fs : List Fn) {f : Fn} (h : okF f = true) : namB fs f = (decide (f.code.length ≠ 0) && fnRef fs f) := by
  have hk := (okF_iff.1 h).2.2.2.2.1
  have h1 : f.code.all (insNam fs f) = (f.code.all (insRef fs f) && (!(f.result && decide (f.keep < 0)) || !hasDef f)) := by
    rw [show insNam fs f = fun i => insRef fs f i && !(decide (i.op = 25) && (f.result && decide (f.keep < 0))) from funext (insNam_split fs f), all_and, all_not]
    rfl
  unfold namB fnRef headNam keepsB
  rw [h1]
  by_cases hq : f.keep = -1
  · rw [if_pos hq, hq]
    rw [decide_eq_true (by omega : (-1 : Int) < f.locals.length), decide_eq_false (by omega : ¬ (0 : Int) ≤ -1)]
    cases f.code.all (insRef fs f) <;> cases f.result <;> cases hasDef f <;> simp
  · rw [if_neg hq, decide_eq_false (by omega : ¬ f.keep < 0), decide_eq_true (by omega : 0 ≤ f.keep)]
    unfold numL
    cases f.code.all (insRef fs f) <;> by_cases hl : f.keep < f.locals.length <;> by_cases hz : f.locals.getD f.keep.toNat 0 = 0 <;> simp [hl, hz, Bool.and_assoc]
theorem not_fine_empty {fs : List Fn} {f : Fn} (h : f.code.length = 0) : ¬ Fine fs f := not_fine_code .base (by rw [List.length_eq_zero_iff.1 h]; rfl)
/-- what the row's Check says of the rules that ask nothing of a stack -/
theorem names_no {fs : List Fn} (hok : okP fs = true) (hb : bnd fs = true) (hm : mainB fs = true) {f : Fn} (hf : f ∈ fs) (hn : namB fs f = false) : verd fs = 50 := by
  have hof := (okP_iff.1 hok).2.2 f hf
  rw [namB_is fs hof] at hn
  by_cases he : f.code.length = 0
  · cases hr : refB fs with
    | false => exact verd_ref hok hb hr
    | true => exact verd_fine hok hb hr hf (not_fine_empty he)
  · refine verd_ref hok hb ?_
    rw [decide_eq_true he, Bool.true_and] at hn
    unfold refB
    rw [hm, Bool.true_and, List.all_eq_false]
    exact ⟨f, hf, by simp [hn]⟩
theorem names_yes {fs : List Fn} (hok : okP fs = true) (hm : mainB fs = true) (hn : fs.all (namB fs) = true) : refB fs = true ∧ ∀ f ∈ fs, 0 < f.code.length := by
  have h := List.all_eq_true.1 hn
  have h2 : ∀ f ∈ fs, 0 < f.code.length ∧ fnRef fs f = true := fun f hf => by
    have h3 := h f hf
    rw [namB_is fs ((okP_iff.1 hok).2.2 f hf), Bool.and_eq_true] at h3
    exact ⟨by have := of_decide_eq_true h3.1; omega, h3.2⟩
  exact ⟨by unfold refB; rw [hm, Bool.true_and, List.all_eq_true]; exact fun f hf => (h2 f hf).2, fun f hf => (h2 f hf).1⟩
theorem main_no {fs : List Fn} (hok : okP fs = true) (hb : bnd fs = true) (hm : mainB fs = false) : verd fs = 50 := verd_ref hok hb (by unfold refB; rw [hm]; rfl)
end Go.Proofs.Ytcgoanfhabjpfaa
