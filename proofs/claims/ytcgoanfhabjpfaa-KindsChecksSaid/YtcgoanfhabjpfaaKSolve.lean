/-
  Plain mathematics: the verdict, reckoned.
-/
import Derived.Test.YtcgoanfhabjpfaaKMath
namespace Go.Proofs.Ytcgoanfhabjpfaa
set_option linter.unusedVariables false

def addAll (l : List (Option Stk)) (w : List Nat) : List Nat → Stk → Option (List (Option Stk) × List Nat)
  | [], _ => some (l, w)
  | b :: bs, s => match l[b]? with
    | none => none
    | some none => addAll (l.set b (some s)) (w ++ [b]) bs s
    | some (some s2) => if s2 = s then addAll l w bs s else none
def solve (fs : List Fn) (f : Fn) : Nat → List (Option Stk) → List Nat → Option (Option (List (Option Stk)))
  | 0, _, _ => none
  | _ + 1, l, [] => some (some l)
  | k + 1, l, a :: w => match f.code[a]?, l[a]? with
    | some i, some (some s) => match afterK fs f i s with
      | none => some none
      | some s' => match addAll l w (succK a i) s' with
        | none => some none
        | some (l', w') => solve fs f k l' w'
    | _, _ => some none
def solveF (fs : List Fn) (f : Fn) : Option (Option (List (Option Stk))) :=
  if f.code.length = 0 then some none else solve fs f 1000 ((List.replicate f.code.length none).set 0 (some [])) [0]
def solAll (fs : List Fn) : List Fn → Option (Option (List (List (Option Stk))))
  | [] => some (some [])
  | f :: gs => match solveF fs f with
    | none => none
    | some none => some none
    | some (some l) => match solAll fs gs with
      | some (some ls) => some (some (l :: ls))
      | some none => some none
      | none => none
def verdC (fs : List Fn) : Option (Int × List (List (Option Stk))) :=
  if okP fs = false then some (30, []) else if bnd fs = false then some (31, []) else if refB fs = false then some (50, [])
  else match solAll fs fs with
    | none => none
    | some none => some (50, [])
    | some (some ls) => if ls.any (fun l => l.any deepO) then some (31, ls) else some (0, ls)
section
variable {fs : List Fn} {f : Fn}
theorem addAll_spec {a : Nat} {i : Ins} {s s' : Stk} (hc : f.code[a]? = some i) (hs : afterK fs f i s = some s') : ∀ (bs : List Nat) (l : List (Option Stk)) (w : List Nat), (∀ b ∈ bs, b ∈ succK a i) → Inv fs f l (a :: w) → l[a]? = some (some s) → s'.length + 2 * cnt l ≤ 2 * l.length →
    (addAll l w bs s' = none → ¬ Fine fs f) ∧ ∀ l2 w2, addAll l w bs s' = some (l2, w2) → Inv fs f l2 (a :: w2) ∧ l2[a]? = some (some s) ∧ (∀ b ∈ bs, l2[b]? = some (some s')) ∧ (∀ (b : Nat) t, l[b]? = some (some t) → l2[b]? = some (some t))
  | [], l, w, _, hi, ha, _ => ⟨fun h => by simp [addAll] at h, fun l2 w2 h => by
      simp only [addAll, Option.some.injEq, Prod.mk.injEq] at h
      obtain ⟨rfl, rfl⟩ := h
      exact ⟨hi, ha, (fun b hb => by cases hb), fun b t h => h⟩⟩
  | b :: bs, l, w, hsub, hi, ha, hlen => by
    have hr : Reach fs f b s' := hi.step ha hc hs (hsub b (by simp))
    have hsub' : ∀ x ∈ bs, x ∈ succK a i := fun x hx => hsub x (by simp [hx])
    unfold addAll
    cases hl : l[b]? with
    | none =>
      refine ⟨fun _ => not_fine_code hr (List.getElem?_eq_none ?_), fun l2 w2 h => by cases h⟩
      rw [← hi.len]
      exact List.getElem?_eq_none_iff.1 hl
    | some x =>
      cases x with
      | none =>
        have hi' := hi.reach hl hr hlen
        have hcs := cnt_set hl s'
        have hkeep : ∀ (c : Nat) t, l[c]? = some (some t) → (l.set b (some s'))[c]? = some (some t) := fun c t h => by
          rw [List.getElem?_set_ne (by rintro rfl; rw [hl] at h; cases h)]; exact h
        have hself : (l.set b (some s'))[b]? = some (some s') := by
          rw [List.getElem?_set]; simp [(List.getElem?_eq_some_iff.1 hl).1]
        obtain ⟨h1, h2⟩ := addAll_spec hc hs bs (l.set b (some s')) (w ++ [b]) hsub' hi' (hkeep a s ha) (by rw [List.length_set]; omega)
        refine ⟨h1, fun l2 w2 h => ?_⟩
        obtain ⟨e1, e2, e3, e4⟩ := h2 l2 w2 h
        refine ⟨e1, e2, fun x hx => ?_, fun c t h => e4 c t (hkeep c t h)⟩
        rcases List.mem_cons.1 hx with rfl | hx
        · exact e4 _ _ hself
        · exact e3 x hx
      | some s2 =>
        simp only
        by_cases he : s2 = s'
        · rw [if_pos he]
          subst he
          obtain ⟨h1, h2⟩ := addAll_spec hc hs bs l w hsub' hi ha hlen
          refine ⟨h1, fun l2 w2 h => ?_⟩
          obtain ⟨e1, e2, e3, e4⟩ := h2 l2 w2 h
          refine ⟨e1, e2, fun x hx => ?_, e4⟩
          rcases List.mem_cons.1 hx with rfl | hx
          · exact e4 _ _ hl
          · exact e3 x hx
        · rw [if_neg he]
          exact ⟨fun _ => not_fine_two (hi.sound b s2 hl) hr he, fun l2 w2 h => by cases h⟩
theorem solve_spec : ∀ (k : Nat) (l : List (Option Stk)) (w : List Nat), Inv fs f l w → (solve fs f k l w = some none → ¬ Fine fs f) ∧ ∀ l2, solve fs f k l w = some (some l2) → Sol fs f l2
  | 0, l, w, hi => ⟨fun h => by simp [solve] at h, fun l2 h => by simp [solve] at h⟩
  | k + 1, l, [], hi => ⟨fun h => by simp [solve] at h, fun l2 h => by
      simp only [solve, Option.some.injEq] at h
      subst h
      exact hi.sol⟩
  | k + 1, l, a :: w, hi => by
    obtain ⟨s, ha⟩ := hi.opened a (by simp)
    have hlt : a < f.code.length := by rw [← hi.len]; exact (List.getElem?_eq_some_iff.1 ha).1
    have hc : f.code[a]? = some f.code[a] := List.getElem?_eq_getElem hlt
    unfold solve
    rw [hc, ha]
    simp only
    cases hs : afterK fs f f.code[a] s with
    | none => exact ⟨fun _ => not_fine_after (hi.sound a s ha) hc hs, fun l2 h => by cases h⟩
    | some s' =>
      have hsh := hi.short a s ha
      have hl := afterK_len hs
      obtain ⟨h1, h2⟩ := addAll_spec hc hs (succK a f.code[a]) l w (fun b hb => hb) hi ha (by omega)
      simp only
      cases hadd : addAll l w (succK a f.code[a]) s' with
      | none => exact ⟨fun _ => h1 hadd, fun l2 h => by cases h⟩
      | some q =>
        obtain ⟨l', w'⟩ := q
        obtain ⟨e1, e2, e3, _⟩ := h2 l' w' hadd
        exact solve_spec k l' w' (e1.close e2 hc hs e3)
theorem solveF_spec : (solveF fs f = some none → ¬ Fine fs f) ∧ ∀ l, solveF fs f = some (some l) → Sol fs f l := by
  unfold solveF
  by_cases h0 : f.code.length = 0
  · rw [if_pos h0]
    exact ⟨fun _ => not_fine_code .base (List.getElem?_eq_none (by omega)), fun l h => by cases h⟩
  · rw [if_neg h0]
    exact solve_spec 1000 _ _ (Inv.start (by omega))
theorem solAll_spec : ∀ gs : List Fn, (solAll fs gs = some none → ∃ f ∈ gs, ¬ Fine fs f) ∧ ∀ ls, solAll fs gs = some (some ls) → Sols fs gs ls
  | [] => ⟨fun h => by simp [solAll] at h, fun ls h => by
      simp only [solAll, Option.some.injEq] at h
      subst h
      exact ⟨rfl, fun k f hf => by simp at hf⟩⟩
  | f :: gs => by
    obtain ⟨h1, h2⟩ := solveF_spec (fs := fs) (f := f)
    obtain ⟨g1, g2⟩ := solAll_spec gs
    unfold solAll
    cases hf : solveF fs f with
    | none => exact ⟨(fun h => by cases h), (fun ls h => by cases h)⟩
    | some x =>
      cases x with
      | none => exact ⟨fun _ => ⟨f, by simp, h1 hf⟩, fun ls h => by cases h⟩
      | some l =>
        simp only
        cases hg : solAll fs gs with
        | none => exact ⟨(fun h => by cases h), (fun ls h => by cases h)⟩
        | some y =>
          cases y with
          | none =>
            obtain ⟨f', hf', hn⟩ := g1 hg
            exact ⟨fun _ => ⟨f', by simp [hf'], hn⟩, fun ls h => by cases h⟩
          | some ls' =>
            refine ⟨(fun h => by cases h), fun ls h => ?_⟩
            simp only [Option.some.injEq] at h
            subst h
            obtain ⟨e1, e2⟩ := g2 ls' hg
            refine ⟨by simp [e1], fun k f' hk => ?_⟩
            cases k with
            | zero => simp at hk; subst hk; exact ⟨l, rfl, h2 l hf⟩
            | succ k => exact e2 k f' (by simpa using hk)
theorem verdC_spec {v : Int} {ls : List (List (Option Stk))} (h : verdC fs = some (v, ls)) : verd fs = v ∧ (v = 0 → Sols fs fs ls) := by
  unfold verdC at h
  cases h1 : okP fs with
  | false =>
    rw [if_pos h1] at h
    injection h with h; injection h with h2 h3
    exact ⟨by rw [verd_form h1, h2], fun h0 => by omega⟩
  | true =>
    rw [if_neg (by simp [h1])] at h
    cases h2 : bnd fs with
    | false =>
      rw [if_pos h2] at h
      injection h with h; injection h with h3 h4
      exact ⟨by rw [verd_big h1 h2, h3], fun h0 => by omega⟩
    | true =>
      rw [if_neg (by simp [h2])] at h
      cases h3 : refB fs with
      | false =>
        rw [if_pos h3] at h
        injection h with h; injection h with h4 h5
        exact ⟨by rw [verd_ref h1 h2 h3, h4], fun h0 => by omega⟩
      | true =>
        rw [if_neg (by simp [h3])] at h
        obtain ⟨e1, e2⟩ := solAll_spec (fs := fs) fs
        cases hs : solAll fs fs with
        | none => rw [hs] at h; cases h
        | some x =>
          rw [hs] at h
          cases x with
          | none =>
            obtain ⟨f, hf, hn⟩ := e1 hs
            simp only at h
            injection h with h; injection h with h4 h5
            exact ⟨by rw [verd_fine h1 h2 h3 hf hn, h4], fun h0 => by omega⟩
          | some ls' =>
            have hS := e2 ls' hs
            simp only at h
            cases hd : ls'.any (fun l => l.any deepO) with
            | true =>
              rw [hd, if_pos rfl] at h
              injection h with h; injection h with h4 h5
              exact ⟨by rw [verd_deep h1 h2 h3 hS hd, h4], fun h0 => by omega⟩
            | false =>
              rw [hd, if_neg (by simp)] at h
              injection h with h; injection h with h4 h5
              subst h5
              exact ⟨by rw [verd_ok h1 h2 h3 hS hd, h4], fun _ => hS⟩
theorem Sols.eq_ {ls ls' : List (List (Option Stk))} (h : Sols fs fs ls) (h' : Sols fs fs ls') : ls = ls' := by
  refine List.ext_getElem? fun k => ?_
  rcases Nat.lt_or_ge k fs.length with hk | hk
  · obtain ⟨l, e1, e2⟩ := h.2 k fs[k] (List.getElem?_eq_getElem hk)
    obtain ⟨l', e3, e4⟩ := h'.2 k fs[k] (List.getElem?_eq_getElem hk)
    rw [e1, e3, e2.eq_ e4]
  · rw [List.getElem?_eq_none (by rw [h.1]; exact hk), List.getElem?_eq_none (by rw [h'.1]; exact hk)]
end
end Go.Proofs.Ytcgoanfhabjpfaa
