/-
  Texts of one seat, one behind the other: KSolve, SLit, Open, SOpen, SEv.
-/
import Derived.Deep.Slices
import Derived.Deep.Fields
import Derived.ChangeSame
import Derived.Lib.SmallJoins
import Derived.OpenShut
import Derived.ShutString
import Derived.SizedLaws
import Derived.LoopTactic
import Derived.Test.YtdoabcmfblmklaaMA1
import Derived.Test.YtdoabcmfblmklaaMA9
import Derived.Test.YtdoabcmfblmklaaMA2

/-
  Plain mathematics: the verdict, reckoned.
-/
namespace Go.Proofs.Ytdoabcmfblmklaa
set_option linter.unusedVariables false

def addAll (l : List (Option Stk)) (w : List Nat) : List Nat → Stk → Option (List (Option Stk) × List Nat)
  | [], _ => some (l, w)
  | b :: bs, s => match l[b]? with
    | none => none
    | some none => addAll (l.set b (some s)) (w ++ [b]) bs s
    | some (some s2) => if s2 = s then addAll l w bs s else none
def solve (fs : List Fn) (f : Fn) : Nat → List (Option Stk) → List Nat → Option (Option (List (Option Stk)))
  | 0, _, _ => none
  | _ + 1, l, [] => some (some l)
  | k + 1, l, a :: w => match f.code[a]?, l[a]? with
    | some i, some (some s) => match afterK fs f i s with
      | none => some none
      | some s' => match addAll l w (succK a i) s' with
        | none => some none
        | some (l', w') => solve fs f k l' w'
    | _, _ => some none
def solveF (fs : List Fn) (f : Fn) : Option (Option (List (Option Stk))) :=
  if f.code.length = 0 then some none else solve fs f 1000 ((List.replicate f.code.length none).set 0 (some [])) [0]
def solAll (fs : List Fn) : List Fn → Option (Option (List (List (Option Stk))))
  | [] => some (some [])
  | f :: gs => match solveF fs f with
    | none => none
    | some none => some none
    | some (some l) => match solAll fs gs with
      | some (some ls) => some (some (l :: ls))
      | some none => some none
      | none => none
def verdC (fs : List Fn) : Option (Int × List (List (Option Stk))) :=
  if okP fs = false then some (30, []) else if bnd fs = false then some (31, []) else if refB fs = false then some (50, [])
  else match solAll fs fs with
    | none => none
    | some none => some (50, [])
    | some (some ls) => if ls.any (fun l => l.any deepO) then some (31, ls) else some (0, ls)
section
variable {fs : List Fn} {f : Fn}
theorem addAll_spec {a : Nat} {i : Ins} {s s' : Stk} (hc : f.code[a]? = some i) (hs : afterK fs f i s = some s') : ∀ (bs : List Nat) (l : List (Option Stk)) (w : List Nat), (∀ b ∈ bs, b ∈ succK a i) → Inv fs f l (a :: w) → l[a]? = some (some s) → s'.length + 2 * cnt l ≤ 2 * l.length →
    (addAll l w bs s' = none → ¬ Fine fs f) ∧ ∀ l2 w2, addAll l w bs s' = some (l2, w2) → Inv fs f l2 (a :: w2) ∧ l2[a]? = some (some s) ∧ (∀ b ∈ bs, l2[b]? = some (some s')) ∧ (∀ (b : Nat) t, l[b]? = some (some t) → l2[b]? = some (some t))
  | [], l, w, _, hi, ha, _ => ⟨fun h => by simp [addAll] at h, fun l2 w2 h => by
      simp only [addAll, Option.some.injEq, Prod.mk.injEq] at h
      obtain ⟨rfl, rfl⟩ := h
      exact ⟨hi, ha, (fun b hb => by cases hb), fun b t h => h⟩⟩
  | b :: bs, l, w, hsub, hi, ha, hlen => by
    have hr : Reach fs f b s' := hi.step ha hc hs (hsub b (by simp))
    have hsub' : ∀ x ∈ bs, x ∈ succK a i := fun x hx => hsub x (by simp [hx])
    unfold addAll
    cases hl : l[b]? with
    | none =>
      refine ⟨fun _ => not_fine_code hr (List.getElem?_eq_none ?_), fun l2 w2 h => by cases h⟩
      rw [← hi.len]
      exact List.getElem?_eq_none_iff.1 hl
    | some x =>
      cases x with
      | none =>
        have hi' := hi.reach hl hr hlen
        have hcs := cnt_set hl s'
        have hkeep : ∀ (c : Nat) t, l[c]? = some (some t) → (l.set b (some s'))[c]? = some (some t) := fun c t h => by
          rw [List.getElem?_set_ne (by rintro rfl; rw [hl] at h; cases h)]; exact h
        have hself : (l.set b (some s'))[b]? = some (some s') := by
          rw [List.getElem?_set]; simp [(List.getElem?_eq_some_iff.1 hl).1]
        obtain ⟨h1, h2⟩ := addAll_spec hc hs bs (l.set b (some s')) (w ++ [b]) hsub' hi' (hkeep a s ha) (by rw [List.length_set]; omega)
        refine ⟨h1, fun l2 w2 h => ?_⟩
        obtain ⟨e1, e2, e3, e4⟩ := h2 l2 w2 h
        refine ⟨e1, e2, fun x hx => ?_, fun c t h => e4 c t (hkeep c t h)⟩
        rcases List.mem_cons.1 hx with rfl | hx
        · exact e4 _ _ hself
        · exact e3 x hx
      | some s2 =>
        simp only
        by_cases he : s2 = s'
        · rw [if_pos he]
          subst he
          obtain ⟨h1, h2⟩ := addAll_spec hc hs bs l w hsub' hi ha hlen
          refine ⟨h1, fun l2 w2 h => ?_⟩
          obtain ⟨e1, e2, e3, e4⟩ := h2 l2 w2 h
          refine ⟨e1, e2, fun x hx => ?_, e4⟩
          rcases List.mem_cons.1 hx with rfl | hx
          · exact e4 _ _ hl
          · exact e3 x hx
        · rw [if_neg he]
          exact ⟨fun _ => not_fine_two (hi.sound b s2 hl) hr he, fun l2 w2 h => by cases h⟩
theorem solve_spec : ∀ (k : Nat) (l : List (Option Stk)) (w : List Nat), Inv fs f l w → (solve fs f k l w = some none → ¬ Fine fs f) ∧ ∀ l2, solve fs f k l w = some (some l2) → Sol fs f l2
  | 0, l, w, hi => ⟨fun h => by simp [solve] at h, fun l2 h => by simp [solve] at h⟩
  | k + 1, l, [], hi => ⟨fun h => by simp [solve] at h, fun l2 h => by
      simp only [solve, Option.some.injEq] at h
      subst h
      exact hi.sol⟩
  | k + 1, l, a :: w, hi => by
    obtain ⟨s, ha⟩ := hi.opened a (by simp)
    have hlt : a < f.code.length := by rw [← hi.len]; exact (List.getElem?_eq_some_iff.1 ha).1
    have hc : f.code[a]? = some f.code[a] := List.getElem?_eq_getElem hlt
    unfold solve
    rw [hc, ha]
    simp only
    cases hs : afterK fs f f.code[a] s with
    | none => exact ⟨fun _ => not_fine_after (hi.sound a s ha) hc hs, fun l2 h => by cases h⟩
    | some s' =>
      have hsh := hi.short a s ha
      have hl := afterK_len hs
      obtain ⟨h1, h2⟩ := addAll_spec hc hs (succK a f.code[a]) l w (fun b hb => hb) hi ha (by omega)
      simp only
      cases hadd : addAll l w (succK a f.code[a]) s' with
      | none => exact ⟨fun _ => h1 hadd, fun l2 h => by cases h⟩
      | some q =>
        obtain ⟨l', w'⟩ := q
        obtain ⟨e1, e2, e3, _⟩ := h2 l' w' hadd
        exact solve_spec k l' w' (e1.close e2 hc hs e3)
theorem solveF_spec : (solveF fs f = some none → ¬ Fine fs f) ∧ ∀ l, solveF fs f = some (some l) → Sol fs f l := by
  unfold solveF
  by_cases h0 : f.code.length = 0
  · rw [if_pos h0]
    exact ⟨fun _ => not_fine_code .base (List.getElem?_eq_none (by omega)), fun l h => by cases h⟩
  · rw [if_neg h0]
    exact solve_spec 1000 _ _ (Inv.start (by omega))
theorem solAll_spec : ∀ gs : List Fn, (solAll fs gs = some none → ∃ f ∈ gs, ¬ Fine fs f) ∧ ∀ ls, solAll fs gs = some (some ls) → Sols fs gs ls
  | [] => ⟨fun h => by simp [solAll] at h, fun ls h => by
      simp only [solAll, Option.some.injEq] at h
      subst h
      exact ⟨rfl, fun k f hf => by simp at hf⟩⟩
  | f :: gs => by
    obtain ⟨h1, h2⟩ := solveF_spec (fs := fs) (f := f)
    obtain ⟨g1, g2⟩ := solAll_spec gs
    unfold solAll
    cases hf : solveF fs f with
    | none => exact ⟨(fun h => by cases h), (fun ls h => by cases h)⟩
    | some x =>
      cases x with
      | none => exact ⟨fun _ => ⟨f, by simp, h1 hf⟩, fun ls h => by cases h⟩
      | some l =>
        simp only
        cases hg : solAll fs gs with
        | none => exact ⟨(fun h => by cases h), (fun ls h => by cases h)⟩
        | some y =>
          cases y with
          | none =>
            obtain ⟨f', hf', hn⟩ := g1 hg
            exact ⟨fun _ => ⟨f', by simp [hf'], hn⟩, fun ls h => by cases h⟩
          | some ls' =>
            refine ⟨(fun h => by cases h), fun ls h => ?_⟩
            simp only [Option.some.injEq] at h
            subst h
            obtain ⟨e1, e2⟩ := g2 ls' hg
            refine ⟨by simp [e1], fun k f' hk => ?_⟩
            cases k with
            | zero => simp at hk; subst hk; exact ⟨l, rfl, h2 l hf⟩
            | succ k => exact e2 k f' (by simpa using hk)
theorem verdC_spec {v : Int} {ls : List (List (Option Stk))} (h : verdC fs = some (v, ls)) : verd fs = v ∧ (v = 0 → Sols fs fs ls) := by
  unfold verdC at h
  cases h1 : okP fs with
  | false =>
    rw [if_pos h1] at h
    injection h with h; injection h with h2 h3
    exact ⟨by rw [verd_form h1, h2], fun h0 => by omega⟩
  | true =>
    rw [if_neg (by simp [h1])] at h
    cases h2 : bnd fs with
    | false =>
      rw [if_pos h2] at h
      injection h with h; injection h with h3 h4
      exact ⟨by rw [verd_big h1 h2, h3], fun h0 => by omega⟩
    | true =>
      rw [if_neg (by simp [h2])] at h
      cases h3 : refB fs with
      | false =>
        rw [if_pos h3] at h
        injection h with h; injection h with h4 h5
        exact ⟨by rw [verd_ref h1 h2 h3, h4], fun h0 => by omega⟩
      | true =>
        rw [if_neg (by simp [h3])] at h
        obtain ⟨e1, e2⟩ := solAll_spec (fs := fs) fs
        cases hs : solAll fs fs with
        | none => rw [hs] at h; cases h
        | some x =>
          rw [hs] at h
          cases x with
          | none =>
            obtain ⟨f, hf, hn⟩ := e1 hs
            simp only at h
            injection h with h; injection h with h4 h5
            exact ⟨by rw [verd_fine h1 h2 h3 hf hn, h4], fun h0 => by omega⟩
          | some ls' =>
            have hS := e2 ls' hs
            simp only at h
            cases hd : ls'.any (fun l => l.any deepO) with
            | true =>
              rw [hd, if_pos rfl] at h
              injection h with h; injection h with h4 h5
              exact ⟨by rw [verd_deep h1 h2 h3 hS hd, h4], fun h0 => by omega⟩
            | false =>
              rw [hd, if_neg (by simp)] at h
              injection h with h; injection h with h4 h5
              subst h5
              exact ⟨by rw [verd_ok h1 h2 h3 hS hd, h4], fun _ => hS⟩
theorem Sols.eq_ {ls ls' : List (List (Option Stk))} (h : Sols fs fs ls) (h' : Sols fs fs ls') : ls = ls' := by
  refine List.ext_getElem? fun k => ?_
  rcases Nat.lt_or_ge k fs.length with hk | hk
  · obtain ⟨l, e1, e2⟩ := h.2 k fs[k] (List.getElem?_eq_getElem hk)
    obtain ⟨l', e3, e4⟩ := h'.2 k fs[k] (List.getElem?_eq_getElem hk)
    rw [e1, e3, e2.eq_ e4]
  · rw [List.getElem?_eq_none (by rw [h.1]; exact hk), List.getElem?_eq_none (by rw [h'.1]; exact hk)]
end
end Go.Proofs.Ytdoabcmfblmklaa

/-
  Package sem: Run of a program that is written out.
-/
namespace Go.Proofs.Ytdoabcmfblmklaa
set_option linter.unusedVariables false
set_option linter.unusedSimpArgs false
open Go.ChangeShapes Go.WideShapes Go.ChangeAt Go.RowKit

theorem wf_small {i : Ins} (h : 0 ≤ i.op ∧ i.op ≤ 255 ∧ 0 ≤ i.arg ∧ i.arg ≤ 100000 ∧ 0 ≤ i.imm ∧ i.imm ≤ 100000) : WfI i := ⟨h.1, h.2.1, by omega, by omega, by omega, by omega⟩
/-- functions written out -/
theorem lit_rs {W : World} {g n : Nat} {rs : List Raw} (hb : Blk W g 46 (rawc rs).toArray) (hn : rs.length = n) (hl : n ≤ 1000) (each : ∀ r ∈ rs, RdF W W.heap.size r) (wf : ∀ r ∈ rs, WfF r.fn) : RdP W W.heap.size (some ⟨g, 0, none⟩) n rs :=
  ⟨reads_blk hb (by rw [length_rawc, hn]), hn, each, wf, by omega⟩
theorem wff_of {f : Fn} (hp : 0 ≤ f.params ∧ f.params ≤ 100) (hk : -1 ≤ f.keep ∧ f.keep ≤ 100) (hl : Byt f.locals) (hc : ∀ i ∈ f.code, WfI i) (h1 : f.locals.length ≤ 1000) (h2 : f.code.length ≤ 1000) : WfF f :=
  ⟨by omega, by omega, by omega, by omega, hl, hc, by omega, by omega⟩
/-- a run, its verdict and its steps reckoned -/
theorem RunAns.known {rs : List Raw} {tape : List Int} {fuel : Nat} {er : Int} {st x : Mc} (h : RunAns rs tape fuel er st) (hv : verd (fns rs) = 0) (hr : RunB rs fuel (start (fns rs) tape) x) : er = 0 ∧ st = if x.doing = 3 then x else x.over 3 0 := by
  obtain ⟨h1, _⟩ | ⟨_, h2, stF, h3, _, _, h4⟩ := h
  · exact absurd hv h1
  · have h5 : RunB rs 0 stF x := RunB.split (m := 0) h3 hr
    have h6 : x = stF := h5
    subst h6
    exact ⟨h2, h4⟩
def code0 : List Ins := [⟨25, 1, 0⟩, ⟨1, 0, 5⟩, ⟨26, 0, 0⟩]
def code1 : List Ins := [⟨27, 0, 0⟩, ⟨31, 0, 0⟩, ⟨29, 0, 0⟩, ⟨24, 0, 0⟩]
def firstRs (g : Nat) : List Raw := [⟨⟨0, [], false, -1, code0⟩, none, 0, some ⟨g, 0, none⟩, 3⟩, ⟨⟨0, [], false, -1, code1⟩, none, 0, some ⟨g + 1, 0, none⟩, 4⟩]
theorem firstRs_fns (g : Nat) : fns (firstRs g) = firstFs := rfl
theorem verd_first : verd firstFs = 0 := by
  have h : (verdC firstFs).map (·.1) = some 0 := by decide +kernel
  cases hv : verdC firstFs with
  | none => rw [hv] at h; cases h
  | some q =>
    rw [hv] at h
    injection h with h
    exact (verdC_spec (v := q.1) (ls := q.2) hv).1.trans h
theorem wf_code0 : ∀ i ∈ code0, WfI i := by intro i hi; apply wf_small; simp [code0] at hi; rcases hi with rfl | rfl | rfl <;> decide
theorem wf_code1 : ∀ i ∈ code1, WfI i := by intro i hi; apply wf_small; simp [code1] at hi; rcases hi with rfl | rfl | rfl | rfl <;> decide
theorem lit_first (W : World) : RdP (((W.alloc (.cells (insc code0).toArray 43)).alloc (.cells (insc code1).toArray 43)).alloc (.cells (rawc (firstRs W.heap.size)).toArray 46)) (W.heap.size + 3) (some ⟨W.heap.size + 2, 0, none⟩) 2 (firstRs W.heap.size) := by
  have hb := Blk.new ((W.alloc (.cells (insc code0).toArray 43)).alloc (.cells (insc code1).toArray 43)) 46 (rawc (firstRs W.heap.size)).toArray
  rw [show ((W.alloc (.cells (insc code0).toArray 43)).alloc (.cells (insc code1).toArray 43)).heap.size = W.heap.size + 2 by simp] at hb
  have h0 : Blk (((W.alloc (.cells (insc code0).toArray 43)).alloc (.cells (insc code1).toArray 43)).alloc (.cells (rawc (firstRs W.heap.size)).toArray 46)) W.heap.size 43 (insc code0).toArray := ((Blk.new W _ _).alloc _).alloc _
  have h1 : Blk (((W.alloc (.cells (insc code0).toArray 43)).alloc (.cells (insc code1).toArray 43)).alloc (.cells (rawc (firstRs W.heap.size)).toArray 46)) (W.heap.size + 1) 43 (insc code1).toArray := (blk_second _ _ _ _ _).alloc _
  have h := lit_rs (n := 2) (rs := firstRs W.heap.size) hb rfl (by omega) (fun r hr => by
    simp only [firstRs, List.mem_cons, List.not_mem_nil, or_false] at hr
    rcases hr with rfl | rfl
    · exact ⟨Reads.none_, reads_blk h0 rfl, Nat.le_refl _⟩
    · exact ⟨Reads.none_, reads_blk h1 rfl, Nat.le_refl _⟩) (fun r hr => by
    simp only [firstRs, List.mem_cons, List.not_mem_nil, or_false] at hr
    rcases hr with rfl | rfl
    · exact wff_of (f := ⟨0, [], false, -1, code0⟩) (by decide) (by decide) Byt.nil wf_code0 (by decide) (by decide)
    · exact wff_of (f := ⟨0, [], false, -1, code1⟩) (by decide) (by decide) Byt.nil wf_code1 (by decide) (by decide))
  rw [show (((W.alloc (.cells (insc code0).toArray 43)).alloc (.cells (insc code1).toArray 43)).alloc (.cells (rawc (firstRs W.heap.size)).toArray 46)).heap.size = W.heap.size + 3 by simp] at h
  exact h
theorem run_first : ∃ x, (∀ g, RunB (firstRs g) 100 (start firstFs []) x) ∧ x.evs = [(1, 5)] ∧ x.doing = 3 ∧ x.endk = 1 ∧ x.endv = 0 ∧ x.steps = 7 := by
  have h := firstC
  cases hc : chkC firstFs 100 (start firstFs []) with
  | none => rw [hc] at h; cases h
  | some x =>
    rw [hc] at h
    simp only [Option.map_some, Option.some.injEq, Prod.mk.injEq] at h
    exact ⟨x, fun g => chkC_sound (rs := firstRs g) hc, h⟩
set_option maxRecDepth 100000 in
set_option maxHeartbeats 6400000 in
theorem first6_any (w : World) : Calls Try.prog 8 #[] w fun e w' => e = .returned (.bool true) ∧ Below w.heap.size w w' := by
  have HW1 : Hid (Below w.heap.size w (((w.alloc (.cells (insc code0).toArray 43)).alloc (.cells (insc code1).toArray 43)).alloc (.cells (rawc (firstRs w.heap.size)).toArray 46))) := Lib.hid ((below_2 _ _ _ _ _).alloc (by simp; omega) _)
  have HC := Lib.hid (run_full (w.heap.size + 3) 2 2 _ _ none 0 0 [] 100 _ (lit_first w) (by simp) Reads.none_ (by omega) (fun v hv => by cases hv) (by omega))
  have HR : Hid (∀ er st, RunAns (firstRs w.heap.size) [] 100 er st → er = 0 ∧ st.evs = [(1, 5)] ∧ st.endk = 1 ∧ st.endv = 0 ∧ st.steps = 7) := Lib.hid (by
    intro er st h
    obtain ⟨x, h1, h2, h3, h4, h5, h6⟩ := run_first
    obtain ⟨e1, e2⟩ := h.known verd_first (h1 _)
    rw [if_pos h3] at e2
    subst e2
    exact ⟨e1, h2, h4, h5, h6⟩)
  go_enter Try.func8, Try.ntmps8
  go_wp2_with (go_at_call 9; refine HC.out.mono ?_; rintro e w2 ⟨A, c, st, er, rfl, hra, hown, hb2⟩; have HRA := Lib.hid hra; have HOWN := Lib.hid hown; have HB2 := Lib.hid hb2; clear hra hown hb2; refine Hid.out ?_)
  obtain ⟨rfl, q1, q2, q3, q4⟩ := HR.out _ _ HRA.out
  have ho := HOWN.out
  rw [q1] at ho
  obtain ⟨b, off, rfl, hb, hc⟩ := (Reads.of_own ho).lit (by decide) (by decide)
  have x1 := hc 1 _ rfl
  rw [q1, q2, q3, q4]
  have HBF : Hid (Below w.heap.size w w2) := Lib.hid (HW1.out.trans (HB2.out.mono (by simp; omega)))
  clear HR HRA HOWN ho hc
  refine Lib.hid ?_
  go_wp2
  go_ret
  exact ⟨rfl, HBF.out.alloc (Below.size HBF.out) _⟩
end Go.Proofs.Ytdoabcmfblmklaa

/-
  The statements' arguments opened: programs, bytes (the law on slices of structs is the guide's extra-structs, copied as its page says).
-/
namespace Go.Proofs.Ytdoabcmfblmklaa
set_option linter.unusedVariables false
open Go.ChangeShapes Go.WideShapes Go.ChangeAt Go.RowKit Go.Joins
open Go.Deep
section
variable {H : Type} {enc : TypeId × Value → H} {P : Program} {w : World} {base : Nat} {spare : Nat → Bool} {held : Bool}
theorem open_slice_fields {t e : TypeId} {fs : Array Field} {fuel : Nat} {cs : List Value} {x : DataW H × List MemPlace} (ht : P.underlying t = some (.slice e)) (he : P.underlying e = some (.struct fs))
    (hone : oneCellFields P fs = true) (hC : P.cellsOf e = fs.size) (h : DataW.trod enc P w base spare held fuel t cs = some x) :
    (cs = [.slice none 0 0] ∧ x = (.nil, [])) ∨
    ∃ (a : Addr) (len cap m : Nat) (D : Nat → DataW H) (Pl : Nat → List MemPlace), cs = [.slice (some a) len cap] ∧ base ≤ a.block ∧ len ≤ cap ∧ cap ≤ maxLen ∧ m = (if spare a.block then cap else len) ∧
      x = (.slice ((List.range len).map D) ((List.range (m - len)).map fun j => D (len + j)), MemPlace.row a (m * fs.size) ++ (List.range m).flatMap Pl) ∧
      ∀ i, i < m → ∃ (ys : List (DataW H × List MemPlace)) (n : Nat), D i = .agg (ys.map (·.1)) ∧ Pl i = ys.flatMap (·.2) ∧ ys.length = fs.size ∧
        ∀ (j : Nat) (f : Field), fs[j]? = some f → ∃ (v : Value) (y : DataW H × List MemPlace), w.cell? (a.add (i * fs.size + j)) = some v ∧ ys[j]? = some y ∧ DataW.trod enc P w base spare held n f.type [v] = some y := by
  rcases open_slice ht h with h0 | ⟨a, len, cap, m, n, D, Pl, hcs, hb, hl, hm, hmm, hx, hi⟩
  · exact .inl h0
  · refine .inr ⟨a, len, cap, m, D, Pl, hcs, hb, hl, hm, hmm, by rw [hC] at hx; exact hx, fun i him => ?_⟩
    obtain ⟨cs', hc, ht'⟩ := hi i him
    rw [hC] at hc
    obtain ⟨ys, n', hn', hy, hlen, hyl, hf⟩ := DataW.trod_struct he ht'
    obtain ⟨_, hcl, hat⟩ := World.cells?_some hc
    simp only [Prod.mk.injEq] at hy
    refine ⟨ys, n', hy.1, hy.2, hyl, fun j f hj => ?_⟩
    obtain ⟨ho, hk⟩ := hone_of hone j f hj
    have hjl : j < fs.size := (Array.getElem?_eq_some_iff.1 hj).1
    have hcell := hat j hjl
    have hv : cs'[j]? = some (cs'[j]'(by omega)) := List.getElem?_eq_getElem (by omega)
    have h1 := hf j f hj
    rw [ho, hk] at h1
    have hone' : (cs'.drop j).take 1 = [cs'[j]'(by omega)] := by
      rw [List.drop_eq_getElem_cons (by omega)]
      rfl
    rw [hone'] at h1
    have hys : ys[j]? = some (ys[j]'(by omega)) := List.getElem?_eq_getElem (by omega)
    refine ⟨_, _, ?_, hys, h1.trans hys⟩
    rw [← Go.Deep.add_add, hcell, hv]
end

/-- For each place something: a row of it. -/
theorem row_of {α : Type} {P : Nat → α → Prop} : ∀ (n : Nat), (∀ i, i < n → ∃ x, P i x) → ∃ l : List α, l.length = n ∧ ∀ (i : Nat) (x : α), l[i]? = some x → P i x
  | 0, _ => ⟨[], rfl, fun i x h => by simp at h⟩
  | n + 1, h => by
    obtain ⟨l, hl, hP⟩ := row_of n fun i hi => h i (by omega)
    obtain ⟨x, hx⟩ := h n (by omega)
    refine ⟨l ++ [x], by simp [hl], fun i y hy => ?_⟩
    rcases Nat.lt_trichotomy i n with h1 | h1 | h1
    · rw [List.getElem?_append_left (by omega)] at hy
      exact hP i y hy
    · subst h1
      rw [List.getElem?_append_right (by omega)] at hy
      simp [hl] at hy
      subst hy
      exact hx
    · rw [List.getElem?_eq_none (by simp; omega)] at hy
      cases hy

theorem wf_i64 {n : Int} (h : (Lit.int .i64 n).wf = true) : -9223372036854775808 ≤ n ∧ n ≤ 9223372036854775807 := by
  simp [Lit.wf, IntKind.min, IntKind.max, IntKind.signed, IntKind.bits] at h
  exact h
theorem wf_u64 {n : Int} (h : (Lit.int .u64 n).wf = true) : 0 ≤ n ∧ n < 18446744073709551616 := by
  simp [Lit.wf, IntKind.min, IntKind.max, IntKind.signed, IntKind.bits] at h
  omega

theorem wf_u8 {n : Int} (h : (Lit.int .u8 n).wf = true) : 0 ≤ n ∧ n ≤ 255 := by
  simp [Lit.wf, IntKind.min, IntKind.max, IntKind.signed, IntKind.bits] at h
  omega
/-- cells of rows of m: which row's, which place -/
theorem flat_inv {α : Type} (f : α → List Value) (m : Nat) (hm : 0 < m) (hf : ∀ x, (f x).length = m) (l : List α) (j : Nat) (u : Value) (h : (l.flatMap f)[j]? = some u) : ∃ i x k, l[i]? = some x ∧ k < m ∧ j = i * m + k ∧ (f x)[k]? = some u := by
  induction l generalizing j with
  | nil => simp at h
  | cons y l ih =>
    rw [List.flatMap_cons] at h
    by_cases hj : j < m
    · rw [List.getElem?_append_left (by rw [hf]; exact hj)] at h
      exact ⟨0, y, j, rfl, hj, by omega, h⟩
    · rw [List.getElem?_append_right (by rw [hf]; omega), hf] at h
      obtain ⟨i, x, k, hx, hk, hjk, hu⟩ := ih (j - m) h
      exact ⟨i + 1, x, k, by simpa using hx, hk, by rw [Nat.succ_mul]; omega, hu⟩

section
variable {H : Type} {enc : TypeId × Value → H} {W : World}
theorem block_of_cell {W : World} {a : Addr} {u : Value} (h : W.cell? (a.add 0) = some u) : a.block < W.heap.size := by
  rcases Nat.lt_or_ge a.block W.heap.size with hlt | hge
  · exact hlt
  · have : a.add 0 = a := by simp [Addr.add]
    rw [this] at h
    simp [World.cell?, Array.getElem?_eq_none hge] at h

/-- a slice of bytes or kinds -/
theorem open_u8 {t e : TypeId} (ht : Try.prog.underlying t = some (.slice e)) (he : Try.prog.underlying e = some (.int .u8)) (hc1 : Try.prog.cellsOf e = 1) {fuel : Nat} {cs : List Value} {x : DataW H × List MemPlace}
    (h : DataW.trod enc Try.prog W 0 (fun _ => true) true fuel t cs = some x) :
    ∃ (ao : Option Addr) (c : Nat) (l : List Int), cs = [.slice ao l.length c] ∧ Reads W W.heap.size 1 ao l.length (u8c l) ∧ Byt l ∧ l.length ≤ c ∧ c ≤ maxLen ∧ (ao = none → c = 0) ∧
      ((x.1 = .nil ∧ c = 0) ∨ ∃ elems spare, x.1 = .slice elems spare ∧ elems.length + spare.length = c) := by
  rcases open_ints ht he hc1 h with ⟨hcs, hx⟩ | ⟨a, len, cap, zs, hcs, _, hl, hm, hz, hx, hcell, hwz⟩
  · exact ⟨none, 0, [], hcs, Reads.none_, Byt.nil, Nat.le_refl _, Nat.zero_le _, fun _ => rfl, .inl ⟨by rw [hx], rfl⟩⟩
  · simp only [if_true] at hz
    have hlen : (zs.take len).length = len := by simp; omega
    refine ⟨some a, cap, zs.take len, by rw [hlen]; exact hcs, ?_, fun y hy => wf_u8 (hwz y (List.mem_of_mem_take hy)), by rw [hlen]; exact hl, hm, (fun h => by cases h), .inr ⟨_, _, by rw [hx], by simp [lits]; omega⟩⟩
    rw [hlen]
    refine ⟨by rw [length_u8c, hlen]; simp, fun hn => ⟨a, rfl, block_of_cell (hcell 0 (by omega)), fun j u hu => ?_⟩⟩
    unfold u8c at hu
    rw [List.getElem?_map] at hu
    have hjl : j < (zs.take len).length := by
      rcases Nat.lt_or_ge j (zs.take len).length with h1 | h1
      · exact h1
      · rw [List.getElem?_eq_none h1] at hu; cases hu
    have hjz : j < zs.length := by simp at hjl; omega
    have hjn : j < len := by simp at hjl; omega
    rw [hcell j hjz, ← hu, List.getElem?_take, if_pos hjn, List.getElem?_eq_getElem hjz]
    simp [List.getD, hjz]

/-- a slice of instructions -/
theorem open_ins {fuel : Nat} {cs : List Value} {x : DataW H × List MemPlace} (h : DataW.trod enc Try.prog W 0 (fun _ => true) true fuel 40 cs = some x) :
    ∃ (ao : Option Addr) (c : Nat) (l : List Ins), cs = [.slice ao l.length c] ∧ Reads W W.heap.size 3 ao l.length (insc l) ∧ (∀ i ∈ l, WfI i) ∧ l.length ≤ c ∧
      ((x.1 = .nil ∧ c = 0) ∨ ∃ elems spare, x.1 = .slice elems spare ∧ elems.length + spare.length = c) := by
  rcases open_slice_fields Try.underlying40 Try.underlying43 (by kernel_rfl) (by kernel_rfl) h with ⟨hcs, hx⟩ | ⟨a, len, cap, m, D, Pl, hcs, _, hl, hm, hmm, hx, hi⟩
  · exact ⟨none, 0, [], hcs, Reads.none_, (fun i hi => by cases hi), Nat.le_refl _, .inl ⟨by rw [hx], rfl⟩⟩
  · simp only [if_true] at hmm
    subst hmm
    obtain ⟨l, hll, hlp⟩ := row_of (P := fun i (x : Ins) => WfI x ∧ W.cell? (a.add (i * 3)) = some (.int .u8 x.op) ∧ W.cell? (a.add (i * 3 + 1)) = some (.int .i64 x.arg) ∧ W.cell? (a.add (i * 3 + 2)) = some (.int .u64 x.imm)) len (fun i hin => by
      obtain ⟨ys, k, _, _, hyl, hj⟩ := hi i (by omega)
      obtain ⟨v0, y0, hc0, _, ht0⟩ := hj 0 _ rfl
      obtain ⟨v1, y1, hc1, _, ht1⟩ := hj 1 _ rfl
      obtain ⟨v2, y2, hc2, _, ht2⟩ := hj 2 _ rfl
      obtain ⟨n0, e0, _, w0⟩ := DataW.trod_int Try.underlying41 ht0
      obtain ⟨n1, e1, _, w1⟩ := DataW.trod_int Try.underlying3 ht1
      obtain ⟨n2, e2, _, w2⟩ := DataW.trod_int Try.underlying30 ht2
      simp only [List.cons.injEq, and_true] at e0 e1 e2
      subst e0 e1 e2
      have h0 := wf_u8 w0
      have h1 := wf_i64 w1
      have h2 := wf_u64 w2
      exact ⟨⟨n0, n1, n2⟩, ⟨h0.1, h0.2, h1.1, h1.2, h2.1, by show n2 ≤ _; omega⟩, hc0, hc1, hc2⟩)
    refine ⟨some a, m, l, by rw [hll]; exact hcs, ?_, ?_, by omega, .inr ⟨_, _, by rw [hx], by simp; omega⟩⟩
    · rw [hll]
      refine ⟨by rw [length_insc, hll], fun hn => ⟨a, rfl, ?_, fun j u hu => ?_⟩⟩
      · obtain ⟨x, hx0⟩ : ∃ x, l[0]? = some x := ⟨_, List.getElem?_eq_getElem (by omega)⟩
        exact block_of_cell (hlp 0 x hx0).2.1
      · obtain ⟨i, x, k, hxi, hk, rfl, hv⟩ := flat_inv insOne 3 (by omega) (fun _ => rfl) l j u hu
        have hp := hlp i x hxi
        obtain rfl | rfl | rfl : k = 0 ∨ k = 1 ∨ k = 2 := by omega
        · rw [← hv]; exact hp.2.1
        · rw [← hv]; exact hp.2.2.1
        · rw [← hv]; exact hp.2.2.2
    · intro x hx
      obtain ⟨i, hil, rfl⟩ := List.getElem_of_mem hx
      exact (hlp i _ (List.getElem?_eq_getElem hil)).1

/-- a datum takes no more than the form's reach -/
def Small (t : TypeId) (d : DataW H) : Prop := ∀ x ∈ d.weights Try.prog t, x ≤ reachBytes
theorem small_slice {t e : TypeId} {elems spare : List (DataW H)} {b : Nat} (h : Small t (DataW.slice elems spare)) (ht : Try.prog.underlying t = some (.slice e)) (hb : Try.prog.bytesOf e = b) : (elems.length + spare.length) * b ≤ 140737488351232 := by
  have := h ((elems.length + spare.length) * Try.prog.bytesOf e) (by simp [DataW.weights, ht])
  rw [hb] at this
  simpa [reachBytes] using this
theorem mem_weightsAll {P : Program} {e : TypeId} {d : DataW H} {l : List (DataW H)} (hd : d ∈ l) {x : Nat} (hx : x ∈ d.weights P e) : x ∈ DataW.weightsAll P e l := by
  induction l with
  | nil => cases hd
  | cons y l ih =>
    rw [DataW.weightsAll, List.mem_append]
    rcases List.mem_cons.1 hd with rfl | hd
    · exact .inl hx
    · exact .inr (ih hd)
theorem small_elem {t e : TypeId} {elems spare : List (DataW H)} (h : Small t (DataW.slice elems spare)) (ht : Try.prog.underlying t = some (.slice e)) {d : DataW H} (hd : d ∈ elems) : Small e d := by
  intro x hx
  refine h x ?_
  simp only [DataW.weights, ht, List.mem_cons, List.mem_append]
  exact .inr (.inl (mem_weightsAll hd hx))
theorem small_field {t : TypeId} {fs : Array Field} {parts : List (DataW H)} (h : Small t (DataW.agg parts)) (ht : Try.prog.underlying t = some (.struct fs)) {j : Nat} {f : Field} {d : DataW H} (hf : (fs.toList.map (·.type))[j]? = some f.type) (hd : parts[j]? = some d) : Small f.type d := by
  intro x hx
  refine h x ?_
  simp only [DataW.weights, ht]
  exact DataW.weights_mem_each hf hd x hx

set_option maxRecDepth 100000 in
/-- the functions of a program -/
theorem open_fns {fuel : Nat} {cs : List Value} {x : DataW H × List MemPlace} (h : DataW.trod enc Try.prog W 0 (fun _ => true) true fuel 22 cs = some x) (hs : Small 22 x.1) :
    ∃ (ao : Option Addr) (n c : Nat) (rs : List Raw), cs = [.slice ao n c] ∧ RdP W W.heap.size ao n rs := by
  rcases open_slice_fields Try.underlying22 Try.underlying46 (by kernel_rfl) (by kernel_rfl) h with ⟨hcs, hx⟩ | ⟨a, len, cap, m, D, Pl, hcs, _, hl, hm, hmm, hx, hi⟩
  · exact ⟨none, 0, 0, [], hcs, ⟨Reads.none_, rfl, (fun r hr => by cases hr), (fun r hr => by cases hr), by omega⟩⟩
  · simp only [if_true] at hmm
    subst hmm
    rw [hx] at hs
    have hsz := small_slice hs Try.underlying22 (show Try.prog.bytesOf 46 = 72 by kernel_rfl)
    obtain ⟨l, hll, hlp⟩ := row_of (P := fun i (r : Raw) => RdF W W.heap.size r ∧ WfF r.fn ∧ W.cell? (a.add (i * 5)) = some (.int .i64 r.fn.params) ∧ W.cell? (a.add (i * 5 + 1)) = some (.slice r.lo r.fn.locals.length r.lc) ∧ W.cell? (a.add (i * 5 + 2)) = some (.bool r.fn.result) ∧
        W.cell? (a.add (i * 5 + 3)) = some (.int .i64 r.fn.keep) ∧ W.cell? (a.add (i * 5 + 4)) = some (.slice r.co r.fn.code.length r.cc)) len (fun i hin => by
      obtain ⟨ys, k, hD, _, hyl, hj⟩ := hi i (by omega)
      have hsi : Small 46 (D i) := small_elem hs Try.underlying22 (List.mem_map.2 ⟨i, List.mem_range.2 hin, rfl⟩)
      rw [hD] at hsi
      obtain ⟨v0, y0, hc0, _, ht0⟩ := hj 0 _ rfl
      obtain ⟨v1, y1, hc1, hy1, ht1⟩ := hj 1 _ rfl
      obtain ⟨v2, y2, hc2, _, ht2⟩ := hj 2 _ rfl
      obtain ⟨v3, y3, hc3, _, ht3⟩ := hj 3 _ rfl
      obtain ⟨v4, y4, hc4, hy4, ht4⟩ := hj 4 _ rfl
      obtain ⟨n0, e0, _, w0⟩ := DataW.trod_int Try.underlying3 ht0
      obtain ⟨lo, lc, ls, e1, hr1, hb1, hlc, _, _, hd1⟩ := open_u8 Try.underlying44 Try.underlying47 (by kernel_rfl) ht1
      obtain ⟨b2, e2, _⟩ := DataW.trod_bool Try.underlying4 ht2
      obtain ⟨n3, e3, _, w3⟩ := DataW.trod_int Try.underlying3 ht3
      obtain ⟨co, cc, is, e4, hr4, hw4, hcc, hd4⟩ := open_ins ht4
      have h1 := wf_i64 w0
      have h3 := wf_i64 w3
      have s1 : Small 44 y1.1 := small_field hsi Try.underlying46 (j := 1) rfl (by rw [List.getElem?_map, hy1]; rfl)
      have s4 : Small 40 y4.1 := small_field hsi Try.underlying46 (j := 4) rfl (by rw [List.getElem?_map, hy4]; rfl)
      have b1 : ls.length ≤ 140737488351232 := by
        rcases hd1 with ⟨_, h0⟩ | ⟨elems, spare, he, hc⟩
        · omega
        · rw [he] at s1
          have := small_slice s1 Try.underlying44 (show Try.prog.bytesOf 47 = 1 by kernel_rfl)
          omega
      have b4 : is.length * 24 ≤ 140737488351232 := by
        rcases hd4 with ⟨_, h0⟩ | ⟨elems, spare, he, hc⟩
        · omega
        · rw [he] at s4
          have := small_slice s4 Try.underlying40 (show Try.prog.bytesOf 43 = 24 by kernel_rfl)
          omega
      simp only [List.cons.injEq, and_true] at e0 e1 e2 e3 e4
      subst e0 e1 e2 e3 e4
      exact ⟨⟨⟨n0, ls, b2, n3, is⟩, lo, lc, co, cc⟩, ⟨hr1, hr4, hlc⟩, ⟨h1.1, h1.2, h3.1, h3.2, hb1, hw4, b1, b4⟩, hc0, hc1, hc2, hc3, hc4⟩)
    refine ⟨some a, len, m, l, hcs, ⟨⟨by rw [length_rawc, hll], fun hn => ⟨a, rfl, ?_, fun j u hu => ?_⟩⟩, hll, fun r hr => ?_, fun r hr => ?_, ?_⟩⟩
    · obtain ⟨x, hx0⟩ : ∃ x, l[0]? = some x := ⟨_, List.getElem?_eq_getElem (by omega)⟩
      exact block_of_cell (hlp 0 x hx0).2.2.1
    · obtain ⟨i, x, k, hxi, hk, rfl, hv⟩ := flat_inv rawOne 5 (by omega) (fun _ => rfl) l j u hu
      have hp := hlp i x hxi
      obtain rfl | rfl | rfl | rfl | rfl : k = 0 ∨ k = 1 ∨ k = 2 ∨ k = 3 ∨ k = 4 := by omega
      · rw [← hv]; exact hp.2.2.1
      · rw [← hv]; exact hp.2.2.2.1
      · rw [← hv]; exact hp.2.2.2.2.1
      · rw [← hv]; exact hp.2.2.2.2.2.1
      · rw [← hv]; exact hp.2.2.2.2.2.2
    · obtain ⟨i, hil, rfl⟩ := List.getElem_of_mem hr
      exact (hlp i _ (List.getElem?_eq_getElem hil)).1
    · obtain ⟨i, hil, rfl⟩ := List.getElem_of_mem hr
      exact (hlp i _ (List.getElem?_eq_getElem hil)).2.1
    · simp at hsz
      have := Nat.mul_le_mul_right 72 hl
      omega

set_option maxRecDepth 100000 in
theorem open_prog {base : Nat} {v : Value} {d : DataW H} {p : List MemPlace} (hv : Value.okWide Try.prog W .any base 24 v) (h : DataW.Trod enc Try.prog W 0 (fun _ => true) true 24 v d p) (hs : Small 24 d) :
    ∃ (ao : Option Addr) (n c : Nat) (rs : List Raw), v = .agg #[.slice ao n c] ∧ RdP W W.heap.size ao n rs := by
  obtain ⟨cs, rfl, hsz⟩ := okWide_struct Try.underlying24 hv
  obtain ⟨l⟩ := cs
  match l, hsz.trans (show Try.prog.cellsOf 24 = 1 by kernel_rfl) with
  | [c0], _ =>
    obtain ⟨fuel, hf⟩ := h
    obtain ⟨xs, n, _, hx, _, hlen, hg⟩ := DataW.trod_struct Try.underlying24 hf
    match xs, hlen with
    | [y0], _ =>
      simp only [Prod.mk.injEq] at hx
      have h0 : DataW.trod enc Try.prog W 0 (fun _ => true) true n 22 [c0] = some y0 := by
        have := hg 0 _ rfl
        simpa [Value.cells, show Try.prog.cellsOf 22 = 1 by kernel_rfl] using this
      rw [hx.1] at hs
      have s0 : Small 22 y0.1 := small_field hs Try.underlying24 (j := 0) rfl rfl
      obtain ⟨ao, m, c, rs, e, hr⟩ := open_fns h0 s0
      simp only [List.cons.injEq, and_true] at e
      subst e
      exact ⟨ao, m, c, rs, rfl, hr⟩
end
end Go.Proofs.Ytdoabcmfblmklaa

/-
  The statements' arguments opened: words, two numbers.
-/
namespace Go.Proofs.Ytdoabcmfblmklaa
set_option linter.unusedVariables false
open Go.ChangeShapes Go.WideShapes Go.ChangeAt Go.RowKit Go.Joins
open Go.Deep
section
variable {H : Type} {enc : TypeId × Value → H} {W : World}
set_option maxRecDepth 100000 in
theorem open_words {base : Nat} {v : Value} {d : DataW H} {p : List MemPlace} (hv : Value.okWide Try.prog W .any base 25 v) (h : DataW.Trod enc Try.prog W 0 (fun _ => true) true 25 v d p) :
    ∃ (ao : Option Addr) (n c : Nat) (l : List Int), v = .slice ao n c ∧ Reads W W.heap.size 1 ao n (u64c l) ∧ l.length = n ∧ n ≤ c ∧ (∀ x ∈ l, 0 ≤ x ∧ x < 18446744073709551616) ∧
      ((d = .nil ∧ c = 0) ∨ ∃ elems spare, d = .slice elems spare ∧ elems.length + spare.length = c) := by
  obtain ⟨ao, n, c, rfl⟩ := okWide_slice Try.underlying25 hv
  obtain ⟨fuel, hf⟩ := h
  rcases open_ints Try.underlying25 Try.underlying30 (by kernel_rfl) hf with ⟨hcs, hx⟩ | ⟨a, len, cap, zs, hcs, _, hl, hm, hz, hx, hcell, hwz⟩
  · simp [Value.cells] at hcs
    obtain ⟨rfl, rfl, rfl⟩ := hcs
    simp only [Prod.mk.injEq] at hx
    exact ⟨none, 0, 0, [], rfl, Reads.none_, rfl, Nat.le_refl _, (fun x hx => by cases hx), .inl ⟨hx.1, rfl⟩⟩
  · simp [Value.cells] at hcs
    obtain ⟨rfl, rfl, rfl⟩ := hcs
    simp only [if_true] at hz
    simp only [Prod.mk.injEq] at hx
    refine ⟨some a, n, c, zs.take n, rfl, ⟨by simp [u64c]; omega, fun hn => ⟨a, rfl, ?_, fun j u hu => ?_⟩⟩, by simp; omega, hl, (fun x hx => wf_u64 (hwz x (List.mem_of_mem_take hx))), .inr ⟨_, _, hx.1, ?_⟩⟩
    · have hc := hcell 0 (by omega)
      rcases Nat.lt_or_ge a.block W.heap.size with hlt | hge
      · exact hlt
      · have : a.add 0 = a := by simp [Addr.add]
        rw [this] at hc
        simp [World.cell?, Array.getElem?_eq_none hge] at hc
    · unfold u64c at hu
      rw [List.getElem?_map] at hu
      have hjl : j < (zs.take n).length := by
        rcases Nat.lt_or_ge j (zs.take n).length with h1 | h1
        · exact h1
        · rw [List.getElem?_eq_none h1] at hu; cases hu
      have hjz : j < zs.length := by simp at hjl; omega
      have hjn : j < n := by simp at hjl; omega
      rw [hcell j hjz, ← hu, List.getElem?_take, if_pos hjn, List.getElem?_eq_getElem hjz]
      simp [List.getD, hjz]
    · simp [lits]; omega

set_option maxRecDepth 100000 in
theorem open_two {base : Nat} {v : Value} {d : DataW H} {p : List MemPlace} (hv : Value.okWide Try.prog W .any base 26 v) (h : DataW.Trod enc Try.prog W 0 (fun _ => true) true 26 v d p) :
    ∃ c0 c1 : Int, v = .agg #[.int .i64 c0, .int .i64 c1] ∧ (-9223372036854775808 ≤ c0 ∧ c0 ≤ 9223372036854775807) ∧ (-9223372036854775808 ≤ c1 ∧ c1 ≤ 9223372036854775807) := by
  obtain ⟨cs, rfl, hsz⟩ : ∃ cs, v = .agg cs ∧ cs.size = Try.prog.cellsOf 26 := by
    simp only [Value.okWide, Try.underlying26] at hv
    obtain ⟨cs, h1, h2, _⟩ := hv
    exact ⟨cs, h1, h2⟩
  obtain ⟨a, b, rfl⟩ := array2 (hsz.trans (show Try.prog.cellsOf 26 = 2 by kernel_rfl))
  obtain ⟨fuel, hf⟩ := h
  obtain ⟨xs, m, _, _, _, hxl, hg⟩ := DataW.trod_array Try.underlying26 hf
  have g0 := hg 0 (by omega)
  have g1 := hg 1 (by omega)
  rw [show Try.prog.cellsOf 3 = 1 by kernel_rfl] at g0 g1
  simp [Value.cells] at g0 g1
  rw [List.getElem?_eq_getElem (by omega)] at g0 g1
  obtain ⟨n0, e0, _, w0⟩ := DataW.trod_int Try.underlying3 g0
  obtain ⟨n1, e1, _, w1⟩ := DataW.trod_int Try.underlying3 g1
  simp only [List.cons.injEq, and_true] at e0 e1
  subst e0 e1
  exact ⟨n0, n1, rfl, wf_i64 w0, wf_i64 w1⟩
end
end Go.Proofs.Ytdoabcmfblmklaa

/-
  Events compared: the document's Begins and Same, over a run's events.
-/
namespace Go.Proofs.Ytdoabcmfblmklaa
set_option linter.unusedVariables false
set_option linter.unusedSimpArgs false
open Go.ChangeShapes Go.WideShapes Go.ChangeAt Go.RowKit

abbrev Ev := Int × Int
theorem length_evc6 (l : List Ev) : (evc6 l).length = l.length * 2 := by
  induction l with
  | nil => rfl
  | cons p l ih => unfold evc6 at *; rw [List.flatMap_cons, List.length_append, ih]; simp; omega
theorem evc_kind (l : List Ev) (j : Nat) (p : Ev) (h : l[j]? = some p) : (evc6 l)[j * 2]? = some (.int .i64 p.1) := by
  induction l generalizing j with
  | nil => simp at h
  | cons q l ih =>
    cases j with
    | zero => simp at h; subst h; rfl
    | succ j =>
      have e : (evc6 (q :: l)) = .int .i64 q.1 :: .int .u64 q.2 :: evc6 l := rfl
      rw [e, show (j + 1) * 2 = j * 2 + 1 + 1 by omega, List.getElem?_cons_succ, List.getElem?_cons_succ]
      exact ih j (by simpa using h)
theorem evc_value (l : List Ev) (j : Nat) (p : Ev) (h : l[j]? = some p) : (evc6 l)[j * 2 + 1]? = some (.int .u64 p.2) := by
  induction l generalizing j with
  | nil => simp at h
  | cons q l ih =>
    cases j with
    | zero => simp at h; subst h; rfl
    | succ j =>
      have e : (evc6 (q :: l)) = .int .i64 q.1 :: .int .u64 q.2 :: evc6 l := rfl
      rw [e, show (j + 1) * 2 + 1 = j * 2 + 1 + 1 + 1 by omega, List.getElem?_cons_succ, List.getElem?_cons_succ]
      exact ih j (by simpa using h)

theorem Reads.ev {w : World} {B n : Nat} {A : Option Addr} {l : List Ev} (h : Reads w B 2 A n (evc6 l)) (hn : l.length = n) {k : Nat} (hk : k < n) :
    ∃ b off x, A = some ⟨b, off, none⟩ ∧ b < B ∧ Hid (l[k]? = some x) ∧ w.cell? ⟨b, off + k * 2, none⟩ = some (.int .i64 x.1) ∧ w.cell? ⟨b, off + k * 2 + 1, none⟩ = some (.int .u64 x.2) := by
  obtain ⟨b, off, rfl, hb, hc⟩ := h.lit (by omega) (by omega)
  have hl : k < l.length := by omega
  exact ⟨b, off, l[k], rfl, hb, List.getElem?_eq_getElem hl, hc _ _ (evc_kind _ _ _ (List.getElem?_eq_getElem hl)), by rw [Nat.add_assoc]; exact hc _ _ (evc_value _ _ _ (List.getElem?_eq_getElem hl))⟩

theorem equalIn_ev (a b : Ev) (w : World) : Sem.run Try.prog (Op.equalIn 10000 50 (.agg #[.int .i64 a.1, .int .u64 a.2]) (.agg #[.int .i64 b.1, .int .u64 b.2])) w = .ok (decide (a = b)) w := by
  have hS : Try.prog.underlying 50 = some (.struct (Try.prog.fieldsOf 50)) := by kernel_rfl
  have hp : Try.prog.stoodInHeld 50 = false := by kernel_rfl
  have u3 := Try.underlying48
  have u26 := Try.underlying30
  have a3 := Try.isAgg48
  have a26 := Try.isAgg30
  have z3 := Try.sizeOf48
  have z26 := Try.sizeOf30
  show (Op.equalIn 10000 50 (.agg #[.int .i64 a.1, .int .u64 a.2]) (.agg #[.int .i64 b.1, .int .u64 b.2])).run Try.prog w = _
  rw [show (10000 : Nat) = 9999 + 1 from rfl, run_equalIn_agg w 9999 50 _ _ hS hp]
  simp only [Program.fieldsOf, Try.underlying50]
  go_simp
  obtain ⟨a1, a2⟩ := a
  obtain ⟨b1, b2⟩ := b
  by_cases h1 : a1 = b1 <;> by_cases h2 : a2 = b2 <;> simp [h1, h2]
theorem equalIn_end (a b : Ev) (w : World) : Sem.run Try.prog (Op.equalIn 10000 32 (.agg #[.int .i64 a.1, .int .u64 a.2]) (.agg #[.int .i64 b.1, .int .u64 b.2])) w = .ok (decide (a = b)) w := by
  have hS : Try.prog.underlying 32 = some (.struct (Try.prog.fieldsOf 32)) := by kernel_rfl
  have hp : Try.prog.stoodInHeld 32 = false := by kernel_rfl
  have u3 := Try.underlying29
  have u26 := Try.underlying30
  have a3 := Try.isAgg29
  have a26 := Try.isAgg30
  have z3 := Try.sizeOf29
  have z26 := Try.sizeOf30
  show (Op.equalIn 10000 32 (.agg #[.int .i64 a.1, .int .u64 a.2]) (.agg #[.int .i64 b.1, .int .u64 b.2])).run Try.prog w = _
  rw [show (10000 : Nat) = 9999 + 1 from rfl, run_equalIn_agg w 9999 32 _ _ hS hp]
  simp only [Program.fieldsOf, Try.underlying32]
  go_simp
  obtain ⟨a1, a2⟩ := a
  obtain ⟨b1, b2⟩ := b
  by_cases h1 : a1 = b1 <;> by_cases h2 : a2 = b2 <;> simp [h1, h2]
/-- are a's events b's first ones? -/
def beg (a b : List Ev) : Bool := decide (a = b.take a.length)
/-- are they the same? -/
def sam (a b : List Ev) : Bool := decide (a = b)

theorem beg_long {a b : List Ev} (h : b.length < a.length) : beg a b = false := by
  unfold beg
  simp only [decide_eq_false_iff_not]
  intro h
  have := congrArg List.length h
  rw [List.length_take] at this
  omega
theorem sam_len {a b : List Ev} (h : a.length ≠ b.length) : sam a b = false := by
  unfold sam
  simp only [decide_eq_false_iff_not]
  intro e
  exact h (by rw [e])
theorem ev_snoc {l : List Ev} {k : Nat} {x : Ev} (h : l[k]? = some x) : l.take (k + 1) = l.take k ++ [x] := by
  rw [List.take_add_one, h]; rfl
theorem beg_ne {a b : List Ev} {k : Nat} {x y : Ev} (hx : a[k]? = some x) (hy : b[k]? = some y) (h : x ≠ y) : beg a b = false := by
  unfold beg
  simp only [decide_eq_false_iff_not]
  intro e
  have hk : k < a.length := (List.getElem?_eq_some_iff.1 hx).1
  rw [e, List.getElem?_take, if_pos hk, hy] at hx
  exact h (by simpa using hx.symm)
theorem sam_ne {a b : List Ev} {k : Nat} {x y : Ev} (hx : a[k]? = some x) (hy : b[k]? = some y) (h : x ≠ y) : sam a b = false := by
  unfold sam
  simp only [decide_eq_false_iff_not]
  intro e
  rw [e, hy] at hx
  exact h (by simpa using hx.symm)
theorem beg_yes {a b : List Ev} (h : b.take a.length = a.take a.length) : beg a b = true := by
  unfold beg
  simp only [decide_eq_true_eq]
  rw [h, List.take_length]
theorem sam_yes {a b : List Ev} (hl : a.length = b.length) (h : b.take a.length = a.take a.length) : sam a b = true := by
  unfold sam
  simp only [decide_eq_true_eq]
  rw [List.take_length, hl, List.take_length] at h
  exact h.symm
theorem sam_beg {a b : List Ev} (hl : a.length = b.length) : sam a b = beg a b := by
  unfold sam beg
  rw [hl, List.take_length]
theorem beg_sam {a b : List Ev} {n : Nat} (hl : a.length = n) : beg a b = sam a (b.take n) := by
  unfold sam beg
  rw [hl]

set_option maxHeartbeats 800000 in
theorem begins_any (B : Nat) (ao bo : Option Addr) (n m c d : Nat) (la lb : List Ev) (w : World) (ha : Reads w B 2 ao n (evc6 la)) (hb : Reads w B 2 bo m (evc6 lb)) (hn : la.length = n) (hm : lb.length = m)
    (hnb : n ≤ maxLen) (hmb : m ≤ maxLen) :
    Calls Try.prog 11 #[.slice ao n c, .slice bo m d] w fun e w' => e = .returned (.bool (beg la lb)) ∧ ∃ q, w' = w.drewN q := by
  unfold maxLen at hnb hmb
  have HA := Lib.hid ha
  have HB := Lib.hid hb
  have HN := Lib.hid hn
  have HM := Lib.hid hm
  clear ha hb hn hm
  by_cases hgt : m < n
  · have hr : beg la lb = false := beg_long (by rw [HN.out, HM.out]; exact hgt)
    have HR := Lib.hid hr
    clear hr
    go_enter Try.func11, Try.ntmps11
    go_wp2
    go_ret
    exact ⟨by rw [HR.out]; rfl, 0, rfl⟩
  · go_enter Try.func11, Try.ntmps11
    go_wp2
    go_loopw [13] (fun i wr => ∃ k q : Nat, k ≤ n ∧ i = .int .i64 k ∧ Hid (lb.take k = la.take k) ∧ wr = w.drewN q) (fun i _ => n - (intOf i).toNat)
    case atStart => exact ⟨0, 0, Nat.zero_le _, rfl, rfl, rfl⟩
    case round =>
      obtain ⟨k, q, hk, rfl, HP, rfl⟩ := hrel
      by_cases hlt : k < n
      · obtain ⟨b1, o1, x, rfl, hb1, HX, x1, x2⟩ := HA.out.ev HN.out hlt
        obtain ⟨b2, o2, y, rfl, hb2, HY, y1, y2⟩ := HB.out.ev HM.out (k := k) (by omega)
        have he : ∀ W, Sem.run Try.prog (Op.equalIn 10000 50 (.agg #[.int .i64 x.1, .int .u64 x.2]) (.agg #[.int .i64 y.1, .int .u64 y.2])) W = .ok (decide (x = y)) W := equalIn_ev x y
        by_cases hxy : x = y
        · have hd : decide (x = y) = true := by simpa using hxy
          rw [hd] at he
          have HXY := Lib.hid hxy
          clear hxy hd
          go_wp2
          go_quiet (fail)
          go_wp2
          go_roundw
          case rel => exact ⟨k + 1, q + nq, by omega, by go_num, by show lb.take (k + 1) = la.take (k + 1); rw [ev_snoc HX.out, ev_snoc HY.out, HP.out, HXY.out], rfl⟩
          case measure => simp [intOf]; omega
        · have hd : decide (x = y) = false := by simpa using hxy
          rw [hd] at he
          have hr : beg la lb = false := beg_ne HX.out HY.out hxy
          have HR := Lib.hid hr
          clear hxy hd hr
          go_wp2
          go_quiet (fail)
          go_wp2
          go_ret
          exact ⟨by rw [HR.out]; rfl, q + nq, World.drewN_drewN _ _ _⟩
      · obtain rfl : k = n := by omega
        have hr : beg la lb = true := by
          have h := HP.out
          rw [← HN.out] at h
          exact beg_yes h
        have HR := Lib.hid hr
        clear hr
        go_wp2
        go_ret
        exact ⟨by rw [HR.out]; rfl, _, rfl⟩

theorem refsame_any (B : Nat) (ao bo : Option Addr) (n m c d : Nat) (la lb : List Ev) (w : World) (ha : Reads w B 2 ao n (evc6 la)) (hb : Reads w B 2 bo m (evc6 lb)) (hn : la.length = n) (hm : lb.length = m)
    (hnb : n ≤ maxLen) (hmb : m ≤ maxLen) :
    Calls Try.prog 10 #[.slice ao n c, .slice bo m d] w fun e w' => e = .returned (.bool (sam la lb)) ∧ ∃ q, w' = w.drewN q := by
  have HE := Lib.hid (begins_any B ao bo n m c d la lb w ha hb hn hm hnb hmb)
  unfold maxLen at hnb hmb
  by_cases heq : n = m
  · subst heq
    have hr : beg la lb = sam la lb := (sam_beg (hn.trans hm.symm)).symm
    have HR := Lib.hid hr
    clear ha hb hn hm hr
    go_enter Try.func10, Try.ntmps10
    go_wp2_with (go_at_call 11; refine HE.out.mono ?_; rintro e w' ⟨rfl, q, rfl⟩)
    go_ret
    exact ⟨by rw [← HR.out]; rfl, q, rfl⟩
  · have hr : sam la lb = false := sam_len (by rw [hn, hm]; exact heq)
    have HR := Lib.hid hr
    clear ha hb hn hm hr
    go_enter Try.func10, Try.ntmps10
    go_wp2
    go_ret
    exact ⟨by rw [HR.out]; rfl, 0, rfl⟩

end Go.Proofs.Ytdoabcmfblmklaa
