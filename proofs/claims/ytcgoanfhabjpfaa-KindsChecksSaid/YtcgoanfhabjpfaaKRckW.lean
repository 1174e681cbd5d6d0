/-
  The row's own package: Check, walked.
-/
import Derived.Test.YtcgoanfhabjpfaaKStkW
import Derived.Test.YtcgoanfhabjpfaaKNamW
import Derived.Test.YtcgoanfhabjpfaaKCheck
import Derived.Test.YtcgoanfhabjpfaaRefBytes
import Derived.Test.YtcgoanfhabjpfaaRefBnd
namespace Go.Proofs.Ytcgoanfhabjpfaa
set_option linter.unusedVariables false
set_option linter.unusedSimpArgs false
open Go.ChangeShapes Go.WideShapes Go.ChangeAt Go.RowKit

theorem info_strs : (Try.prog.info? 40).map (fun i => (i.zero, i.size, i.bytes)) = some (some (.slice none 0 0), 1, 24) := by kernel_rfl
theorem app_strs {w : World} {ops : Array Oper} {rest : List Oper} {o : Oper} {a : Act} {Q : Exit → Act → World → Prop} (hgd : o.guard = none) (s x : Operand)
    (ho : o.op = .call { callee := .builtin .append, args := #[s, x], argTypes := #[31, 31] }) (base : Nat)
    (v : Value) (n : Nat) (xs : List Value) (hs : a.eval s = v) (hown : w.ownsRow base 40 1 v n xs)
    (B : Nat) (A : Option Addr) (m c : Nat) (news : List Value) (hx : a.eval x = .slice A m c) (hr : Reads w B 1 A m news) (h1 : ∀ u ∈ news, u.oneCell' = true)
    (hbytes : (n + m) * 24 ≤ 140737488355328) (hbase : base ≤ w.heap.size)
    (h : ∀ v' w', w'.ownsRow base 40 1 v' (n + m) (xs ++ news) → w.grownBy w' v.ownBlock → (v'.ownBlock = v.ownBlock ∨ v'.ownBlock = some w.heap.size) → wpList Try.prog ops Q rest (a.put o.dst v') w') : wpList Try.prog ops Q (o :: rest) a w := by
  obtain ⟨i0, hi, hz0, hz1, hz2⟩ := info_parts info_strs
  exact wpList_append_any w hgd s x _ ho base 40 i0 (.slice none 0 0) 1 24 Try.underlying31 hi hz0 hz1 hz2 rfl (by decide) v n xs hs hown B A m c news hx hr h1 (by unfold maxLen; omega) hbytes hbase h
/-- a row of strings of the call's own -/
def RowAt (base : Nat) (w : World) (l : List (Option Stk)) (v : Value) : Prop := ∃ a k c, v = .slice a k c ∧ k = l.length ∧ w.ownsRow base 9 1 (.slice a k c) k (rowO l)
/-- what the row's Check answers -/
def RckP (w : World) (n : Nat) (fs : List Fn) (e : Ending) (w' : World) : Prop := Below w.heap.size w w' ∧
  ((verd fs ≠ 0 ∧ e = .returned (.tuple #[.slice none 0 0, .int .i64 (verd fs)])) ∨
    (verd fs = 0 ∧ ∃ A c ls vs, e = .returned (.tuple #[.slice A n c, .int .i64 0]) ∧ w'.ownsRow w.heap.size 40 1 (.slice A n c) n vs ∧ vs.length = n ∧ (∀ (j : Nat) l, ls[j]? = some l → ∃ v, vs[j]? = some v ∧ RowAt w.heap.size w' l v) ∧ Sols fs fs ls))
/-- a function with a stack too deep -/
def DeepF (fs : List Fn) (f : Fn) : Prop := ∃ a s, Reach fs f a s ∧ 16 < s.length
/-- so far -/
structure RckI (w : World) (A : Option Addr) (n c : Nat) (fs : List Fn) (k : Nat) (ls : List (List (Option Stk))) (vs : List Value) (d : Bool) (A' : Option Addr) (c' : Nat) (wr : World) : Prop where
  box : Blk wr w.heap.size 24 #[.slice A n c]
  own : wr.ownsRow w.heap.size 40 1 (.slice A' k c') k vs
  below : Below w.heap.size w wr
  lls : ls.length = k
  lvs : vs.length = k
  rows : ∀ (j : Nat) l, ls[j]? = some l → ∃ v, vs[j]? = some v ∧ RowAt w.heap.size wr l v
  sols : ∀ (j : Nat) f, j < k → fs[j]? = some f → ∃ l, ls[j]? = some l ∧ Sol fs f l
  deep : d = true ↔ ∃ (j : Nat) (f : Fn), j < k ∧ fs[j]? = some f ∧ DeepF fs f
section
variable {w wr w2 w8 : World} {A A' : Option Addr} {n c c' k : Nat} {fs : List Fn} {ls : List (List (Option Stk))} {vs : List Value} {d : Bool} {l : List (Option Stk)} {v v8 : Value} {f : Fn}
theorem RowAt.kept {base : Nat} (h : RowAt base wr l v) (hk : ∀ (u : Value) (q : Nat) (xs : List Value), wr.ownsRow base 9 1 u q xs → w2.ownsRow base 9 1 u q xs) : RowAt base w2 l v := by
  obtain ⟨a, q, e, h1, h2, h3⟩ := h
  exact ⟨a, q, e, h1, h2, hk _ _ _ h3⟩
theorem RckI.on (h : RckI w A n c fs k ls vs d A' c' wr) (hb : Below wr.heap.size wr w2) : RckI w A n c fs k ls vs d A' c' w2 :=
  ⟨h.box.below hb h.box.lt, own_kept h.own (fun i hi => hb.block i (own_lt h.own hi).2), h.below.trans (hb.mono h.below.size), h.lls, h.lvs, fun j l hl => by
    obtain ⟨v, h1, h2⟩ := h.rows j l hl
    exact ⟨v, h1, h2.kept fun u q xs ho => own_kept ho fun i hi => hb.block i (own_lt ho hi).2⟩, h.sols, h.deep⟩
theorem RckI.push (h : RckI w A n c fs k ls vs d A' c' wr) (o : Obj) (hv : RowAt w.heap.size wr l v) (hown : w8.ownsRow w.heap.size 40 1 v8 (k + 1) (vs ++ [v])) (hg : (wr.alloc o).grownBy w8 (Value.slice A' k c').ownBlock) (hf : fs[k]? = some f) (hS : Sol fs f l) {d2 : Bool} (hd : d2 = true ↔ DeepF fs f) :
    ∃ A8 c8, v8 = .slice A8 (k + 1) c8 ∧ RckI w A n c fs (k + 1) (ls ++ [l]) (vs ++ [v]) (d || d2) A8 c8 w8 := by
  obtain ⟨A8, c8, rfl⟩ := own_slice hown
  have h0 := h.on (w2 := wr.alloc o) ((Below.refl _ _).alloc (Nat.le_refl _) o)
  have hstr : ∀ (u : Value) (q : Nat) (xs : List Value), (wr.alloc o).ownsRow w.heap.size 9 1 u q xs → w8.ownsRow w.heap.size 9 1 u q xs := fun u q xs ho => own_grown h0.own ho hg (by decide)
  have hv8 : RowAt w.heap.size w8 l v := hv.kept fun u q xs ho => hstr u q xs (own_al ho o)
  refine ⟨A8, c8, rfl, ⟨?_, hown, ?_, by simp [h.lls], by simp [h.lvs], fun j l' hl => ?_, fun j f' hj hf' => ?_, ?_⟩⟩
  · exact h0.box.grown hg (fun e => own_blk_ne h0.own h0.box (by decide) e.symm)
  · exact h0.below.grown hg h0.below.size (fun i hi => (own_lt h0.own hi).1)
  · rw [List.getElem?_append] at hl
    split at hl
    · obtain ⟨v', h1, h2⟩ := h0.rows j l' hl
      exact ⟨v', by rw [List.getElem?_append_left (by have := (List.getElem?_eq_some_iff.1 h1).1; exact this)]; exact h1, h2.kept hstr⟩
    · rename_i hj
      have hj0 : j - ls.length = 0 := by
        have := (List.getElem?_eq_some_iff.1 hl).1
        simp at this; exact this
      rw [hj0] at hl
      simp at hl
      subst hl
      have hlv : vs.length = j := by have := h.lls; have := h.lvs; omega
      exact ⟨v, by rw [List.getElem?_append_right (by omega), hlv, Nat.sub_self]; rfl, hv8⟩
  · rcases Nat.lt_succ_iff_lt_or_eq.1 hj with hlt | rfl
    · obtain ⟨l', h1, h2⟩ := h.sols j f' hlt hf'
      exact ⟨l', by rw [List.getElem?_append_left (by have := (List.getElem?_eq_some_iff.1 h1).1; exact this)]; exact h1, h2⟩
    · rw [hf] at hf'
      injection hf' with hf'
      subst hf'
      exact ⟨l, by rw [List.getElem?_append_right (by rw [h.lls]; exact Nat.le_refl _), h.lls, Nat.sub_self]; rfl, hS⟩
  · rw [Bool.or_eq_true, h.deep, hd]
    constructor
    · rintro (⟨j, f', h1, h2, h3⟩ | h3)
      · exact ⟨j, f', by omega, h2, h3⟩
      · exact ⟨k, f, by omega, hf, h3⟩
    · rintro ⟨j, f', h1, h2, h3⟩
      rcases Nat.lt_succ_iff_lt_or_eq.1 h1 with hlt | rfl
      · exact .inl ⟨j, f', hlt, h2, h3⟩
      · rw [hf] at h2
        injection h2 with h2
        subst h2
        exact .inr h3
theorem RckI.deepAll (h : RckI w A n c fs n ls vs d A' c' wr) (hn : fs.length = n) : d = true ↔ Deep fs := by
  rw [h.deep]
  constructor
  · rintro ⟨j, f', h1, h2, a, s, h3, h4⟩
    exact ⟨f', List.mem_of_getElem? h2, a, s, h3, h4⟩
  · rintro ⟨f', hf', a, s, h3, h4⟩
    obtain ⟨j, hj, he⟩ := List.getElem_of_mem hf'
    exact ⟨j, f', by omega, by rw [List.getElem?_eq_getElem hj, he], a, s, h3, h4⟩
theorem RckI.solsAll (h : RckI w A n c fs n ls vs d A' c' wr) (hn : fs.length = n) : Sols fs fs ls :=
  ⟨by rw [h.lls, hn], fun k f hf => h.sols k f (by have := (List.getElem?_eq_some_iff.1 hf).1; omega) hf⟩
end
theorem verd_deep_ {fs : List Fn} (h : okP fs = true) (hb : bnd fs = true) (hr : refB fs = true) (hf : ∀ f ∈ fs, Fine fs f) (hd : Deep fs) : verd fs = 31 := by
  unfold verd; rw [if_neg (by simp [h]), if_neg (by simp [hb]), if_neg (by simp [hr]), if_neg (fun hn => hn hf), if_pos hd]
theorem verd_ok_ {fs : List Fn} (h : okP fs = true) (hb : bnd fs = true) (hr : refB fs = true) (hf : ∀ f ∈ fs, Fine fs f) (hd : ¬ Deep fs) : verd fs = 0 := by
  unfold verd; rw [if_neg (by simp [h]), if_neg (by simp [hb]), if_neg (by simp [hr]), if_neg (fun hn => hn hf), if_neg hd]
theorem names_is (B n c : Nat) (A : Option Addr) (rs : List Raw) (r : Raw) (b : Bool) (w : World) (hp : RdP w B A n rs) (hf : RdF w B r) (hw : WfF r.fn) (hB : B ≤ w.heap.size) (hokf : okF r.fn = true) (hb : namB (fns rs) r.fn = b) :
    Calls Try.prog 21 #[.agg #[.slice A n c], .agg #[.int .i64 r.fn.params, .slice r.lo r.fn.locals.length r.lc, .bool r.fn.result, .int .i64 r.fn.keep, .slice r.co r.fn.code.length r.cc]] w fun e w' => e = .returned (.bool b) ∧ Below w.heap.size w w' := by rw [← hb]; exact names_any B n c A rs r w hp hf hw hB hokf

set_option maxRecDepth 100000 in
set_option maxHeartbeats 12800000 in
theorem rcheck_any (B : Nat) (A : Option Addr) (n c : Nat) (rs : List Raw) (w : World) (h : RdP w B A n rs) (hB : B ≤ w.heap.size) :
    Calls Try.prog 11 #[.agg #[.slice A n c]] w (RckP w n (fns rs)) := by
  have hlen := h.len
  have HX0 : Hid (Blk (w.alloc (.cells #[.slice A n c] 24)) w.heap.size 24 #[.slice A n c]) := Lib.hid (Blk.new w _ _)
  have HB0 : Hid (Below w.heap.size w (w.alloc (.cells #[.slice A n c] 24))) := Lib.hid ((Below.refl _ _).alloc (Nat.le_refl _) _)
  have H1 : Hid (RdP (w.alloc (.cells #[.slice A n c] 24)) B A n rs) := Lib.hid (h.alloc hB _)
  have HLEN := Lib.hid hlen
  have HLF : Hid ((fns rs).length = n) := Lib.hid (by rw [length_fns, hlen])
  obtain ⟨v, HV⟩ : ∃ v, Hid (v = verd (fns rs)) := ⟨_, Lib.hid rfl⟩
  have HNO : Hid (∀ W, Below w.heap.size w W → v ≠ 0 → RckP w n (fns rs) (.returned (.tuple #[.slice none 0 0, .int .i64 v])) W) := Lib.hid fun W hW hv => ⟨hW, .inl ⟨by rw [← HV.out]; exact hv, by rw [HV.out]⟩⟩
  obtain ⟨ok, HOK⟩ : ∃ ok, Hid (okP (fns rs) = ok) := ⟨_, Lib.hid rfl⟩
  obtain ⟨bb, HBB⟩ : ∃ bb, Hid (bnd (fns rs) = bb) := ⟨_, Lib.hid rfl⟩
  have HE : Hid (Calls Try.prog 19 #[.agg #[.slice A n c]] (w.alloc (.cells #[.slice A n c] 24)) fun e w' => ∃ A2 k2 c2, e = .returned (.tuple #[.slice A2 k2 c2, .bool ok]) ∧ Below (w.alloc (.cells #[.slice A n c] 24)).heap.size (w.alloc (.cells #[.slice A n c] 24)) w') := Lib.hid ((bytes_any B A n c rs _ H1.out (by simp; omega)).mono fun e w' ⟨A2, k2, c2, he, _, _, hb⟩ => ⟨A2, k2, c2, by rw [he, HOK.out], hb⟩)
  have H := Lib.hid h
  clear h hlen
  cases ok with
  | false =>
    have HVV := Lib.hid (HV.out.trans (verd_form HOK.out))
    go_enter Try.func11, Try.ntmps11
    go_wp2_with (go_at_call 19; refine HE.out.mono ?_; rintro e w2 ⟨A2, k2, c2, rfl, hb2⟩; have HB2 := Lib.hid hb2; clear hb2)
    go_ret2
    have := HNO.out _ (HB0.out.trans (HB2.out.mono (by simp))) (by rw [HVV.out]; decide)
    rw [HVV.out] at this
    exact this
  | true =>
  cases bb with
  | false =>
    have HVV := Lib.hid (HV.out.trans (verd_big HOK.out HBB.out))
    go_enter Try.func11, Try.ntmps11
    go_wp2_with (go_at_call 19; refine HE.out.mono ?_; rintro e w2 ⟨A2, k2, c2, rfl, hb2⟩; have HB2 := Lib.hid hb2; have x2 : w2.cell? ⟨w.heap.size, 0, none⟩ = some (.slice A n c) := (HX0.out.below hb2 (by simp)).cell 0; clear hb2; refine Hid.out ?_)
    have HR2 := Lib.hid (H1.out.below (HB2.out.mono (by simp; omega)))
    have hz2 : w.heap.size < w2.heap.size := by have := HB2.out.size; simp at this; omega
    have HBN := Lib.hid (rbounded_any B A n c rs w2 HR2.out (by omega))
    rw [HBB.out] at HBN
    refine Lib.hid ?_
    go_wp2_with (go_at_call 20; refine HBN.out.mono ?_; rintro e w3 ⟨rfl, hb3⟩; have HB3 := Lib.hid hb3; clear hb3)
    go_ret2
    have := HNO.out _ (HB0.out.trans ((HB2.out.mono (by simp)).trans (HB3.out.mono (by omega)))) (by rw [HVV.out]; decide)
    rw [HVV.out] at this
    exact this
  | true =>
  obtain ⟨l0, l1, HOKF⟩ := okP_iff.1 HOK.out
  rw [HLF.out] at l0 l1
  have HOKF := Lib.hid HOKF
  obtain ⟨mb, HMB⟩ : ∃ mb, Hid (mainB (fns rs) = mb) := ⟨_, Lib.hid rfl⟩
  go_enter Try.func11, Try.ntmps11
  go_wp2_with (go_at_call 19; refine HE.out.mono ?_; rintro e w2 ⟨A2, k2, c2, rfl, hb2⟩; have HB2 := Lib.hid hb2; have x2 : w2.cell? ⟨w.heap.size, 0, none⟩ = some (.slice A n c) := (HX0.out.below hb2 (by simp)).cell 0; clear hb2; refine Hid.out ?_)
  have HR2 := Lib.hid (H1.out.below (HB2.out.mono (by simp; omega)))
  have hz2 : w.heap.size < w2.heap.size := by have := HB2.out.size; simp at this; omega
  have HBN := Lib.hid (rbounded_any B A n c rs w2 HR2.out (by omega))
  rw [HBB.out] at HBN
  refine Lib.hid ?_
  go_wp2_with (go_at_call 20; refine HBN.out.mono ?_; rintro e w3 ⟨rfl, hb3⟩; have HB3 := Lib.hid hb3; clear hb3; refine Hid.out ?_)
  have hz3 : w.heap.size < w3.heap.size := by have := HB3.out.size; omega
  have HW3 : Hid (Below w.heap.size w w3) := Lib.hid (HB0.out.trans ((HB2.out.mono (by simp)).trans (HB3.out.mono (by omega))))
  have hx3 : Blk w3 w.heap.size 24 #[.slice A n c] := (HX0.out.below HB2.out (by simp)).below HB3.out hz2
  have x3 : w3.cell? ⟨w.heap.size, 0, none⟩ = some (.slice A n c) := hx3.cell 0
  have HX3 := Lib.hid hx3
  obtain ⟨ba, off, r, hA, hba, HX, HRF, HWF, y0, y1, y2, y3, y4⟩ := (H.out.below (HW3.out.mono hB)).fn (k := 0) l0
  simp only [Nat.zero_mul, Nat.add_zero] at y0 y1 y2 y3 y4
  have hbw : ba < w3.heap.size := by omega
  have HMBV : Hid (mb = (decide (r.fn.params ≤ 0) && !r.fn.result)) := Lib.hid (by
    have hq : (fns rs)[0]? = some r.fn := by unfold fns; rw [List.getElem?_map, HX.out]; rfl
    rw [← HMB.out]
    cases hf : fns rs with
    | nil => rw [hf] at hq; cases hq
    | cons f0 fs' =>
      rw [hf] at hq
      have : f0 = r.fn := by simpa using hq
      subst this
      rfl)
  have hp0 : 0 ≤ r.fn.params := by
    have hq : (fns rs)[0]? = some r.fn := by unfold fns; rw [List.getElem?_map, HX.out]; rfl
    exact (okF_iff.1 (HOKF.out r.fn (List.mem_of_getElem? hq))).2.2.1
  obtain ⟨p0, hp⟩ : ∃ p0, r.fn.params = p0 := ⟨_, rfl⟩
  obtain ⟨r0, hr0⟩ : ∃ r0, r.fn.result = r0 := ⟨_, rfl⟩
  rw [hp, hr0] at HMBV
  rw [hp] at y0 hp0
  rw [hr0] at y2
  have HAA := Lib.hid hA
  clear x2 hx3 y1 y3 y4 hp hr0 HX HRF HWF HBN
  rw [hA] at x3
  by_cases c1 : p0 = 0
  rotate_left
  · have g1 : (p0 == 0) = false := by simpa using c1
    have g2 : (p0 != 0) = true := by simpa using c1
    have HVV := Lib.hid (HV.out.trans (main_no HOK.out HBB.out (by rw [HMB.out, HMBV.out, decide_eq_false (by omega)]; rfl)))
    clear hA
    refine Lib.hid ?_
    go_wp2
    go_ret2
    have := HNO.out _ HW3.out (by rw [HVV.out]; decide)
    rw [HVV.out] at this
    exact this
  subst c1
  cases r0 with
  | true =>
    have HVV := Lib.hid (HV.out.trans (main_no HOK.out HBB.out (by rw [HMB.out, HMBV.out]; rfl)))
    clear hA
    refine Lib.hid ?_
    go_wp2
    go_ret2
    have := HNO.out _ HW3.out (by rw [HVV.out]; decide)
    rw [HVV.out] at this
    exact this
  | false =>
  have HMT : Hid (mainB (fns rs) = true) := Lib.hid (by rw [HMB.out, HMBV.out]; rfl)
  have hl1 : n ≤ 100000 := by omega
  clear HMBV HMB hA
  refine Lib.hid ?_
  go_wp2
  go_loopw [41] (fun i wr => ∃ k : Nat, k ≤ n ∧ i = .int .i64 k ∧ Hid (((fns rs).take k).all (namB (fns rs)) = true) ∧ Hid (Below w.heap.size w wr) ∧ Hid (Blk wr w.heap.size 24 #[.slice A n c])) (fun i _ => n - (intOf i).toNat)
  case atStart => exact ⟨0, Nat.zero_le _, rfl, rfl, HW3, HX3⟩
  case round =>
    clear x3 y0 y2 hbw hba
    obtain ⟨k, hk, rfl, HT, HB, HXP⟩ := hrel
    have hz := HXP.out.lt
    by_cases hlt : k < n
    · obtain ⟨ba', off', s, hA', hb', HS, HSF, HSW, x0, x1, x2, x3, x4⟩ := (H.out.below (HB.out.mono hB)).fn hlt
      obtain ⟨rfl, rfl⟩ : ba = ba' ∧ off = off' := by rw [HAA.out] at hA'; injection hA' with hA'; injection hA' with h1 h2; exact ⟨h1, h2⟩
      clear hA'
      have hbr : ba < wr.heap.size := by omega
      have HFN : Hid ((fns rs)[k]? = some s.fn) := Lib.hid (by unfold fns; rw [List.getElem?_map, HS.out]; rfl)
      have HOF := Lib.hid (HOKF.out s.fn (List.mem_of_getElem? HFN.out))
      have hpb := HXP.out.alloc (.cells #[.int .i64 s.fn.params, .slice s.lo s.fn.locals.length s.lc, .bool s.fn.result, .int .i64 s.fn.keep, .slice s.co s.fn.code.length s.cc] 47)
      have e0 := hpb.cell 0
      have HX1 := Lib.hid hpb
      have HB1 : Hid (Below w.heap.size w (wr.alloc (.cells #[.int .i64 s.fn.params, .slice s.lo s.fn.locals.length s.lc, .bool s.fn.result, .int .i64 s.fn.keep, .slice s.co s.fn.code.length s.cc] 47))) := Lib.hid (HB.out.alloc (by omega) _)
      obtain ⟨q, HQ⟩ : ∃ q, Hid (namB (fns rs) s.fn = q) := ⟨_, Lib.hid rfl⟩
      have HC1 := Lib.hid (names_is B n c A rs s q _ (H.out.below (HB1.out.mono hB)) (HSF.out.keep fun p hp => World.cell?_alloc_lt wr (.cells #[.int .i64 s.fn.params, .slice s.lo s.fn.locals.length s.lc, .bool s.fn.result, .int .i64 s.fn.keep, .slice s.co s.fn.code.length s.cc] 47) p (by omega)) HSW.out (by simp; omega) HOF.out HQ.out)
      clear hpb
      cases q with
      | false =>
        have HVV := Lib.hid (HV.out.trans (names_no HOK.out HBB.out HMT.out (List.mem_of_getElem? HFN.out) HQ.out))
        go_wp2_with (go_at_call 21; refine HC1.out.mono ?_; rintro e w4 ⟨rfl, hb4⟩; have HB4 := Lib.hid (HB1.out.trans (hb4.mono (by simp; omega))); clear hb4)
        go_ret2
        have := HNO.out _ HB4.out (by rw [HVV.out]; decide)
        rw [HVV.out] at this
        exact this
      | true =>
        have HT1 : Hid (((fns rs).take (k + 1)).all (namB (fns rs)) = true) := Lib.hid (by rw [List.take_add_one, HFN.out, List.all_append, HT.out]; simp [HQ.out])
        go_wp2_with (go_at_call 21; refine HC1.out.mono ?_; rintro e w4 ⟨rfl, hb4⟩; have HB4 := Lib.hid (HB1.out.trans (hb4.mono (by simp; omega))); have HX4 := Lib.hid (HX1.out.below hb4 (by simp; omega)); clear hb4)
        go_roundw
        case rel => exact ⟨k + 1, by omega, by go_num, HT1, HB4, HX4⟩
        case measure => simp [intOf]; omega
    · obtain rfl : n = k := by omega
      clear hlt hk
      obtain ⟨HREF, HPOS⟩ := names_yes HOK.out HMT.out (by
        have h := HT.out
        rw [List.take_of_length_le (by rw [HLF.out]; exact Nat.le_refl _)] at h
        exact h)
      have HREF := Lib.hid HREF
      have HPOS := Lib.hid HPOS
      have HI0 : Hid (RckI w A n c (fns rs) 0 [] [] false none 0 wr) := Lib.hid ⟨HXP.out, own_none _ _ _ _, HB.out, rfl, rfl, fun j l hl => by simp at hl, fun j f hj => by omega, by simp⟩
      have x5 : wr.cell? ⟨w.heap.size, 0, none⟩ = some (.slice (some ⟨ba, off, none⟩) n c) := by rw [← HAA.out]; exact HXP.out.cell 0
      clear HT HB HXP
      go_wp2
      go_loopw [8, 9, 53] (fun o dd i wr => ∃ (k : Nat) (ls : List (List (Option Stk))) (vs : List Value) (d : Bool) (A' : Option Addr) (c' : Nat), k ≤ n ∧ i = .int .i64 k ∧ o = .slice A' k c' ∧ dd = .bool d ∧ Hid (RckI w A n c (fns rs) k ls vs d A' c' wr)) (fun _ _ i _ => n - (intOf i).toNat)
      case atStart => exact ⟨0, [], [], false, none, 0, Nat.zero_le _, rfl, rfl, rfl, HI0⟩
      case round =>
        clear HI0 x5
        obtain ⟨k, ls, vs, d, A', c', hk, rfl, rfl, rfl, HI⟩ := hrel
        have hz := HI.out.box.lt
        by_cases hlt : k < n
        · obtain ⟨ba', off', s, hA', hb', HS, HSF, HSW, x0, x1, x2, x3, x4⟩ := (H.out.below (HI.out.below.mono hB)).fn hlt
          obtain ⟨rfl, rfl⟩ : ba = ba' ∧ off = off' := by rw [HAA.out] at hA'; injection hA' with hA'; injection hA' with h1 h2; exact ⟨h1, h2⟩
          clear hA'
          have hbr : ba < wr.heap.size := by omega
          have HFN : Hid ((fns rs)[k]? = some s.fn) := Lib.hid (by unfold fns; rw [List.getElem?_map, HS.out]; rfl)
          have hmem := List.mem_of_getElem? HFN.out
          have HI1 := Lib.hid (HI.out.on ((Below.refl _ _).alloc (Nat.le_refl _) (.cells #[.int .i64 s.fn.params, .slice s.lo s.fn.locals.length s.lc, .bool s.fn.result, .int .i64 s.fn.keep, .slice s.co s.fn.code.length s.cc] 47)))
          have e0 := HI1.out.box.cell 0
          have HC1 := Lib.hid (stacks_any B n c A rs s _ (H.out.below (HI1.out.below.mono hB)) (HSF.out.keep fun p hp => World.cell?_alloc_lt wr (.cells #[.int .i64 s.fn.params, .slice s.lo s.fn.locals.length s.lc, .bool s.fn.result, .int .i64 s.fn.keep, .slice s.co s.fn.code.length s.cc] 47) p (by omega)) (by simp; omega) HOK.out (HOKF.out s.fn hmem) (fun i hi => by
            have h1 := HREF.out
            unfold refB at h1
            rw [Bool.and_eq_true, List.all_eq_true] at h1
            have h2 := h1.2 s.fn hmem
            unfold fnRef at h2
            rw [Bool.and_eq_true, List.all_eq_true] at h2
            exact h2.2 i hi) (HPOS.out s.fn hmem) (bnd_code HBB.out s (by have h := HS.out; exact List.mem_of_getElem? h)))
          have HC2 : Hid (Calls Try.prog 22 #[.agg #[.slice A n c], .agg #[.int .i64 s.fn.params, .slice s.lo s.fn.locals.length s.lc, .bool s.fn.result, .int .i64 s.fn.keep, .slice s.co s.fn.code.length s.cc]] (wr.alloc (.cells #[.int .i64 s.fn.params, .slice s.lo s.fn.locals.length s.lc, .bool s.fn.result, .int .i64 s.fn.keep, .slice s.co s.fn.code.length s.cc] 47)) fun e w' => ∃ A2 m2 c2 d2 ok, e = .returned (.tuple #[.slice A2 m2 c2, .bool d2, .bool ok]) ∧ Below (wr.alloc (.cells #[.int .i64 s.fn.params, .slice s.lo s.fn.locals.length s.lc, .bool s.fn.result, .int .i64 s.fn.keep, .slice s.co s.fn.code.length s.cc] 47)).heap.size (wr.alloc (.cells #[.int .i64 s.fn.params, .slice s.lo s.fn.locals.length s.lc, .bool s.fn.result, .int .i64 s.fn.keep, .slice s.co s.fn.code.length s.cc] 47)) w' ∧ ((ok = false ∧ ¬ Fine (fns rs) s.fn) ∨ (ok = true ∧ ∃ l, Sol (fns rs) s.fn l ∧ (d2 = true ↔ DeepF (fns rs) s.fn) ∧ RowAt w.heap.size w' l (.slice A2 m2 c2)))) := Lib.hid (HC1.out.mono fun e w' ⟨hb, hc⟩ => by
            rcases hc with ⟨he, hnf⟩ | ⟨A2, m2, c2, l, d2, he, hm2, hS, hd, ho⟩
            · exact ⟨_, _, _, _, _, he, hb, .inl ⟨rfl, hnf⟩⟩
            · exact ⟨_, _, _, _, _, he, hb, .inr ⟨rfl, l, hS, hd, _, _, _, rfl, by rw [hm2, hS.len], own_more ho (HI1.out.below.size)⟩⟩)
          have HMEM := Lib.hid hmem
          clear hmem HC1
          go_wp2_with (go_at_call 22; refine HC2.out.mono ?_; rintro e w4 ⟨A2, m2, c2, d2, ok, rfl, hb4, hcase⟩; have HI4 := Lib.hid (HI1.out.on hb4); have HCS := Lib.hid hcase; clear hb4 hcase; refine Hid.out ?_)
          have hz4 := HI4.out.box.lt
          clear HC2
          cases ok with
          | false =>
            have HVV : Hid (v = 50) := Lib.hid (by
              rcases HCS.out with ⟨_, hnf⟩ | ⟨h, _⟩
              · exact HV.out.trans (verd_fine HOK.out HBB.out HREF.out HMEM.out hnf)
              · cases h)
            refine Lib.hid ?_
            go_wp2
            go_ret2
            have := HNO.out _ HI4.out.below (by rw [HVV.out]; decide)
            rw [HVV.out] at this
            exact this
          | true =>
            obtain ⟨l, HSOL⟩ : ∃ l, Hid (Sol (fns rs) s.fn l ∧ (d2 = true ↔ DeepF (fns rs) s.fn) ∧ RowAt w.heap.size w4 l (.slice A2 m2 c2)) := by
              rcases HCS.out with ⟨h, _⟩ | ⟨_, l, h⟩
              · cases h
              · exact ⟨l, Lib.hid h⟩
            have HOA := Lib.hid (own_al HI4.out.own (.cells [Value.slice A2 m2 c2].toArray 40))
            have HRD := Lib.hid (one_reads w4 40 [.slice A2 m2 c2] 1 rfl)
            have hone : ∀ u ∈ [Value.slice A2 m2 c2], u.oneCell' = true := by
              intro u hu
              simp at hu
              subst hu
              rfl
            have HONE := Lib.hid hone
            have hwz : w.heap.size ≤ w4.heap.size := by omega
            have hkz : k ≤ 255 := by omega
            obtain ⟨d3, HD3⟩ : ∃ d3, Hid (d3 = (d || d2)) := ⟨_, Lib.hid rfl⟩
            have hcase : (d = true ∧ d3 = true) ∨ (d = false ∧ d2 = d3) := by
              rw [HD3.out]; cases d
              · exact .inr ⟨rfl, rfl⟩
              · exact .inl ⟨rfl, rfl⟩
            have HPU : Hid (∀ v8 w8, w8.ownsRow w.heap.size 40 1 v8 (k + 1) (vs ++ [.slice A2 m2 c2]) → (w4.alloc (.cells [Value.slice A2 m2 c2].toArray 40)).grownBy w8 (Value.slice A' k c').ownBlock → ∃ A8 c8, v8 = .slice A8 (k + 1) c8 ∧ RckI w A n c (fns rs) (k + 1) (ls ++ [l]) (vs ++ [.slice A2 m2 c2]) d3 A8 c8 w8) := Lib.hid fun v8 w8 h1 h2 => by
              rw [HD3.out]; exact HI4.out.push _ HSOL.out.2.2 h1 h2 HFN.out HSOL.out.1 HSOL.out.2.1
            clear hone HD3
            refine Lib.hid ?_
            rcases hcase with ⟨rfl, rfl⟩ | ⟨rfl, rfl⟩
            all_goals
              go_wp2_with (at_builtin; refine app_strs rfl _ _ rfl w.heap.size (.slice A' k c') k vs rfl HOA.out (w4.heap.size + 1) (some ⟨w4.heap.size, 0, none⟩) 1 1 [.slice A2 m2 c2] rfl HRD.out HONE.out (by omega) (by simp; omega) ?_; intro v8 w8 hown hgr _; obtain ⟨A8, c8, rfl, hI8⟩ := HPU.out _ _ hown hgr; have HI8 := Lib.hid hI8; clear hown hgr hI8; refine Hid.out ?_)
              refine Lib.hid ?_
              go_wp2
              go_roundw
              case rel => exact ⟨k + 1, _, _, _, A8, c8, by omega, by go_num, rfl, rfl, HI8⟩
              case measure => simp [intOf]; omega
        · obtain rfl : n = k := by omega
          clear hlt hk
          have HDD := Lib.hid (HI.out.deepAll HLF.out)
          have HSS := Lib.hid (HI.out.solsAll HLF.out)
          cases d with
          | true =>
            have HVV := Lib.hid (HV.out.trans (verd_deep_ HOK.out HBB.out HREF.out HSS.out.fine (HDD.out.1 rfl)))
            clear HDD
            go_wp2
            go_ret2
            have := HNO.out _ HI.out.below (by rw [HVV.out]; decide)
            rw [HVV.out] at this
            exact this
          | false =>
            have HVV := Lib.hid (verd_ok_ HOK.out HBB.out HREF.out HSS.out.fine (fun h => by have := HDD.out.2 h; cases this))
            clear HDD
            go_wp2
            go_ret2
            exact ⟨HI.out.below, .inr ⟨HVV.out, A', c', ls, vs, rfl, HI.out.own, HI.out.lvs, HI.out.rows, HSS.out⟩⟩
end Go.Proofs.Ytcgoanfhabjpfaa
