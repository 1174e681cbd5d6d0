/-
  The statements' arguments opened: programs, bytes (the law on slices of structs is the guide's extra-structs, copied as its page says).
-/
import Derived.Test.YtcgoanfhabjpfaaMem
import Derived.Deep.Slices
import Derived.Deep.Fields
import Derived.ChangeSame
import Derived.Lib.SmallJoins
import Derived.OpenShut
import Derived.ShutString
import Derived.SizedLaws
namespace Go.Proofs.Ytcgoanfhabjpfaa
set_option linter.unusedVariables false
open Go.ChangeShapes Go.WideShapes Go.ChangeAt Go.RowKit Go.Joins
open Go.Deep
section
variable {H : Type} {enc : TypeId × Value → H} {P : Program} {w : World} {base : Nat} {spare : Nat → Bool} {held : Bool}
theorem open_slice_fields {t e : TypeId} {fs : Array Field} {fuel : Nat} {cs : List Value} {x : DataW H × List MemPlace} (ht : P.underlying t = some (.slice e)) (he : P.underlying e = some (.struct fs))
    (hone : oneCellFields P fs = true) (hC : P.cellsOf e = fs.size) (h : DataW.trod enc P w base spare held fuel t cs = some x) :
    (cs = [.slice none 0 0] ∧ x = (.nil, [])) ∨
    ∃ (a : Addr) (len cap m : Nat) (D : Nat → DataW H) (Pl : Nat → List MemPlace), cs = [.slice (some a) len cap] ∧ base ≤ a.block ∧ len ≤ cap ∧ cap ≤ maxLen ∧ m = (if spare a.block then cap else len) ∧
      x = (.slice ((List.range len).map D) ((List.range (m - len)).map fun j => D (len + j)), MemPlace.row a (m * fs.size) ++ (List.range m).flatMap Pl) ∧
      ∀ i, i < m → ∃ (ys : List (DataW H × List MemPlace)) (n : Nat), D i = .agg (ys.map (·.1)) ∧ Pl i = ys.flatMap (·.2) ∧ ys.length = fs.size ∧
        ∀ (j : Nat) (f : Field), fs[j]? = some f → ∃ (v : Value) (y : DataW H × List MemPlace), w.cell? (a.add (i * fs.size + j)) = some v ∧ ys[j]? = some y ∧ DataW.trod enc P w base spare held n f.type [v] = some y := by
  rcases open_slice ht h with h0 | ⟨a, len, cap, m, n, D, Pl, hcs, hb, hl, hm, hmm, hx, hi⟩
  · exact .inl h0
  · refine .inr ⟨a, len, cap, m, D, Pl, hcs, hb, hl, hm, hmm, by rw [hC] at hx; exact hx, fun i him => ?_⟩
    obtain ⟨cs', hc, ht'⟩ := hi i him
    rw [hC] at hc
    obtain ⟨ys, n', hn', hy, hlen, hyl, hf⟩ := DataW.trod_struct he ht'
    obtain ⟨_, hcl, hat⟩ := World.cells?_some hc
    simp only [Prod.mk.injEq] at hy
    refine ⟨ys, n', hy.1, hy.2, hyl, fun j f hj => ?_⟩
    obtain ⟨ho, hk⟩ := hone_of hone j f hj
    have hjl : j < fs.size := (Array.getElem?_eq_some_iff.1 hj).1
    have hcell := hat j hjl
    have hv : cs'[j]? = some (cs'[j]'(by omega)) := List.getElem?_eq_getElem (by omega)
    have h1 := hf j f hj
    rw [ho, hk] at h1
    have hone' : (cs'.drop j).take 1 = [cs'[j]'(by omega)] := by
      rw [List.drop_eq_getElem_cons (by omega)]
      rfl
    rw [hone'] at h1
    have hys : ys[j]? = some (ys[j]'(by omega)) := List.getElem?_eq_getElem (by omega)
    refine ⟨_, _, ?_, hys, h1.trans hys⟩
    rw [← Go.Deep.add_add, hcell, hv]
end

/-- For each place something: a row of it. -/
theorem row_of {α : Type} {P : Nat → α → Prop} : ∀ (n : Nat), (∀ i, i < n → ∃ x, P i x) → ∃ l : List α, l.length = n ∧ ∀ (i : Nat) (x : α), l[i]? = some x → P i x
  | 0, _ => ⟨[], rfl, fun i x h => by simp at h⟩
  | n + 1, h => by
    obtain ⟨l, hl, hP⟩ := row_of n fun i hi => h i (by omega)
    obtain ⟨x, hx⟩ := h n (by omega)
    refine ⟨l ++ [x], by simp [hl], fun i y hy => ?_⟩
    rcases Nat.lt_trichotomy i n with h1 | h1 | h1
    · rw [List.getElem?_append_left (by omega)] at hy
      exact hP i y hy
    · subst h1
      rw [List.getElem?_append_right (by omega)] at hy
      simp [hl] at hy
      subst hy
      exact hx
    · rw [List.getElem?_eq_none (by simp; omega)] at hy
      cases hy

theorem wf_i64 {n : Int} (h : (Lit.int .i64 n).wf = true) : -9223372036854775808 ≤ n ∧ n ≤ 9223372036854775807 := by
  simp [Lit.wf, IntKind.min, IntKind.max, IntKind.signed, IntKind.bits] at h
  exact h
theorem wf_u64 {n : Int} (h : (Lit.int .u64 n).wf = true) : 0 ≤ n ∧ n < 18446744073709551616 := by
  simp [Lit.wf, IntKind.min, IntKind.max, IntKind.signed, IntKind.bits] at h
  omega

theorem wf_u8 {n : Int} (h : (Lit.int .u8 n).wf = true) : 0 ≤ n ∧ n ≤ 255 := by
  simp [Lit.wf, IntKind.min, IntKind.max, IntKind.signed, IntKind.bits] at h
  omega
/-- cells of rows of m: which row's, which place -/
theorem flat_inv {α : Type} (f : α → List Value) (m : Nat) (hm : 0 < m) (hf : ∀ x, (f x).length = m) (l : List α) (j : Nat) (u : Value) (h : (l.flatMap f)[j]? = some u) : ∃ i x k, l[i]? = some x ∧ k < m ∧ j = i * m + k ∧ (f x)[k]? = some u := by
  induction l generalizing j with
  | nil => simp at h
  | cons y l ih =>
    rw [List.flatMap_cons] at h
    by_cases hj : j < m
    · rw [List.getElem?_append_left (by rw [hf]; exact hj)] at h
      exact ⟨0, y, j, rfl, hj, by omega, h⟩
    · rw [List.getElem?_append_right (by rw [hf]; omega), hf] at h
      obtain ⟨i, x, k, hx, hk, hjk, hu⟩ := ih (j - m) h
      exact ⟨i + 1, x, k, by simpa using hx, hk, by rw [Nat.succ_mul]; omega, hu⟩

section
variable {H : Type} {enc : TypeId × Value → H} {W : World}
theorem block_of_cell {W : World} {a : Addr} {u : Value} (h : W.cell? (a.add 0) = some u) : a.block < W.heap.size := by
  rcases Nat.lt_or_ge a.block W.heap.size with hlt | hge
  · exact hlt
  · have : a.add 0 = a := by simp [Addr.add]
    rw [this] at h
    simp [World.cell?, Array.getElem?_eq_none hge] at h

/-- a slice of bytes or kinds -/
theorem open_u8 {t e : TypeId} (ht : Try.prog.underlying t = some (.slice e)) (he : Try.prog.underlying e = some (.int .u8)) (hc1 : Try.prog.cellsOf e = 1) {fuel : Nat} {cs : List Value} {x : DataW H × List MemPlace}
    (h : DataW.trod enc Try.prog W 0 (fun _ => true) true fuel t cs = some x) :
    ∃ (ao : Option Addr) (c : Nat) (l : List Int), cs = [.slice ao l.length c] ∧ Reads W W.heap.size 1 ao l.length (u8c l) ∧ Byt l ∧ l.length ≤ c ∧ c ≤ maxLen ∧ (ao = none → c = 0) ∧
      ((x.1 = .nil ∧ c = 0) ∨ ∃ elems spare, x.1 = .slice elems spare ∧ elems.length + spare.length = c) := by
  rcases open_ints ht he hc1 h with ⟨hcs, hx⟩ | ⟨a, len, cap, zs, hcs, _, hl, hm, hz, hx, hcell, hwz⟩
  · exact ⟨none, 0, [], hcs, Reads.none_, Byt.nil, Nat.le_refl _, Nat.zero_le _, fun _ => rfl, .inl ⟨by rw [hx], rfl⟩⟩
  · simp only [if_true] at hz
    have hlen : (zs.take len).length = len := by simp; omega
    refine ⟨some a, cap, zs.take len, by rw [hlen]; exact hcs, ?_, fun y hy => wf_u8 (hwz y (List.mem_of_mem_take hy)), by rw [hlen]; exact hl, hm, (fun h => by cases h), .inr ⟨_, _, by rw [hx], by simp [lits]; omega⟩⟩
    rw [hlen]
    refine ⟨by rw [length_u8c, hlen]; simp, fun hn => ⟨a, rfl, block_of_cell (hcell 0 (by omega)), fun j u hu => ?_⟩⟩
    unfold u8c at hu
    rw [List.getElem?_map] at hu
    have hjl : j < (zs.take len).length := by
      rcases Nat.lt_or_ge j (zs.take len).length with h1 | h1
      · exact h1
      · rw [List.getElem?_eq_none h1] at hu; cases hu
    have hjz : j < zs.length := by simp at hjl; omega
    have hjn : j < len := by simp at hjl; omega
    rw [hcell j hjz, ← hu, List.getElem?_take, if_pos hjn, List.getElem?_eq_getElem hjz]
    simp [List.getD, hjz]

/-- a slice of instructions -/
theorem open_ins {fuel : Nat} {cs : List Value} {x : DataW H × List MemPlace} (h : DataW.trod enc Try.prog W 0 (fun _ => true) true fuel 45 cs = some x) :
    ∃ (ao : Option Addr) (c : Nat) (l : List Ins), cs = [.slice ao l.length c] ∧ Reads W W.heap.size 3 ao l.length (insc l) ∧ (∀ i ∈ l, WfI i) ∧ l.length ≤ c ∧
      ((x.1 = .nil ∧ c = 0) ∨ ∃ elems spare, x.1 = .slice elems spare ∧ elems.length + spare.length = c) := by
  rcases open_slice_fields Try.underlying45 Try.underlying51 (by kernel_rfl) (by kernel_rfl) h with ⟨hcs, hx⟩ | ⟨a, len, cap, m, D, Pl, hcs, _, hl, hm, hmm, hx, hi⟩
  · exact ⟨none, 0, [], hcs, Reads.none_, (fun i hi => by cases hi), Nat.le_refl _, .inl ⟨by rw [hx], rfl⟩⟩
  · simp only [if_true] at hmm
    subst hmm
    obtain ⟨l, hll, hlp⟩ := row_of (P := fun i (x : Ins) => WfI x ∧ W.cell? (a.add (i * 3)) = some (.int .u8 x.op) ∧ W.cell? (a.add (i * 3 + 1)) = some (.int .i64 x.arg) ∧ W.cell? (a.add (i * 3 + 2)) = some (.int .u64 x.imm)) len (fun i hin => by
      obtain ⟨ys, k, _, _, hyl, hj⟩ := hi i (by omega)
      obtain ⟨v0, y0, hc0, _, ht0⟩ := hj 0 _ rfl
      obtain ⟨v1, y1, hc1, _, ht1⟩ := hj 1 _ rfl
      obtain ⟨v2, y2, hc2, _, ht2⟩ := hj 2 _ rfl
      obtain ⟨n0, e0, _, w0⟩ := DataW.trod_int Try.underlying48 ht0
      obtain ⟨n1, e1, _, w1⟩ := DataW.trod_int Try.underlying3 ht1
      obtain ⟨n2, e2, _, w2⟩ := DataW.trod_int Try.underlying49 ht2
      simp only [List.cons.injEq, and_true] at e0 e1 e2
      subst e0 e1 e2
      have h0 := wf_u8 w0
      have h1 := wf_i64 w1
      have h2 := wf_u64 w2
      exact ⟨⟨n0, n1, n2⟩, ⟨h0.1, h0.2, h1.1, h1.2, h2.1, by show n2 ≤ _; omega⟩, hc0, hc1, hc2⟩)
    refine ⟨some a, m, l, by rw [hll]; exact hcs, ?_, ?_, by omega, .inr ⟨_, _, by rw [hx], by simp; omega⟩⟩
    · rw [hll]
      refine ⟨by rw [length_insc, hll], fun hn => ⟨a, rfl, ?_, fun j u hu => ?_⟩⟩
      · obtain ⟨x, hx0⟩ : ∃ x, l[0]? = some x := ⟨_, List.getElem?_eq_getElem (by omega)⟩
        exact block_of_cell (hlp 0 x hx0).2.1
      · obtain ⟨i, x, k, hxi, hk, rfl, hv⟩ := flat_inv insOne 3 (by omega) (fun _ => rfl) l j u hu
        have hp := hlp i x hxi
        obtain rfl | rfl | rfl : k = 0 ∨ k = 1 ∨ k = 2 := by omega
        · rw [← hv]; exact hp.2.1
        · rw [← hv]; exact hp.2.2.1
        · rw [← hv]; exact hp.2.2.2
    · intro x hx
      obtain ⟨i, hil, rfl⟩ := List.getElem_of_mem hx
      exact (hlp i _ (List.getElem?_eq_getElem hil)).1

/-- a datum takes no more than the form's reach -/
def Small (t : TypeId) (d : DataW H) : Prop := ∀ x ∈ d.weights Try.prog t, x ≤ reachBytes
theorem small_slice {t e : TypeId} {elems spare : List (DataW H)} {b : Nat} (h : Small t (DataW.slice elems spare)) (ht : Try.prog.underlying t = some (.slice e)) (hb : Try.prog.bytesOf e = b) : (elems.length + spare.length) * b ≤ 140737488351232 := by
  have := h ((elems.length + spare.length) * Try.prog.bytesOf e) (by simp [DataW.weights, ht])
  rw [hb] at this
  simpa [reachBytes] using this
theorem mem_weightsAll {P : Program} {e : TypeId} {d : DataW H} {l : List (DataW H)} (hd : d ∈ l) {x : Nat} (hx : x ∈ d.weights P e) : x ∈ DataW.weightsAll P e l := by
  induction l with
  | nil => cases hd
  | cons y l ih =>
    rw [DataW.weightsAll, List.mem_append]
    rcases List.mem_cons.1 hd with rfl | hd
    · exact .inl hx
    · exact .inr (ih hd)
theorem small_elem {t e : TypeId} {elems spare : List (DataW H)} (h : Small t (DataW.slice elems spare)) (ht : Try.prog.underlying t = some (.slice e)) {d : DataW H} (hd : d ∈ elems) : Small e d := by
  intro x hx
  refine h x ?_
  simp only [DataW.weights, ht, List.mem_cons, List.mem_append]
  exact .inr (.inl (mem_weightsAll hd hx))
theorem small_field {t : TypeId} {fs : Array Field} {parts : List (DataW H)} (h : Small t (DataW.agg parts)) (ht : Try.prog.underlying t = some (.struct fs)) {j : Nat} {f : Field} {d : DataW H} (hf : (fs.toList.map (·.type))[j]? = some f.type) (hd : parts[j]? = some d) : Small f.type d := by
  intro x hx
  refine h x ?_
  simp only [DataW.weights, ht]
  exact DataW.weights_mem_each hf hd x hx

set_option maxRecDepth 100000 in
/-- the functions of a program -/
theorem open_fns {fuel : Nat} {cs : List Value} {x : DataW H × List MemPlace} (h : DataW.trod enc Try.prog W 0 (fun _ => true) true fuel 22 cs = some x) (hs : Small 22 x.1) :
    ∃ (ao : Option Addr) (n c : Nat) (rs : List Raw), cs = [.slice ao n c] ∧ RdP W W.heap.size ao n rs := by
  rcases open_slice_fields Try.underlying22 Try.underlying47 (by kernel_rfl) (by kernel_rfl) h with ⟨hcs, hx⟩ | ⟨a, len, cap, m, D, Pl, hcs, _, hl, hm, hmm, hx, hi⟩
  · exact ⟨none, 0, 0, [], hcs, ⟨Reads.none_, rfl, (fun r hr => by cases hr), (fun r hr => by cases hr), by omega⟩⟩
  · simp only [if_true] at hmm
    subst hmm
    rw [hx] at hs
    have hsz := small_slice hs Try.underlying22 (show Try.prog.bytesOf 47 = 72 by kernel_rfl)
    obtain ⟨l, hll, hlp⟩ := row_of (P := fun i (r : Raw) => RdF W W.heap.size r ∧ WfF r.fn ∧ W.cell? (a.add (i * 5)) = some (.int .i64 r.fn.params) ∧ W.cell? (a.add (i * 5 + 1)) = some (.slice r.lo r.fn.locals.length r.lc) ∧ W.cell? (a.add (i * 5 + 2)) = some (.bool r.fn.result) ∧
        W.cell? (a.add (i * 5 + 3)) = some (.int .i64 r.fn.keep) ∧ W.cell? (a.add (i * 5 + 4)) = some (.slice r.co r.fn.code.length r.cc)) len (fun i hin => by
      obtain ⟨ys, k, hD, _, hyl, hj⟩ := hi i (by omega)
      have hsi : Small 47 (D i) := small_elem hs Try.underlying22 (List.mem_map.2 ⟨i, List.mem_range.2 hin, rfl⟩)
      rw [hD] at hsi
      obtain ⟨v0, y0, hc0, _, ht0⟩ := hj 0 _ rfl
      obtain ⟨v1, y1, hc1, hy1, ht1⟩ := hj 1 _ rfl
      obtain ⟨v2, y2, hc2, _, ht2⟩ := hj 2 _ rfl
      obtain ⟨v3, y3, hc3, _, ht3⟩ := hj 3 _ rfl
      obtain ⟨v4, y4, hc4, hy4, ht4⟩ := hj 4 _ rfl
      obtain ⟨n0, e0, _, w0⟩ := DataW.trod_int Try.underlying3 ht0
      obtain ⟨lo, lc, ls, e1, hr1, hb1, hlc, _, _, hd1⟩ := open_u8 Try.underlying43 Try.underlying57 (by kernel_rfl) ht1
      obtain ⟨b2, e2, _⟩ := DataW.trod_bool Try.underlying4 ht2
      obtain ⟨n3, e3, _, w3⟩ := DataW.trod_int Try.underlying3 ht3
      obtain ⟨co, cc, is, e4, hr4, hw4, hcc, hd4⟩ := open_ins ht4
      have h1 := wf_i64 w0
      have h3 := wf_i64 w3
      have s1 : Small 43 y1.1 := small_field hsi Try.underlying47 (j := 1) rfl (by rw [List.getElem?_map, hy1]; rfl)
      have s4 : Small 45 y4.1 := small_field hsi Try.underlying47 (j := 4) rfl (by rw [List.getElem?_map, hy4]; rfl)
      have b1 : ls.length ≤ 140737488351232 := by
        rcases hd1 with ⟨_, h0⟩ | ⟨elems, spare, he, hc⟩
        · omega
        · rw [he] at s1
          have := small_slice s1 Try.underlying43 (show Try.prog.bytesOf 57 = 1 by kernel_rfl)
          omega
      have b4 : is.length * 24 ≤ 140737488351232 := by
        rcases hd4 with ⟨_, h0⟩ | ⟨elems, spare, he, hc⟩
        · omega
        · rw [he] at s4
          have := small_slice s4 Try.underlying45 (show Try.prog.bytesOf 51 = 24 by kernel_rfl)
          omega
      simp only [List.cons.injEq, and_true] at e0 e1 e2 e3 e4
      subst e0 e1 e2 e3 e4
      exact ⟨⟨⟨n0, ls, b2, n3, is⟩, lo, lc, co, cc⟩, ⟨hr1, hr4, hlc⟩, ⟨h1.1, h1.2, h3.1, h3.2, hb1, hw4, b1, b4⟩, hc0, hc1, hc2, hc3, hc4⟩)
    refine ⟨some a, len, m, l, hcs, ⟨⟨by rw [length_rawc, hll], fun hn => ⟨a, rfl, ?_, fun j u hu => ?_⟩⟩, hll, fun r hr => ?_, fun r hr => ?_, ?_⟩⟩
    · obtain ⟨x, hx0⟩ : ∃ x, l[0]? = some x := ⟨_, List.getElem?_eq_getElem (by omega)⟩
      exact block_of_cell (hlp 0 x hx0).2.2.1
    · obtain ⟨i, x, k, hxi, hk, rfl, hv⟩ := flat_inv rawOne 5 (by omega) (fun _ => rfl) l j u hu
      have hp := hlp i x hxi
      obtain rfl | rfl | rfl | rfl | rfl : k = 0 ∨ k = 1 ∨ k = 2 ∨ k = 3 ∨ k = 4 := by omega
      · rw [← hv]; exact hp.2.2.1
      · rw [← hv]; exact hp.2.2.2.1
      · rw [← hv]; exact hp.2.2.2.2.1
      · rw [← hv]; exact hp.2.2.2.2.2.1
      · rw [← hv]; exact hp.2.2.2.2.2.2
    · obtain ⟨i, hil, rfl⟩ := List.getElem_of_mem hr
      exact (hlp i _ (List.getElem?_eq_getElem hil)).1
    · obtain ⟨i, hil, rfl⟩ := List.getElem_of_mem hr
      exact (hlp i _ (List.getElem?_eq_getElem hil)).2.1
    · simp at hsz
      have := Nat.mul_le_mul_right 72 hl
      omega

set_option maxRecDepth 100000 in
theorem open_prog {base : Nat} {v : Value} {d : DataW H} {p : List MemPlace} (hv : Value.okWide Try.prog W .any base 24 v) (h : DataW.Trod enc Try.prog W 0 (fun _ => true) true 24 v d p) (hs : Small 24 d) :
    ∃ (ao : Option Addr) (n c : Nat) (rs : List Raw), v = .agg #[.slice ao n c] ∧ RdP W W.heap.size ao n rs := by
  obtain ⟨cs, rfl, hsz⟩ := okWide_struct Try.underlying24 hv
  obtain ⟨l⟩ := cs
  match l, hsz.trans (show Try.prog.cellsOf 24 = 1 by kernel_rfl) with
  | [c0], _ =>
    obtain ⟨fuel, hf⟩ := h
    obtain ⟨xs, n, _, hx, _, hlen, hg⟩ := DataW.trod_struct Try.underlying24 hf
    match xs, hlen with
    | [y0], _ =>
      simp only [Prod.mk.injEq] at hx
      have h0 : DataW.trod enc Try.prog W 0 (fun _ => true) true n 22 [c0] = some y0 := by
        have := hg 0 _ rfl
        simpa [Value.cells, show Try.prog.cellsOf 22 = 1 by kernel_rfl] using this
      rw [hx.1] at hs
      have s0 : Small 22 y0.1 := small_field hs Try.underlying24 (j := 0) rfl rfl
      obtain ⟨ao, m, c, rs, e, hr⟩ := open_fns h0 s0
      simp only [List.cons.injEq, and_true] at e
      subst e
      exact ⟨ao, m, c, rs, rfl, hr⟩
end
end Go.Proofs.Ytcgoanfhabjpfaa
