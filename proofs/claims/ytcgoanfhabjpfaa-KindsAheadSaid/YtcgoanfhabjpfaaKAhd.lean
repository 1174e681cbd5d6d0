/-
  KindsAhead: the copy whose one function's code is turned in place.
-/
import Derived.Test.YtcgoanfhabjpfaaKShift
import Derived.Test.YtcgoanfhabjpfaaKLit
import Derived.Test.YtcgoanfhabjpfaaCopy
import Derived.Test.YtcgoanfhabjpfaaOpen
namespace Go.Proofs.Ytcgoanfhabjpfaa
set_option linter.unusedVariables false
open Go.ChangeShapes Go.WideShapes Go.ChangeAt Go.RowKit

/-- the code, so far moved along -/
def upTo (c : List Ins) (k : Nat) : List Ins := (c.take k).map sh ++ c.drop k
theorem upTo_len (c : List Ins) (k : Nat) : (upTo c k).length = c.length := by
  unfold upTo; rw [List.length_append, List.length_map, List.length_take, List.length_drop]; omega
theorem upTo_zero (c : List Ins) : upTo c 0 = c := by simp [upTo]
theorem upTo_all (c : List Ins) {k : Nat} (h : c.length ≤ k) : upTo c k = c.map sh := by
  unfold upTo; rw [List.take_of_length_le h, List.drop_of_length_le h, List.append_nil]
theorem upTo_at {c : List Ins} {k : Nat} {i : Ins} (h : c[k]? = some i) : (upTo c k)[k]? = some i := by
  have hl := (List.getElem?_eq_some_iff.1 h).1
  unfold upTo
  rw [List.getElem?_append_right (by rw [List.length_map, List.length_take]; omega), List.length_map, List.length_take, List.getElem?_drop]
  rw [show k + (k - min k c.length) = k by omega]
  exact h
theorem upTo_next {c : List Ins} {k : Nat} {i : Ins} (h : c[k]? = some i) : upTo c (k + 1) = (upTo c k).set k (sh i) := by
  have hl := (List.getElem?_eq_some_iff.1 h).1
  have hd : c.drop k = i :: c.drop (k + 1) := by rw [List.drop_eq_getElem_cons hl, (List.getElem?_eq_some_iff.1 h).2]
  unfold upTo
  rw [List.take_add_one, h, hd, List.set_append]
  have h1 : ((c.take k).map sh).length = k := by rw [List.length_map, List.length_take]; omega
  rw [h1, if_neg (by omega), Nat.sub_self]
  simp
theorem upTo_same {c : List Ins} {k : Nat} {i : Ins} (h : c[k]? = some i) (hs : sh i = i) : upTo c (k + 1) = upTo c k := by
  rw [upTo_next h, hs]
  apply List.ext_getElem?
  intro t
  rw [List.getElem?_set]
  split
  · subst_vars
    rw [upTo_at h]
    simp [(List.getElem?_eq_some_iff.1 (upTo_at h)).1]
  · rfl
theorem insc_set (l : List Ins) (k : Nat) (i : Ins) (h : l[k]? = some i) (v : Int) : (insc l).set (k * 3 + 1) (.int .i64 v) = insc (l.set k ⟨i.op, v, i.imm⟩) := by
  induction l generalizing k with
  | nil => simp at h
  | cons x l ih =>
    cases k with
    | zero => simp at h; subst h; rfl
    | succ k =>
      have := ih k (by simpa using h)
      show (insOne x ++ insc l).set ((k + 1) * 3 + 1) _ = insOne x ++ insc (l.set k _)
      rw [← this, List.set_append, if_neg (by simp [insOne]; omega)]
      congr 2
      simp [insOne]; omega

/-- the copy: all but function j as they were, j's code is L -/
structure QJ (W : World) (base gA n c j m cb : Nat) (rs : List Raw) (r : Raw) (L : List Ins) : Prop where
  row : W.ownsRow base 47 5 (.slice (some ⟨gA, 0, none⟩) n c) n (rawc rs)
  len : rs.length = n
  at_ : rs[j]? = some r
  rco : r.co = some ⟨cb, 0, none⟩
  clen : r.fn.code.length = m
  llen : L.length = m
  others : ∀ (i : Nat) q, rs[i]? = some q → i ≠ j → OwnF W base q
  locals : W.ownsRow base 57 1 (.slice r.lo r.fn.locals.length r.lc) r.fn.locals.length (u8c r.fn.locals)
  code : W.ownsRow base 51 3 (.slice (some ⟨cb, 0, none⟩) m r.cc) m (insc L)
  apart : ∀ (i : Nat) q, rs[i]? = some q → i ≠ j → (Value.slice q.co q.fn.code.length q.cc).ownBlock ≠ some cb
section
variable {W W' w8 : World} {base gA n c j m cb : Nat} {rs : List Raw} {r : Raw} {L : List Ins}
theorem QJ.start (h1 : W.ownsRow base 47 5 (.slice (some ⟨gA, 0, none⟩) n c) n (rawc rs)) (h2 : ∀ q ∈ rs, OwnF W base q) (h3 : SepC rs) (hl : rs.length = n) (hr : rs[j]? = some r) (hc : r.co = some ⟨cb, 0, none⟩) (hm : r.fn.code.length = m) : QJ W base gA n c j m cb rs r r.fn.code := by
  have hrr := h2 r (List.mem_of_getElem? hr)
  refine ⟨h1, hl, hr, hc, hm, hm, fun i q hq _ => h2 q (List.mem_of_getElem? hq), hrr.locals, ?_, fun i q hq hne hb => ?_⟩
  · have := hrr.code
    rw [hc, hm] at this
    exact this
  · have hrb : (Value.slice r.co r.fn.code.length r.cc).ownBlock = some cb := by rw [hc]; rfl
    rcases Nat.lt_or_ge i j with hij | hij
    · exact h3 i j q r hij hq hr cb hb hrb
    · exact h3 j i r q (by omega) hr hq cb hrb hb
theorem QJ.below (h : QJ W base gA n c j m cb rs r L) (hb : Below W.heap.size W W') : QJ W' base gA n c j m cb rs r L := by
  have k : ∀ {e size q : Nat} {v : Value} {xs : List Value}, W.ownsRow base e size v q xs → W'.ownsRow base e size v q xs := fun ho => own_kept ho fun i hi => hb.block i (own_lt ho hi).2
  exact ⟨k h.row, h.len, h.at_, h.rco, h.clen, h.llen, fun i q hq hn => ⟨k (h.others i q hq hn).locals, k (h.others i q hq hn).code⟩, k h.locals, k h.code, h.apart⟩
theorem QJ.cells (h : QJ W base gA n c j m cb rs r L) : W.cell? ⟨gA, j * 5 + 4, none⟩ = some (.slice (some ⟨cb, 0, none⟩) m r.cc) ∧ gA < W.heap.size ∧ cb < W.heap.size ∧ j < n := by
  have hj : j < n := by rw [← h.len]; exact (List.getElem?_eq_some_iff.1 h.at_).1
  obtain ⟨_, _, _, _, h5⟩ := rawc_at h.at_
  have := h.row.cells (g := gA) rfl _ _ h5
  rw [h.rco, h.clen] at this
  have ea : (⟨gA, 0, none⟩ : Addr).add (j * 5 + 4) = ⟨gA, j * 5 + 4, none⟩ := by simp [Addr.add]
  rw [ea] at this
  exact ⟨this, (own_lt h.row (g := gA) rfl).2, (own_lt h.code (g := cb) rfl).2, hj⟩
/-- one jump's target is moved along -/
theorem QJ.store {k : Nat} {i : Ins} {v : Int} (h : QJ W base gA n c j m cb rs r L) (hi : L[k]? = some i) : QJ (W.setCell ⟨cb, k * 3 + 1, none⟩ (.int .i64 v)) base gA n c j m cb rs r (L.set k ⟨i.op, v, i.imm⟩) := by
  obtain ⟨hst, hgs⟩ := h.code.stored (k * 3 + 1) (.int .i64 v)
  rw [insc_set L k i hi] at hst
  refine ⟨own_grown h.code h.row hgs (by decide), h.len, h.at_, h.rco, h.clen, by rw [List.length_set]; exact h.llen, fun t q hq hn => ⟨own_grown h.code (h.others t q hq hn).locals hgs (by decide), ?_⟩, own_grown h.code h.locals hgs (by decide), hst, h.apart⟩
  exact own_kept (h.others t q hq hn).code fun b hb => hgs.block b (own_lt (h.others t q hq hn).code hb).2 fun e => by
    have e2 : b = cb := by injection e
    subst e2
    exact h.apart t q hq hn hb
theorem wf_ahead {f : Fn} (h : WfF f) (hl : f.code.length ≤ 254) (hj : ∀ i ∈ f.code, i.op = 21 ∨ i.op = 22 → 0 ≤ i.arg ∧ i.arg ≤ 65533) : WfF (aheadF f) := by
  refine ⟨h.p0, h.p1, h.k0, h.k1, h.locals, fun i hi => ?_, h.ll, by show (f.code.map sh).length.succ.succ * 24 ≤ _; rw [List.length_map]; omega⟩
  have hi' : i = ⟨1, 0, 0⟩ ∨ i = ⟨31, 0, 0⟩ ∨ ∃ x ∈ f.code, sh x = i := by simpa [aheadF] using hi
  rcases hi' with rfl | rfl | ⟨x, hx, rfl⟩
  · exact wf_small (by decide)
  · exact wf_small (by decide)
  · have hw := h.code x hx
    unfold sh
    split
    · rename_i ho
      have := hj x hx ho
      exact ⟨hw.o0, hw.o1, by show _ ≤ x.arg + 2; omega, by show x.arg + 2 ≤ _; omega, hw.m0, hw.m1⟩
    · exact hw
/-- the copy as it is at last -/
theorem QJ.done {v8 : Value} {o : Obj} (h : QJ W base gA n c j m cb rs r L) (hL : L = r.fn.code.map sh) (hm : m ≤ 254) (hj : ∀ i ∈ r.fn.code, i.op = 21 ∨ i.op = 22 → 0 ≤ i.arg ∧ i.arg ≤ 65533) (hwf : ∀ q ∈ rs, WfF q.fn) (hsz : n * 72 ≤ 140737488351232) (hbase : base ≤ W.heap.size)
    (hown : w8.ownsRow base 51 3 v8 (2 + m) (insc [⟨1, 0, 0⟩, ⟨31, 0, 0⟩] ++ insc L)) (hg : (W.alloc o).grownBy w8 (some W.heap.size)) :
    ∃ co cc, v8 = .slice co (2 + m) cc ∧ w8.cell? ⟨gA, j * 5 + 4, none⟩ = some (.slice (some ⟨cb, 0, none⟩) m r.cc) ∧ w8.frozen? ⟨gA, j * 5 + 4, none⟩ = false ∧ gA < w8.heap.size ∧
      RdP (w8.setCell ⟨gA, j * 5 + 4, none⟩ v8) (w8.setCell ⟨gA, j * 5 + 4, none⟩ v8).heap.size (some ⟨gA, 0, none⟩) n (rs.set j ⟨aheadF r.fn, r.lo, r.lc, co, cc⟩) ∧ Below base W (w8.setCell ⟨gA, j * 5 + 4, none⟩ v8) ∧ (∀ b, b < W.heap.size → b ≠ gA → (w8.setCell ⟨gA, j * 5 + 4, none⟩ v8).heap[b]? = W.heap[b]?) := by
  obtain ⟨co, cc, rfl⟩ := own_slice hown
  obtain ⟨c4, hgl, _, hjn⟩ := h.cells
  have hk8 : ∀ b, b < W.heap.size → w8.heap[b]? = W.heap[b]? := fun b hb => (hg.block b (by simp; omega) (fun e => by injection e; omega)).trans (Below.heap_alloc W o b hb)
  have k8 : ∀ {e size q : Nat} {v : Value} {xs : List Value}, W.ownsRow base e size v q xs → w8.ownsRow base e size v q xs := fun ho => own_kept ho fun i hi => hk8 i (own_lt ho hi).2
  have hrow8 := k8 h.row
  obtain ⟨hst, hgs⟩ := hrow8.stored (j * 5 + 4) (.slice co (2 + m) cc)
  have hz8 : W.heap.size ≤ w8.heap.size := by have := hg.size; simp at this; omega
  have hfr : w8.frozen? ⟨gA, j * 5 + 4, none⟩ = false := by
    rcases hrow8.2 with ⟨he, _⟩ | ⟨g', cap, cur, he, _, hb, _⟩
    · cases he
    · have : gA = g' := by injection he with he; injection he with he; injection he
      subst this
      exact Blk.frozen (t := 47) (cs := cur) hb _
  have hsS : (w8.setCell ⟨gA, j * 5 + 4, none⟩ (.slice co (2 + m) cc)).heap.size = w8.heap.size := by simp [World.setCell]
  have ea : ∀ t, (⟨gA, 0, none⟩ : Addr).add t = ⟨gA, t, none⟩ := fun t => by simp [Addr.add]; exact Eq.symm
  have kF : ∀ {e size q : Nat} {v : Value} {xs : List Value}, e ≠ 47 → w8.ownsRow base e size v q xs → (w8.setCell ⟨gA, j * 5 + 4, none⟩ (.slice co (2 + m) cc)).ownsRow base e size v q xs := fun hne ho => own_grown hrow8 ho hgs hne
  have hlen2 : (aheadF r.fn).code.length = 2 + m := by show (r.fn.code.map sh).length.succ.succ = _; rw [List.length_map, h.clen]; omega
  have hF : ∀ q ∈ rs.set j ⟨aheadF r.fn, r.lo, r.lc, co, cc⟩, RdF (w8.setCell ⟨gA, j * 5 + 4, none⟩ (.slice co (2 + m) cc)) (w8.setCell ⟨gA, j * 5 + 4, none⟩ (.slice co (2 + m) cc)).heap.size q := fun q hq => by
    obtain ⟨t, ht, rfl⟩ := List.getElem_of_mem hq
    by_cases htj : t = j
    · subst htj
      rw [List.getElem_set_self]
      have e1 := kF (by decide) (k8 h.locals)
      have e2 := kF (by decide) hown
      refine ⟨Reads.of_own e1, ?_, own_cap e1⟩
      have e3 := Reads.of_own e2
      rw [← insc_append, hL] at e3
      show Reads _ _ 3 co (aheadF r.fn).code.length (insc (aheadF r.fn).code)
      rw [hlen2]
      exact e3
    · rw [List.getElem_set_ne (Ne.symm htj)]
      have ht' : t < rs.length := by rw [List.length_set] at ht; exact ht
      have hof := h.others t _ (List.getElem?_eq_getElem ht') htj
      have e1 := kF (by decide) (k8 hof.locals)
      exact ⟨Reads.of_own e1, Reads.of_own (kF (by decide) (k8 hof.code)), own_cap e1⟩
  refine ⟨co, cc, rfl, ?_, hfr, by omega, ⟨⟨by rw [length_rawc, List.length_set, h.len], fun hn => ⟨_, rfl, by rw [hsS]; show gA < _; omega, fun t u hu => ?_⟩⟩, by rw [List.length_set]; exact h.len, hF, fun q hq => ?_, hsz⟩, ?_, fun b hb hne => (Below.heap_setCell w8 ⟨gA, j * 5 + 4, none⟩ _ b hne).trans (hk8 b hb)⟩
  · exact (World.cell?_of_block (hk8 gA hgl)).trans c4
  · rw [ea]
    obtain ⟨i, x, k, hxi, hk, rfl, hv⟩ := flat_inv rawOne 5 (by omega) (fun _ => rfl) _ t u hu
    by_cases hij : i = j
    · subst hij
      have hx : x = ⟨aheadF r.fn, r.lo, r.lc, co, cc⟩ := by
        rw [List.getElem?_set] at hxi
        simpa [h.len, hjn] using hxi.symm
      subst hx
      by_cases hk4 : k = 4
      · subst hk4
        have hu4 : u = .slice co (2 + m) cc := by
          have h5 : (rawOne ⟨aheadF r.fn, r.lo, r.lc, co, cc⟩)[4]? = some (.slice co (aheadF r.fn).code.length cc) := rfl
          rw [h5, hlen2] at hv
          injection hv with hv
          exact hv.symm
        subst hu4
        have h6 := hst.cells (g := gA) rfl (i * 5 + 4) (.slice co (2 + m) cc) (by rw [List.getElem?_set]; simp [length_rawc, h.len]; omega)
        rw [ea] at h6
        exact h6
      · have hold : (rawc rs)[i * 5 + k]? = some u := by
          have h7 := flat_at rawOne 5 (fun _ => rfl) rs i k r h.at_ hk
          show (rs.flatMap rawOne)[i * 5 + k]? = _
          rw [h7, ← hv]
          obtain rfl | rfl | rfl | rfl : k = 0 ∨ k = 1 ∨ k = 2 ∨ k = 3 := by omega
          all_goals rfl
        have h6 := hst.cells (g := gA) rfl (i * 5 + k) u (by rw [List.getElem?_set_ne (by omega)]; exact hold)
        rw [ea] at h6
        exact h6
    · rw [List.getElem?_set_ne (Ne.symm hij)] at hxi
      have hold : (rawc rs)[i * 5 + k]? = some u := by
        have h7 := flat_at rawOne 5 (fun _ => rfl) rs i k x hxi hk
        show (rs.flatMap rawOne)[i * 5 + k]? = _
        rw [h7]; exact hv
      have h6 := hst.cells (g := gA) rfl (i * 5 + k) u (by rw [List.getElem?_set_ne (by omega)]; exact hold)
      rw [ea] at h6
      exact h6
  · rcases List.mem_or_eq_of_mem_set hq with hq | rfl
    · exact hwf q hq
    · exact wf_ahead (hwf r (List.mem_of_getElem? h.at_)) (by rw [h.clen]; exact hm) hj
  · have hb8 : Below base W w8 := ((Below.refl base W).alloc hbase o).grown hg (by simp; omega) fun i hi => by injection hi with hi; omega
    exact hb8.setCell (p := ⟨gA, j * 5 + 4, none⟩) (own_lt h.row (g := gA) rfl).1 _
theorem fns_set {rs : List Raw} {j : Nat} {r' : Raw} : fns (rs.set j r') = (fns rs).set j r'.fn := by unfold fns; rw [List.map_set]
end
end Go.Proofs.Ytcgoanfhabjpfaa
