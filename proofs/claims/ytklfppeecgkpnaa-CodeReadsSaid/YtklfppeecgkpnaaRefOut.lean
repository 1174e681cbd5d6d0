/-
  The statements' own Read: what memory holds at the head of its loop.
-/
import Derived.Test.YtklfppeecgkpnaaRefFn
namespace Go.Proofs.Ytklfppeecgkpnaa
set_option linter.unusedVariables false
open Go.ChangeShapes Go.WideShapes Go.ChangeAt Go.RowKit

/-- what Read leaves -/
def RrR (w : World) (L : List Int) (e : Ending) (w' : World) : Prop :=
  Below w.heap.size w w' ∧ ((parse L = none ∧ e = .returned (.tuple #[.agg #[.slice none 0 0], .bool false])) ∨
    ∃ (rs : List Raw) (k : Nat) (A : Option Addr) (c : Nat), parse L = some (fns rs) ∧ e = .returned (.tuple #[.agg #[.slice A k c], .bool true]) ∧ RdP w' w'.heap.size A k rs)
theorem RrR.no {w w' : World} {L : List Int} (h : parse L = none) (hb : Below w.heap.size w w') : RrR w L (.returned (.tuple #[.agg #[.slice none 0 0], .bool false])) w' := ⟨hb, .inl ⟨h, rfl⟩⟩

structure LrI (w : World) (L : List Int) (gT gP base n : Nat) (s0 : St) (rs : List Raw) (k : Nat) (A : Option Addr) (c : Nat) (s : St) (wr : World) : Prop where
  tape : Tp wr w.heap.size gT L s
  res : Blk wr w.heap.size 26 #[.slice none 0 0]
  blk : Blk wr gP 26 #[.slice A k c]
  own : wr.ownsRow base 43 5 (.slice A k c) k (rawc rs)
  len : rs.length = k
  each : ∀ r ∈ rs, OwnF wr base r
  eq2 : (pFns n s0).2 = (pFns (n - k) s).2
  eq1 : s ≠ none → (pFns n s0).1 = fns rs ++ (pFns (n - k) s).1
  below : Below w.heap.size w wr
  hT : w.heap.size < gT
  hP : gT < gP
  hB : gP < base
  hz : base ≤ wr.heap.size
section
variable {w wr wx w3 : World} {L : List Int} {gT gP base n k c : Nat} {s0 s s7 : St} {rs : List Raw} {A : Option Addr} {l : List Int}
theorem LrI.no (h : LrI w L gT gP base n s0 rs k A c (some l) wr) (hk : k < n) (hf : (pFn (some l)).2 = none) : (pFns n s0).2 = none := by
  rw [h.eq2, pFns_step hk, hf]
  exact pFns_none' _
theorem LrI.after (h : LrI w L gT gP base n s0 rs k A c s wr) (hg : wr.grownBy wx (some gT)) : Below w.heap.size w wx ∧ Blk wx w.heap.size 26 #[.slice none 0 0] ∧ Blk wx gP 26 #[.slice A k c] := by
  have h1 := h.hT
  have h2 := h.hP
  exact ⟨h.below.grown hg h.below.size fun i hi => (by injection hi with hi; omega), h.res.only hg (by omega), h.blk.only hg (by omega)⟩
theorem LrI.step {a kp : Int} {lo co : Option Addr} {nl lc nc cc : Nat} {ks : List Int} {fl : Bool} {is : List Ins} {v' : Value} {o : Obj} (h : LrI w L gT gP base n s0 rs k A c (some l) wr) (hk : k < n)
    (hf : FnI wr w.heap.size gT wr.heap.size L a lo nl lc ks fl kp co nc cc is s7 wx) (hkl : ks.length = nl) (hil : is.length = nc) (hu : uFn (some l) = (⟨a, ks, fl, kp, is⟩, s7)) (ho : uOk (some l) = true)
    (hown : w3.ownsRow base 43 5 v' (k + 1) (rawc rs ++ rawOne ⟨⟨a, ks, fl, kp, is⟩, lo, lc, co, cc⟩)) (hgr : (wx.alloc o).grownBy w3 (Value.slice A k c).ownBlock) :
    ∃ A3 c3, v' = .slice A3 (k + 1) c3 ∧ w3.cell? ⟨gP, 0, none⟩ = some (.slice A k c) ∧ w3.frozen? ⟨gP, 0, none⟩ = false ∧ Hid (LrI w L gT gP base n s0 (rs ++ [⟨⟨a, ks, fl, kp, is⟩, lo, lc, co, cc⟩]) (k + 1) A3 c3 s7 (w3.setCell ⟨gP, 0, none⟩ (.slice A3 (k + 1) c3))) := by
  obtain ⟨A3, c3, rfl⟩ := own_slice hown
  have hT := h.hT
  have hP := h.hP
  have hB := h.hB
  have hz := h.hz
  have hg2 := hf.grown
  obtain ⟨e1, e2, e3⟩ := h.after hg2
  have hb2 := e3.alloc o
  have hs2 := e2.alloc o
  have ho2 := (own_only h.own hg2 (by omega)).alloc o
  have hb3 : Blk w3 gP 26 #[.slice A k c] := blk_grown hb2 ho2 hgr (by decide)
  have hs3 := blk_grown hs2 ho2 hgr (by decide)
  have hlow : ∀ i, (Value.slice A k c).ownBlock = some i → base ≤ i := fun i hi => (own_block_le ho2 hi).1
  have keepL : ∀ r' : Raw, OwnF (wx.alloc o) base r' → OwnF (w3.setCell ⟨gP, 0, none⟩ (.slice A3 (k + 1) c3)) base r' := fun r' hr' =>
    ⟨own_far (own_grown ho2 hr'.locals hgr (by decide)) hb3 (by decide) 0 _, own_far (own_grown ho2 hr'.code hgr (by decide)) hb3 (by decide) 0 _⟩
  have hok := fn_ok (some l) ho
  rw [hu] at hok
  refine ⟨A3, c3, rfl, hb3.cell 0, hb3.frozen 0, ⟨?_, hs3.far (p := ⟨gP, 0, none⟩) (by show w.heap.size ≠ gP; omega) _, hb3.set_ 0 _, ?_, by rw [List.length_append, h.len]; rfl, ?_, ?_, ?_, ?_, hT, hP, hB, ?_⟩⟩
  · exact (((hf.tape.alloc o).app hgr fun i hi => by have := hlow i hi; omega).store (p := ⟨gP, 0, none⟩) (by show gT < gP; omega) _)
  · have := own_far hown hb3 (by decide) 0 (.slice A3 (k + 1) c3)
    rw [rawc_append]
    simpa [rawc] using this
  · intro r' hr'
    rcases List.mem_append.1 hr' with hr' | hr'
    · exact keepL r' ⟨(own_only (h.each r' hr').locals hg2 (by omega)).alloc o, (own_only (h.each r' hr').code hg2 (by omega)).alloc o⟩
    · obtain rfl : r' = _ := by simpa using hr'
      refine keepL _ ⟨own_more ?_ (show base ≤ wr.heap.size + 1 by omega), own_more ?_ (show base ≤ wr.heap.size + 1 by omega)⟩
      · have := hf.locals.alloc o
        rw [← hkl] at this
        exact this
      · have := hf.code.alloc o
        rw [← hil] at this
        exact this
  · rw [h.eq2, pFns_step hk, hok.1]
  · intro hn
    have h5 := hok.2 hn
    rw [h.eq1 (fun e => by cases e), pFns_step hk, h5, fns_append]
    simp [fns]
  · exact ((e1.alloc e1.size o).grown hgr (Nat.le_trans e1.size (by simp)) fun i hi => by have := hlow i hi; omega).setCell (p := ⟨gP, 0, none⟩) (by show w.heap.size ≤ gP; omega) _
  · have h6 := hg2.size
    have h7 := hgr.size
    simp only [World.setCell] at *
    simp at h7 ⊢
    omega
end
/-- the end: both ways -/
theorem LrI.full {w wr : World} {L : List Int} {gT gP base n k c : Nat} {s0 : St} {rs : List Raw} {A : Option Addr} (h : LrI w L gT gP base n s0 rs k A c (some []) wr) (hk : ¬ k < n) (hkn : k ≤ n) (hn : n ≤ 255) (hp : pProg (some L) = pFns n s0) (hb : Byt L) :
    parse L = some (fns rs) ∧ ∀ u, RdP (wr.setCell ⟨w.heap.size, 0, none⟩ u) (wr.setCell ⟨w.heap.size, 0, none⟩ u).heap.size A k rs := by
  obtain rfl : n = k := by omega
  have h1 := h.eq2
  have h2 := h.eq1 (fun e => by cases e)
  rw [Nat.sub_self] at h1 h2
  have hpp : pProg (some L) = (fns rs, some []) := by
    rw [hp]
    refine Prod.ext ?_ ?_
    · rw [h2]; simp [pFns]
    · rw [h1]; rfl
  have hpa : parse L = some (fns rs) := by unfold parse; rw [hpp]
  have hok := (parse_back hb hpa).2
  obtain ⟨k1, k2, k3⟩ := okP_iff.1 hok
  exact ⟨hpa, fun u => ⟨Reads.of_own (own_far h.own h.res (by decide) 0 u), h.len, fun r hr => RdF.of_own ⟨own_far (h.each r hr).locals h.res (by decide) 0 u, own_far (h.each r hr).code h.res (by decide) 0 u⟩, fun r hr => okF_wf (k3 r.fn (List.mem_map_of_mem hr)), by omega⟩⟩
theorem LrI.more {w wr : World} {L : List Int} {gT gP base n k c : Nat} {s0 : St} {rs : List Raw} {A : Option Addr} {x : Int} {l : List Int} (h : LrI w L gT gP base n s0 rs k A c (some (x :: l)) wr) (hk : ¬ k < n) (hkn : k ≤ n) (hp : pProg (some L) = pFns n s0) : parse L = none := by
  obtain rfl : n = k := by omega
  have h1 := h.eq2
  rw [Nat.sub_self] at h1
  have hpp : (pProg (some L)).2 = some (x :: l) := by rw [hp, h1]; rfl
  unfold parse
  rw [hpp]
theorem LrI.short {w wr : World} {L : List Int} {gT gP base n k c : Nat} {s0 : St} {rs : List Raw} {A : Option Addr} (h : LrI w L gT gP base n s0 rs k A c none wr) (hp : pProg (some L) = pFns n s0) : parse L = none := by
  refine parse_of L ?_
  rw [hp, h.eq2]
  exact pFns_none' _
/-- an early return -/
theorem LrI.early {w wr wx : World} {L : List Int} {gT gP base n k c : Nat} {s0 : St} {rs : List Raw} {A : Option Addr} {l : List Int} (h : LrI w L gT gP base n s0 rs k A c (some l) wr) (hk : k < n) (hf : (pFn (some l)).2 = none) (hp : pProg (some L) = pFns n s0) (hg : wr.grownBy wx (some gT)) :
    wx.cell? ⟨w.heap.size, 0, none⟩ = some (.slice none 0 0) ∧ wx.frozen? ⟨w.heap.size, 0, none⟩ = false ∧ Hid (RrR w L (.returned (.tuple #[.agg #[.slice none 0 0], .bool false])) (wx.setCell ⟨w.heap.size, 0, none⟩ (.slice none 0 0))) := by
  obtain ⟨e1, e2, e3⟩ := h.after hg
  refine ⟨e2.cell 0, e2.frozen 0, RrR.no (parse_of L ?_) (e1.setCell (p := ⟨w.heap.size, 0, none⟩) (Nat.le_refl _) _)⟩
  rw [hp]
  exact h.no hk hf
theorem Tp.st {w : World} {B g : Nat} {L : List Int} {s : St} (h : Tp w B g L s) : ∀ l, s = some l → Byt l := by
  rintro l rfl
  obtain ⟨A, m, c, at_, h1, h2, h3, h4, h5, h6, k, rfl, hk, hl⟩ := h
  rw [hl]; exact h6.drop k
theorem num_nn (n : Nat) (s : St) (hb : ∀ l, s = some l → Byt l) : 0 ≤ (num n s).1 ∧ ∀ l, (num n s).2 = some l → Byt l := by
  cases s with
  | none => exact ⟨Int.le_refl _, fun l h => by cases h⟩
  | some l =>
    have h := hb l rfl
    by_cases hn : n ≤ l.length
    · have e : num n (some l) = (leV (l.take n), some (l.drop n)) := by simp [num, hn]
      rw [e]
      exact ⟨(leV_bd (h.take n)).1, fun l' hl => by injection hl with hl; rw [← hl]; exact h.drop n⟩
    · have e : num n (some l) = (0, none) := by simp [num, hn]
      rw [e]
      exact ⟨Int.le_refl _, fun l' hl => by cases hl⟩
theorem uKinds_nn (n : Nat) (s : St) (hb : ∀ l, s = some l → Byt l) : ∀ x ∈ (uKinds n s).1, 0 ≤ x := by
  induction n generalizing s with
  | zero => intro x hx; cases hx
  | succ n ih =>
    intro x hx
    obtain ⟨h1, h2⟩ := num_nn 1 s hb
    simp only [uKinds, List.mem_cons] at hx
    rcases hx with rfl | hx
    · exact h1
    · exact ih _ h2 x hx
theorem all_no {ks : List Int} {j : Nat} {x : Int} (h : ks[j]? = some x) (hx : 1 < x) : ks.all kindB = false := by
  rw [Bool.eq_false_iff]
  intro h2
  have := kindB_iff.1 (List.all_eq_true.1 h2 x (List.mem_of_getElem? h))
  omega
theorem take_more {ks : List Int} {j : Nat} {x : Int} (h : ks[j]? = some x) (h0 : 0 ≤ x) (h1 : ¬ 1 < x) (hp : ∀ y ∈ ks.take j, kindB y = true) : ∀ y ∈ ks.take (j + 1), kindB y = true := by
  intro y hy
  rw [List.take_add_one, h] at hy
  rcases List.mem_append.1 hy with hy | hy
  · exact hp y hy
  · obtain rfl : y = x := by simpa using hy
    exact kindB_iff.2 (by omega)
theorem ins_no {m j : Nat} {u : St} {l : List Int} {is : List Ins} (he : pInss m u = (is ++ (pInss (m - j) (some l)).1, (pInss (m - j) (some l)).2)) (hj : j < m) (ho : opB (num 1 (some l)).1 = false) : (pInss m u).2 = none := by
  rw [he, pInss_step hj]
  have : (pIns (some l)).2 = none := by
    unfold pIns
    simp only [ho, need_false, num_none]
  rw [this]
  show (pInss _ none).2 = none
  rw [pInss_none']
theorem ins_yes {l : List Int} (ho : opB (num 1 (some l)).1 = true) : pIns (some l) = (⟨(num 1 (some l)).1, (num (argW (num 1 (some l)).1) (num 1 (some l)).2).1, (num (immW (num 1 (some l)).1) (num (argW (num 1 (some l)).1) (num 1 (some l)).2).2).1⟩, (num (immW (num 1 (some l)).1) (num (argW (num 1 (some l)).1) (num 1 (some l)).2).2).2) := by
  unfold pIns
  simp only [ho, need_true]
end Go.Proofs.Ytklfppeecgkpnaa
