/-
  What memory holds while the statements' own reader reads a function.
-/
import Derived.Test.YtklfppeecgkpnaaTape
import Derived.Test.YtklfppeecgkpnaaRefPlain
import Derived.Test.YtklfppeecgkpnaaDecode
import Derived.Test.YtklfppeecgkpnaaRefLow
namespace Go.Proofs.Ytklfppeecgkpnaa
set_option linter.unusedVariables false
open Go.ChangeShapes Go.WideShapes Go.ChangeAt Go.RowKit

theorem Tp.alloc {w : World} {B g : Nat} {L : List Int} {s : St} (h : Tp w B g L s) (o : Obj) : Tp (w.alloc o) B g L s := h.far ((Below.refl (g + 1) w).alloc (by have := h.lt; omega) o)
theorem Tp.store {w : World} {B g : Nat} {L : List Int} {s : St} (h : Tp w B g L s) {p : Addr} (hp : g < p.block) (u : Value) : Tp (w.setCell p u) B g L s := h.far ((Below.refl (g + 1) w).setCell (by omega) u)
theorem Tp.app {w w' : World} {B g : Nat} {L : List Int} {s : St} {row : Option Nat} (h : Tp w B g L s) (hg : w.grownBy w' row) (hr : ∀ i, row = some i → g < i) : Tp w' B g L s := h.far ((Below.refl (g + 1) w).grown hg (by have := h.lt; omega) fun i hi => by have := hr i hi; omega)
theorem Tp.bd {w : World} {B g : Nat} {L : List Int} {s : St} (h : Tp w B g L s) (n : Nat) : 0 ≤ (num n s).1 ∧ (num n s).1 < 256 ^ n := by
  cases s with
  | none =>
    rw [num_none]
    exact ⟨Int.le_refl _, by
      have : (256 : Int) ^ n = ((256 ^ n : Nat) : Int) := by simp
      rw [this]
      have := Nat.pow_pos (n := n) (show 0 < 256 by omega)
      show (0 : Int) < _
      omega⟩
  | some l =>
    have hb : Byt l := by
      obtain ⟨A, m, c, at_, h1, h2, h3, h4, h5, h6, k, rfl, hk, hl⟩ := h
      rw [hl]; exact h6.drop k
    have hp : (0 : Int) < 256 ^ n := by
      have : (256 : Int) ^ n = ((256 ^ n : Nat) : Int) := by simp
      rw [this]
      have := Nat.pow_pos (n := n) (show 0 < 256 by omega)
      omega
    by_cases hn : n ≤ l.length
    · have e : num n (some l) = (leV (l.take n), some (l.drop n)) := by simp [num, hn]
      rw [e]
      have := leV_bd (hb.take n)
      rw [List.length_take, Nat.min_eq_left hn] at this
      exact this
    · have e : num n (some l) = (0, none) := by simp [num, hn]
      rw [e]
      exact ⟨Int.le_refl _, hp⟩
theorem Tp.bd1 {w : World} {B g : Nat} {L : List Int} {s : St} (h : Tp w B g L s) : 0 ≤ (num 1 s).1 ∧ (num 1 s).1 ≤ 255 := by
  have := h.bd 1
  simp only [Int.reducePow] at this
  omega

/-- a function half read: its box gf, its two rows, the tape gT -/
structure FnI (wo : World) (B gT gf : Nat) (L : List Int) (a : Int) (lo : Option Addr) (nl lc : Nat) (ks : List Int) (fl : Bool) (kp : Int) (co : Option Addr) (nc cc : Nat) (is : List Ins) (s : St) (wx : World) : Prop where
  tape : Tp wx B gT L s
  blk : Blk wx gf 43 #[.int .i64 a, .slice lo nl lc, .bool fl, .int .i64 kp, .slice co nc cc]
  locals : wx.ownsRow (gf + 1) 44 1 (.slice lo nl lc) nl (u8c ks)
  code : wx.ownsRow (gf + 1) 48 3 (.slice co nc cc) nc (insc is)
  grown : wo.grownBy wx (some gT)
  lt : gT < gf
  le : wo.heap.size ≤ gf
section
variable {wo wx w' w2 : World} {B gT gf nl lc nc cc : Nat} {L ks : List Int} {a kp : Int} {lo co : Option Addr} {fl : Bool} {is : List Ins} {s s' : St} {v' : Value}
theorem FnI.new (h : Tp wo B gT L s) : FnI wo B gT wo.heap.size L 0 none 0 0 [] false 0 none 0 0 [] s (wo.alloc (.cells #[.int .i64 0, .slice none 0 0, .bool false, .int .i64 0, .slice none 0 0] 43)) :=
  ⟨h.alloc _, Blk.new wo _ _, own_none _ _ _ _, own_none _ _ _ _, only_alloc (World.grownBy.refl wo _) _, h.lt, Nat.le_refl _⟩
theorem FnI.next (h : FnI wo B gT gf L a lo nl lc ks fl kp co nc cc is s wx) (ht : Tp w' B gT L s') (hg : wx.grownBy w' (some gT)) : FnI wo B gT gf L a lo nl lc ks fl kp co nc cc is s' w' := by
  have hl := h.lt
  exact ⟨ht, h.blk.only hg (by omega), own_only h.locals hg (by omega), own_only h.code hg (by omega), grown_trans' h.grown hg, h.lt, h.le⟩
theorem FnI.alloc (h : FnI wo B gT gf L a lo nl lc ks fl kp co nc cc is s wx) (o : Obj) : FnI wo B gT gf L a lo nl lc ks fl kp co nc cc is s (wx.alloc o) :=
  ⟨h.tape.alloc o, h.blk.alloc o, h.locals.alloc o, h.code.alloc o, only_alloc h.grown o, h.lt, h.le⟩
/-- a store into a newer block of no row -/
theorem FnI.over (h : FnI wo B gT gf L a lo nl lc ks fl kp co nc cc is s wx) {q i : Nat} (hq : gf < q) (h1 : (Value.slice lo nl lc).ownBlock ≠ some q) (h2 : (Value.slice co nc cc).ownBlock ≠ some q) (u : Value) : FnI wo B gT gf L a lo nl lc ks fl kp co nc cc is s (wx.setCell ⟨q, i, none⟩ u) := by
  have hl := h.lt
  have hle := h.le
  refine ⟨h.tape.store (p := ⟨q, i, none⟩) (by show gT < q; omega) u, h.blk.far (p := ⟨q, i, none⟩) (by show gf ≠ q; omega) u, ?_, ?_, only_setCell (p := ⟨q, i, none⟩) h.grown (.inr (by show wo.heap.size ≤ q; omega)) u, h.lt, h.le⟩
  · exact own_kept h.locals fun j hj => Below.heap_setCell _ _ _ _ fun e => h1 (by rw [hj, e])
  · exact own_kept h.code fun j hj => Below.heap_setCell _ _ _ _ fun e => h2 (by rw [hj, e])
theorem FnI.set0 (h : FnI wo B gT gf L a lo nl lc ks fl kp co nc cc is s wx) (b : Int) : FnI wo B gT gf L b lo nl lc ks fl kp co nc cc is s (wx.setCell ⟨gf, 0, none⟩ (.int .i64 b)) :=
  ⟨h.tape.store (p := ⟨gf, 0, none⟩) h.lt _, h.blk.set_ 0 _, own_far h.locals h.blk (by decide) 0 _, own_far h.code h.blk (by decide) 0 _, only_setCell (p := ⟨gf, 0, none⟩) h.grown (.inr h.le) _, h.lt, h.le⟩
theorem FnI.set2 (h : FnI wo B gT gf L a lo nl lc ks fl kp co nc cc is s wx) (b : Bool) : FnI wo B gT gf L a lo nl lc ks b kp co nc cc is s (wx.setCell ⟨gf, 2, none⟩ (.bool b)) :=
  ⟨h.tape.store (p := ⟨gf, 2, none⟩) h.lt _, h.blk.set_ 2 _, own_far h.locals h.blk (by decide) 2 _, own_far h.code h.blk (by decide) 2 _, only_setCell (p := ⟨gf, 2, none⟩) h.grown (.inr h.le) _, h.lt, h.le⟩
theorem FnI.set3 (h : FnI wo B gT gf L a lo nl lc ks fl kp co nc cc is s wx) (b : Int) : FnI wo B gT gf L a lo nl lc ks fl b co nc cc is s (wx.setCell ⟨gf, 3, none⟩ (.int .i64 b)) :=
  ⟨h.tape.store (p := ⟨gf, 3, none⟩) h.lt _, h.blk.set_ 3 _, own_far h.locals h.blk (by decide) 3 _, own_far h.code h.blk (by decide) 3 _, only_setCell (p := ⟨gf, 3, none⟩) h.grown (.inr h.le) _, h.lt, h.le⟩
/-- the kinds grow -/
theorem FnI.kind {x : Int} {o : Obj} (h : FnI wo B gT gf L a lo nl lc ks fl kp co nc cc is s wx) (hown : w2.ownsRow (gf + 1) 44 1 v' (nl + 1) (u8c ks ++ [.int .u8 x])) (hgr : (wx.alloc o).grownBy w2 (Value.slice lo nl lc).ownBlock) :
    ∃ A2 c2, v' = .slice A2 (nl + 1) c2 ∧ w2.cell? ⟨gf, 1, none⟩ = some (.slice lo nl lc) ∧ w2.frozen? ⟨gf, 1, none⟩ = false ∧ Hid (FnI wo B gT gf L a A2 (nl + 1) c2 (ks ++ [x]) fl kp co nc cc is s (w2.setCell ⟨gf, 1, none⟩ (.slice A2 (nl + 1) c2))) := by
  obtain ⟨A2, c2, rfl⟩ := own_slice hown
  have hl := h.lt
  have h1 := h.alloc o
  have hb := blk_grown h1.blk h1.locals hgr (by decide)
  have hlow : ∀ i, (Value.slice lo nl lc).ownBlock = some i → gf + 1 ≤ i := fun i hi => (own_block_le h1.locals hi).1
  refine ⟨A2, c2, rfl, hb.cell 1, hb.frozen 1, ⟨(h1.tape.app hgr fun i hi => by have := hlow i hi; omega).store (p := ⟨gf, 1, none⟩) h.lt _, hb.set_ 1 _, ?_, own_far (own_grown h1.locals h1.code hgr (by decide)) hb (by decide) 1 _, only_setCell (p := ⟨gf, 1, none⟩) (only_grown h1.grown hgr fun i hi => by have := hlow i hi; have := h.le; omega) (.inr h.le) _, h.lt, h.le⟩⟩
  rw [u8c_append]
  exact own_far hown hb (by decide) 1 _
/-- the instructions grow -/
theorem FnI.ins {x : Ins} {o : Obj} (h : FnI wo B gT gf L a lo nl lc ks fl kp co nc cc is s wx) (hown : w2.ownsRow (gf + 1) 48 3 v' (nc + 1) (insc is ++ insOne x)) (hgr : (wx.alloc o).grownBy w2 (Value.slice co nc cc).ownBlock) :
    ∃ A2 c2, v' = .slice A2 (nc + 1) c2 ∧ w2.cell? ⟨gf, 4, none⟩ = some (.slice co nc cc) ∧ w2.frozen? ⟨gf, 4, none⟩ = false ∧ Hid (FnI wo B gT gf L a lo nl lc ks fl kp A2 (nc + 1) c2 (is ++ [x]) s (w2.setCell ⟨gf, 4, none⟩ (.slice A2 (nc + 1) c2))) := by
  obtain ⟨A2, c2, rfl⟩ := own_slice hown
  have hl := h.lt
  have h1 := h.alloc o
  have hb := blk_grown h1.blk h1.code hgr (by decide)
  have hlow : ∀ i, (Value.slice co nc cc).ownBlock = some i → gf + 1 ≤ i := fun i hi => (own_block_le h1.code hi).1
  refine ⟨A2, c2, rfl, hb.cell 4, hb.frozen 4, ⟨(h1.tape.app hgr fun i hi => by have := hlow i hi; omega).store (p := ⟨gf, 4, none⟩) h.lt _, hb.set_ 4 _, own_far (own_grown h1.code h1.locals hgr (by decide)) hb (by decide) 4 _, ?_, only_setCell (p := ⟨gf, 4, none⟩) (only_grown h1.grown hgr fun i hi => by have := hlow i hi; have := h.le; omega) (.inr h.le) _, h.lt, h.le⟩⟩
  rw [insc_append]
  have := own_far hown hb (by decide) 4 (.slice A2 (nc + 1) c2)
  simpa [insc] using this
end

/-! what the grammar says of a head that is none -/
theorem pFns_none' (m : Nat) : (pFns m none).2 = none := by cases m <;> rfl
theorem parse_of (L : List Int) (h : (pProg (some L)).2 = none) : parse L = none := by unfold parse; rw [h]
theorem prog_head (L : List Int) (h : (num 1 (some L)).1 ≠ 87) : parse L = none := by
  refine parse_of L ?_
  unfold pProg
  simp only
  rw [decide_eq_false h, need_false]
  simp only [num_none, need_none]
  exact pFns_none' _
theorem prog_head2 (L : List Int) (h : (num 1 (num 1 (some L)).2).1 ≠ 76) : parse L = none := by
  by_cases h1 : (num 1 (some L)).1 = 87
  · refine parse_of L ?_
    unfold pProg
    simp only
    rw [decide_eq_true h1, need_true, decide_eq_false h, need_false]
    simp only [num_none, need_none]
    exact pFns_none' _
  · exact prog_head L h1
/-- with both bytes right -/
theorem prog_rest (L : List Int) (h1 : (num 1 (some L)).1 = 87) (h2 : (num 1 (num 1 (some L)).2).1 = 76) :
    pProg (some L) = pFns (num 1 (num 1 (num 1 (some L)).2).2).1.toNat (need (decide (0 < (num 1 (num 1 (num 1 (some L)).2).2).1)) (num 1 (num 1 (num 1 (some L)).2).2).2) := by
  unfold pProg
  simp only
  rw [decide_eq_true h1, need_true, decide_eq_true h2, need_true]
end Go.Proofs.Ytklfppeecgkpnaa
