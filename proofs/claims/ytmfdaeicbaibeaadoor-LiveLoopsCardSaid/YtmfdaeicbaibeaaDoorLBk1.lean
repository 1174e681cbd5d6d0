/-
  Package live: a backward graph's memory, step by step.
-/
import Derived.Test.YtmfdaeicbaibeaaDoorLBk0
import Derived.Test.YtmfdaeicbaibeaaDoorLNx
namespace Go.Proofs.YtmfdaeicbaibeaaDoor
set_option linter.unusedVariables false
set_option linter.unusedSimpArgs false
open Go.ChangeShapes Go.WideShapes Go.ChangeAt Go.RowKit

section
variable {W wr w' : World} {bb R1 R2 R n q m : Nat} {vs : Nat → Value} {ls : Nat → List Int} {cs : Array Value}
theorem NbI.on (h : NbI W bb R1 R2 R n q m vs ls cs wr) (hb : Below wr.heap.size wr w') : NbI W bb R1 R2 R n q m vs ls cs w' :=
  ⟨h.gr.below hb h.gr.lt, h.box.below hb h.box.lt, h.r1.below hb h.r1.lt, h.r2.below hb h.r2.lt, h.ne, h.fam.below hb, h.sets.below hb, h.below.trans (hb.mono h.below.size), h.l1, h.l2, h.l3, h.l4⟩
theorem NbI.alloc (h : NbI W bb R1 R2 R n q m vs ls cs wr) (o : Obj) : NbI W bb R1 R2 R n q m vs ls cs (wr.alloc o) := h.on ((Below.refl _ _).alloc (Nat.le_refl _) _)
theorem NbI.drew (h : NbI W bb R1 R2 R n q m vs ls cs wr) : NbI W bb R1 R2 R n q m vs ls cs wr.drew := h.on (Below.refl _ _).drew
/-- writes of node k are laid -/
theorem NbI.put {v' : Value} {l' : List Int} {k b2 : Nat} (h : NbI W bb R1 R2 R n q m vs ls cs wr) (hk : k < n) (hb : Below wr.heap.size wr w') (hown : w'.ownsRow b2 3 1 v' l'.length (i64c l')) (hb2 : wr.heap.size ≤ b2) :
    NbI W bb R1 R2 R n q m (upd vs (2 * k + 1) v') (upd ls (2 * k + 1) l') cs (w'.setCell ⟨R2, k, none⟩ v') := by
  have h' := h.on hb
  have l2 := h.l2
  have hz := h.below.size
  refine ⟨h'.gr.far (p := ⟨R2, k, none⟩) (by show W.heap.size ≠ R2; omega) _, ?_, ?_, ?_, h.ne, ?_, ?_, h'.below.setCell (p := ⟨R2, k, none⟩) (by show W.heap.size ≤ R2; omega) _, h.l1, h.l2, h.l3, h.l4⟩
  · exact h'.box.far (p := ⟨R2, k, none⟩) (Blk.ne_ h'.box h'.r2 (by decide)) _
  · rw [rowA_congr (g := fun i => vs (2 * i)) fun i hi => upd_ne (by omega)]
    exact h'.r1.far (p := ⟨R2, k, none⟩) h.ne _
  · have h1 := h'.r2.set_ k v'
    rw [rowA_set] at h1
    rw [rowA_congr (g := upd (fun i => vs (2 * i + 1)) k v') fun i hi => by
      unfold upd
      by_cases e : i = k
      · subst e
        rw [if_pos rfl, if_pos rfl]
      · rw [if_neg e, if_neg (by omega)]]
    exact h1
  · exact (h.fam.put (i := 2 * k + 1) (by omega) hb hown hb2 (by omega)).far h'.r2 (by decide) k v'
  · exact ⟨h'.sets.row.far (p := ⟨R2, k, none⟩) (Blk.ne_ h'.sets.row h'.r2 (by decide)) _, fun i hi => (h'.sets.box i hi).far (p := ⟨R2, k, none⟩) (Blk.ne_ (h'.sets.box i hi) h'.r2 (by decide)) _, fun i hi => (h'.sets.words i hi).far (p := ⟨R2, k, none⟩) (Blk.ne_ (h'.sets.words i hi) h'.r2 (by decide)) _, h'.sets.wf, h'.sets.qm, h'.sets.mb⟩
/-- .. node x gets one before it -/
theorem NbI.push {v' : Value} {l' : List Int} {x : Nat} (h : NbI W bb R1 R2 R n q m vs ls cs wr) (hx : x < n) (hown : w'.ownsRow W.heap.size 3 1 v' l'.length (i64c l')) (hg : wr.grownBy w' (vs (2 * x)).ownBlock) (hor : v'.ownBlock = (vs (2 * x)).ownBlock ∨ v'.ownBlock = some wr.heap.size) :
    NbI W bb R1 R2 R n q m (upd vs (2 * x) v') (upd ls (2 * x) l') cs (w'.setCell ⟨R1, x, none⟩ v') ∧ w'.frozen? ⟨R1, x, none⟩ = false ∧ ∃ y, w'.cell? ⟨R1, x, none⟩ = some y := by
  have l1 := h.l1
  have hz := h.below.size
  have ho := h.fam.own (2 * x) (by omega)
  have kb : ∀ {g : Nat} {t : TypeId} {c : Array Value}, Blk wr g t c → 3 ≠ t → Blk w' g t c := fun hb ht => blk_grown hb ho hg ht
  have b1 := kb h.r1 (by decide)
  have hf := h.fam.push (i := 2 * x) (by omega) hown hg hor
  refine ⟨⟨(kb h.gr (by decide)).far (p := ⟨R1, x, none⟩) (by show W.heap.size ≠ R1; omega) _, ?_, ?_, ?_, h.ne, ?_, ?_, (h.below.grown hg hz fun g he => (own_block_le ho he).1).setCell (p := ⟨R1, x, none⟩) (by show W.heap.size ≤ R1; omega) _, h.l1, h.l2, h.l3, h.l4⟩, b1.frozen x, ⟨_, (b1.cell x).trans (rowA_at _ hx)⟩⟩
  · exact (kb h.box (by decide)).far (p := ⟨R1, x, none⟩) (Blk.ne_ h.box h.r1 (by decide)) _
  · have h1 := b1.set_ x v'
    rw [rowA_set] at h1
    rw [rowA_congr (g := upd (fun i => vs (2 * i)) x v') fun i hi => by
      unfold upd
      by_cases e : i = x
      · subst e
        rw [if_pos rfl, if_pos rfl]
      · rw [if_neg e, if_neg (by omega)]]
    exact h1
  · rw [rowA_congr (g := fun i => vs (2 * i + 1)) fun i hi => upd_ne (by omega)]
    exact (kb h.r2 (by decide)).far (p := ⟨R1, x, none⟩) h.ne.symm _
  · exact hf.far b1 (by decide) x v'
  · exact ⟨(kb h.sets.row (by decide)).far (p := ⟨R1, x, none⟩) (Blk.ne_ h.sets.row h.r1 (by decide)) _, fun i hi => (kb (h.sets.box i hi) (by decide)).far (p := ⟨R1, x, none⟩) (Blk.ne_ (h.sets.box i hi) h.r1 (by decide)) _, fun i hi => (kb (h.sets.words i hi) (by decide)).far (p := ⟨R1, x, none⟩) (Blk.ne_ (h.sets.words i hi) h.r1 (by decide)) _, h.sets.wf, h.sets.qm, h.sets.mb⟩
end
end Go.Proofs.YtmfdaeicbaibeaaDoor
