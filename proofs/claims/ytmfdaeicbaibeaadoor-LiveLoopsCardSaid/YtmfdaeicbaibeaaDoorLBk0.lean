/-
  Package live: a backward graph: its memory; newBackward up to its loop.
-/
import Derived.Test.YtmfdaeicbaibeaaDoorLNew
import Derived.Test.YtmfdaeicbaibeaaDoorLOwn
import Derived.Deep.DeepCutAuto
import Derived.Deep.CutBlock
import Derived.Deep.RegionLaw
namespace Go.Proofs.YtmfdaeicbaibeaaDoor
set_option linter.unusedVariables false
set_option linter.unusedSimpArgs false
open Go.ChangeShapes Go.WideShapes Go.ChangeAt Go.RowKit

/-- a backward graph under way: the rows of befores and writes -/
structure NbI (W : World) (bb R1 R2 R n q m : Nat) (vs : Nat → Value) (ls : Nat → List Int) (cs : Array Value) (wr : World) : Prop where
  gr : Blk wr W.heap.size 37 cs
  box : Blk wr bb 100 #[.slice (some ⟨R1, 0, none⟩) n n, .slice (some ⟨R2, 0, none⟩) n n, .slice (some ⟨R, 0, none⟩) n n]
  r1 : Blk wr R1 33 (rowA n fun i => vs (2 * i))
  r2 : Blk wr R2 33 (rowA n fun i => vs (2 * i + 1))
  ne : R1 ≠ R2
  fam : Fam wr W.heap.size (2 * n) vs ls
  sets : SetsI wr R n q m (List.replicate n (List.replicate q 0))
  below : Below W.heap.size W wr
  l1 : W.heap.size < R1
  l2 : W.heap.size < R2
  l3 : W.heap.size < R
  l4 : W.heap.size < bb
/-- two fresh rows and the sets -/
structure Two (W : World) (a b R n q m : Nat) (cs : Array Value) (w3 : World) : Prop where
  gr : Blk w3 W.heap.size 37 cs
  ba : Blk w3 a 33 (madeCells #[.slice none 0 0] n)
  bb : Blk w3 b 33 (madeCells #[.slice none 0 0] n)
  ne : a ≠ b
  sets : SetsI w3 R n q m (List.replicate n (List.replicate q 0))
  below : Below W.heap.size W w3
  la : W.heap.size < a
  lb : W.heap.size < b
  lR : W.heap.size < R
section
variable {W wr w2 w3 : World} {bb R1 R2 R n q m a b : Nat} {cs : Array Value}
theorem Two.swap (h : Two W a b R n q m cs w3) : Two W b a R n q m cs w3 := ⟨h.gr, h.bb, h.ba, h.ne.symm, h.sets, h.below, h.lb, h.la, h.lR⟩
theorem Two.mk0 (h : Two W R1 R2 R n q m cs w3) (hb : bb = w3.heap.size) :
    NbI W bb R1 R2 R n q m (fun _ => .slice none 0 0) (fun _ => []) cs (w3.alloc (.cells #[.slice (some ⟨R1, 0, none⟩) n n, .slice (some ⟨R2, 0, none⟩) n n, .slice (some ⟨R, 0, none⟩) n n] 100)) := by
  subst hb
  have h1 := h.ba
  have h2 := h.bb
  rw [rowA_made] at h1 h2
  exact ⟨h.gr.alloc _, Blk.new _ _ _, h1.alloc _, h2.alloc _, h.ne, Fam.nil _ _ _, h.sets.alloc _, h.below.alloc h.below.size _, h.la, h.lb, h.lR, h.gr.lt⟩
theorem Two.A (hs : SetsI w2 ((((W.alloc (.cells cs 37)).alloc (.cells (madeCells #[.slice none 0 0] n) 33)).alloc (.cells (madeCells #[.slice none 0 0] n) 33)).drew.heap.size + 1) n q m (List.replicate n (List.replicate q 0))) (hb : Below (((W.alloc (.cells cs 37)).alloc (.cells (madeCells #[.slice none 0 0] n) 33)).alloc (.cells (madeCells #[.slice none 0 0] n) 33)).drew.heap.size (((W.alloc (.cells cs 37)).alloc (.cells (madeCells #[.slice none 0 0] n) 33)).alloc (.cells (madeCells #[.slice none 0 0] n) 33)).drew w2) : Two W (W.heap.size + 1) (W.heap.size + 1 + 1) (W.heap.size + 1 + 1 + 1 + 1) n q m cs w2 := by
  rw [show (((W.alloc (.cells cs 37)).alloc (.cells (madeCells #[.slice none 0 0] n) 33)).alloc (.cells (madeCells #[.slice none 0 0] n) 33)).drew.heap.size = W.heap.size + 1 + 1 + 1 by simp] at hs hb
  have h1 := Blk.new (W.alloc (.cells cs 37)) 33 (madeCells #[.slice none 0 0] n)
  have h2 := Blk.new ((W.alloc (.cells cs 37)).alloc (.cells (madeCells #[.slice none 0 0] n) 33)) 33 (madeCells #[.slice none 0 0] n)
  rw [show (W.alloc (.cells cs 37)).heap.size = W.heap.size + 1 by simp] at h1
  rw [show ((W.alloc (.cells cs 37)).alloc (.cells (madeCells #[.slice none 0 0] n) 33)).heap.size = W.heap.size + 1 + 1 by simp] at h2
  exact ⟨(((Blk.new W _ _).alloc _).alloc _).drew.below hb (by omega), (h1.alloc _).drew.below hb (by omega), h2.drew.below hb (by omega), by omega, hs, ((((Below.refl _ _).alloc (Nat.le_refl _) _).alloc (by simp) _).alloc (by simp; omega) _).drew.trans (hb.mono (by omega)), by omega, by omega, by omega⟩
theorem Two.B (hs : SetsI w2 (((W.alloc (.cells cs 37)).alloc (.cells (madeCells #[.slice none 0 0] n) 33)).drew.heap.size + 1) n q m (List.replicate n (List.replicate q 0))) (hb : Below ((W.alloc (.cells cs 37)).alloc (.cells (madeCells #[.slice none 0 0] n) 33)).drew.heap.size ((W.alloc (.cells cs 37)).alloc (.cells (madeCells #[.slice none 0 0] n) 33)).drew w2) {z : Nat} (hz : w2.heap.size = z) : Two W (W.heap.size + 1) z (W.heap.size + 1 + 1 + 1) n q m cs (w2.alloc (.cells (madeCells #[.slice none 0 0] n) 33)) := by
  rw [show ((W.alloc (.cells cs 37)).alloc (.cells (madeCells #[.slice none 0 0] n) 33)).drew.heap.size = W.heap.size + 1 + 1 by simp] at hs hb
  subst hz
  have h1 := Blk.new (W.alloc (.cells cs 37)) 33 (madeCells #[.slice none 0 0] n)
  rw [show (W.alloc (.cells cs 37)).heap.size = W.heap.size + 1 by simp] at h1
  have hz := hb.size
  simp at hz
  exact ⟨(((Blk.new W _ _).alloc _).drew.below hb (by omega)).alloc _, (h1.drew.below hb (by omega)).alloc _, Blk.new _ _ _, by omega, hs.alloc _, ((((Below.refl _ _).alloc (Nat.le_refl _) _).alloc (by simp) _).drew.trans (hb.mono (by omega))).alloc (by omega) _, by omega, by omega, by omega⟩
theorem Two.C (hs : SetsI w2 ((W.alloc (.cells cs 37)).drew.heap.size + 1) n q m (List.replicate n (List.replicate q 0))) (hb : Below (W.alloc (.cells cs 37)).drew.heap.size (W.alloc (.cells cs 37)).drew w2) {z z' : Nat} (hz : w2.heap.size = z) (hz' : z' = z + 1) : Two W z z' (W.heap.size + 1 + 1) n q m cs ((w2.alloc (.cells (madeCells #[.slice none 0 0] n) 33)).alloc (.cells (madeCells #[.slice none 0 0] n) 33)) := by
  rw [show (W.alloc (.cells cs 37)).drew.heap.size = W.heap.size + 1 by simp] at hs hb
  subst hz
  subst hz'
  have h2 := Blk.new (w2.alloc (.cells (madeCells #[.slice none 0 0] n) 33)) 33 (madeCells #[.slice none 0 0] n)
  rw [show (w2.alloc (.cells (madeCells #[.slice none 0 0] n) 33)).heap.size = w2.heap.size + 1 by simp] at h2
  have hz := hb.size
  simp at hz
  exact ⟨(((Blk.new W _ _).drew.below hb (by omega)).alloc _).alloc _, (Blk.new _ _ _).alloc _, h2, by omega, (hs.alloc _).alloc _, ((((Below.refl _ _).alloc (Nat.le_refl _) _).drew.trans (hb.mono (by omega))).alloc (by omega) _).alloc (by simp; omega) _, by omega, by omega, by omega⟩
end
end Go.Proofs.YtmfdaeicbaibeaaDoor
