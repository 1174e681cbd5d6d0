/-
  What CodeBounds builds: programs of like functions; what memory holds of them.
-/
import Derived.Test.YtklfppeecgkpnaaDecode
import Derived.Test.YtklfppeecgkpnaaEncode
import Derived.Test.YtklfppeecgkpnaaDecE
import Derived.Deep.OwnRows
namespace Go.Proofs.Ytklfppeecgkpnaa
set_option linter.unusedVariables false
open Go.ChangeShapes Go.WideShapes Go.ChangeAt Go.RowKit

/-- a function of so many parameters, locals, instructions -/
def mkF (p : Int) (l n : Nat) : Fn := ⟨p, List.replicate l 0, false, -1, List.replicate n ⟨24, 0, 0⟩⟩
theorem okF_mk {p : Int} {l n : Nat} (hp0 : 0 ≤ p) (hp : p ≤ l) (hl : l ≤ 255) (hn : n ≤ 65535) : okF (mkF p l n) = true := by
  refine okF_iff.2 ⟨by simp [mkF]; omega, by simp [mkF]; omega, hp0, by simpa [mkF] using hp, by simp [mkF], by simp [mkF], fun k hk => ?_, fun i hi => ?_⟩
  · rw [List.eq_of_mem_replicate hk]; decide
  · rw [List.eq_of_mem_replicate hi]; decide
theorem okP_mk {k l n : Nat} {p : Int} (hk : 1 ≤ k) (hk' : k ≤ 255) (hp0 : 0 ≤ p) (hp : p ≤ l) (hl : l ≤ 255) (hn : n ≤ 65535) : okP (List.replicate k (mkF p l n)) = true := by
  refine okP_iff.2 ⟨by simp; omega, by simp; omega, fun f hf => ?_⟩
  rw [List.eq_of_mem_replicate hf]
  exact okF_mk hp0 hp hl hn
theorem bnd_mk {k l n : Nat} {p : Int} (hk : 1 ≤ k) : bnd (List.replicate k (mkF p l n)) = (decide (k ≤ 16) && (decide (p ≤ 4) && decide (l ≤ 16) && decide (n ≤ 256))) := by
  have : (List.replicate k (mkF p l n)).all bndF = bndF (mkF p l n) := by
    rw [List.all_replicate, if_neg (by omega)]
  unfold bnd
  rw [this, List.length_replicate]
  unfold bndF mkF
  simp only [List.length_replicate]
theorem wf_mk {p : Int} {l n : Nat} (hp0 : 0 ≤ p) (hp : p ≤ 1000) (hl : l ≤ 1000) (hn : n ≤ 1000) : WfF (mkF p l n) := by
  constructor
  · show (-9223372036854775808 : Int) ≤ p; omega
  · show p ≤ (9223372036854775807 : Int); omega
  · show (-9223372036854775808 : Int) ≤ -1; omega
  · show (-1 : Int) ≤ 9223372036854775807; omega
  · intro x hx
    rw [List.eq_of_mem_replicate hx]; omega
  · intro i hi
    rw [List.eq_of_mem_replicate hi]
    exact ⟨by decide, by decide, by decide, by decide, by decide, by decide⟩
  · simp only [mkF, List.length_replicate]; omega
  · simp only [mkF, List.length_replicate]; omega
theorem fns_mk (k : Nat) (r : Raw) : fns (List.replicate k r) = List.replicate k r.fn := by simp [fns, List.map_replicate]

theorem blk_at {w : World} {g : Nat} (hg : w.heap.size = g) (t : TypeId) (cs : Array Value) : Blk (w.alloc (.cells cs t)) g t cs := by subst hg; exact Blk.new w t cs
theorem reads_blk {w : World} {g size n : Nat} {t : TypeId} {cs : List Value} (h : Blk w g t cs.toArray) (hn : cs.length = n * size) : Reads w w.heap.size size (some ⟨g, 0, none⟩) n cs :=
  ⟨hn, fun _ => ⟨_, rfl, h.lt, fun j u hj => by
    have ea : (⟨g, 0, none⟩ : Addr).add j = ⟨g, j, none⟩ := by simp [Addr.add]; exact Eq.symm
    rw [ea, h.cell]
    simpa using hj⟩⟩
theorem reads_ins {w : World} {g : Nat} (h : Blk w g 48 #[.int .u8 24, .int .i64 0, .int .u64 0]) : Reads w w.heap.size 3 (some ⟨g, 0, none⟩) 1 (insc (List.replicate 1 ⟨24, 0, 0⟩)) := reads_blk h rfl
theorem made_rep (z : Value) (k : Nat) : madeCells #[z] k = (List.replicate k z).toArray := by
  apply Array.ext
  · simp [madeCells]
  · intro i h1 h2
    simp [madeCells, Nat.mod_one]
theorem u8c_rep (k : Nat) (x : Int) : u8c (List.replicate k x) = List.replicate k (.int .u8 x) := by simp [u8c, List.map_replicate]
theorem reads_made {w : World} {g k : Nat} (h : Blk w g 44 (madeCells #[.int .u8 0] k)) : Reads w w.heap.size 1 (some ⟨g, 0, none⟩) k (u8c (List.replicate k 0)) := by
  rw [u8c_rep]
  rw [made_rep] at h
  exact reads_blk h (by simp)
theorem one_prog {w : World} {g : Nat} {r : Raw} (h : Blk w g 43 #[.int .i64 r.fn.params, .slice r.lo r.fn.locals.length r.lc, .bool r.fn.result, .int .i64 r.fn.keep, .slice r.co r.fn.code.length r.cc]) (hF : RdF w w.heap.size r) (hw : WfF r.fn) : RdP w w.heap.size (some ⟨g, 0, none⟩) 1 (List.replicate 1 r) :=
  ⟨reads_blk (cs := rawOne r) h rfl, rfl, fun x hx => by rw [List.eq_of_mem_replicate hx]; exact hF, fun x hx => by rw [List.eq_of_mem_replicate hx]; exact hw, by omega⟩
theorem like_prog {w : World} {base n c : Nat} {A : Option Addr} {r : Raw} (h : w.ownsRow base 43 5 (.slice A n c) n (rawc (List.replicate n r))) (hF : RdF w w.heap.size r) (hw : WfF r.fn) (hn : n ≤ 1000) : RdP w w.heap.size A n (List.replicate n r) :=
  ⟨Reads.of_own h, by simp, fun x hx => by rw [List.eq_of_mem_replicate hx]; exact hF, fun x hx => by rw [List.eq_of_mem_replicate hx]; exact hw, by omega⟩
theorem own_blk {w : World} {g : Nat} {r : Raw} (h : Blk w g 43 #[.int .i64 r.fn.params, .slice r.lo r.fn.locals.length r.lc, .bool r.fn.result, .int .i64 r.fn.keep, .slice r.co r.fn.code.length r.cc]) : w.ownsRow g 43 5 (.slice (some ⟨g, 0, none⟩) 1 1) 1 (rawc (List.replicate 1 r)) :=
  ⟨rfl, .inr ⟨g, 1, _, rfl, Nat.le_refl _, h, Nat.le_refl _, by unfold maxLen; omega, rfl, rfl⟩⟩
/-- what the cut hands on -/
def BndR (w : World) (k most : Nat) (p7 m c : Nat) (A : Option Addr) (rs : List Raw) (wx : World) : Prop :=
  Blk wx p7 26 #[.slice A m c] ∧ RdP wx wx.heap.size A m rs ∧ okP (fns rs) = true ∧ bnd (fns rs) = decide (k ≤ most) ∧ Below w.heap.size w wx

/-- the functions grow -/
structure LkI (w : World) (bi bf bs p7 : Nat) (n : Nat) (A : Option Addr) (c : Nat) (wr : World) : Prop where
  ins : Blk wr bi 48 #[.int .u8 24, .int .i64 0, .int .u64 0]
  fn : Blk wr bf 43 #[.int .i64 0, .slice none 0 0, .bool false, .int .i64 (-1), .slice (some ⟨bi, 0, none⟩) 1 1]
  own : wr.ownsRow bs 43 5 (.slice A n c) n (rawc (List.replicate n ⟨mkF 0 0 1, none, 0, some ⟨bi, 0, none⟩, 1⟩))
  blk : Blk wr p7 26 #[.slice A n c]
  below : Below w.heap.size w wr
theorem rawc_rep (n : Nat) (r : Raw) : rawc (List.replicate (n + 1) r) = rawc (List.replicate n r) ++ rawOne r := by
  rw [List.replicate_succ', rawc_append]
  simp [rawc]
theorem insc_rep (n : Nat) (r : Ins) : insc (List.replicate (n + 1) r) = insc (List.replicate n r) ++ insOne r := by
  rw [List.replicate_succ', insc_append]
  simp [insc]
theorem LkI.step {w wr w2 : World} {bi bf bs p7 n c : Nat} {A : Option Addr} {v' : Value} (h : LkI w bi bf bs p7 n A c wr) (hb : w.heap.size ≤ bi) (h1 : bf = bi + 1) (h2 : bs = bf + 1) (h3 : p7 = bs + 1) (o : Obj)
    (hown : w2.ownsRow bs 43 5 v' (n + 1) (rawc (List.replicate n ⟨mkF 0 0 1, none, 0, some ⟨bi, 0, none⟩, 1⟩) ++ rawOne ⟨mkF 0 0 1, none, 0, some ⟨bi, 0, none⟩, 1⟩)) (hgr : (wr.alloc o).grownBy w2 (Value.slice A n c).ownBlock) :
    ∃ A2 c2, v' = .slice A2 (n + 1) c2 ∧ w2.cell? ⟨p7, 0, none⟩ = some (.slice A n c) ∧ w2.frozen? ⟨p7, 0, none⟩ = false ∧ Hid (LkI w bi bf bs p7 (n + 1) A2 c2 (w2.setCell ⟨p7, 0, none⟩ (.slice A2 (n + 1) c2))) := by
  obtain ⟨A2, c2, rfl⟩ := own_slice hown
  have ho := h.own.alloc o
  have hb2 : Blk w2 p7 26 #[.slice A n c] := blk_grown (h.blk.alloc o) ho hgr (by decide)
  have hi2 := blk_grown (h.ins.alloc o) ho hgr (by decide)
  have hf2 := (h.fn.alloc o).grown hgr (fun e => by have := (own_block_le ho e.symm).1; omega)
  refine ⟨A2, c2, rfl, hb2.cell 0, hb2.frozen 0, ⟨hi2.far (p := ⟨p7, 0, none⟩) (by show bi ≠ p7; omega) _, hf2.far (p := ⟨p7, 0, none⟩) (by show bf ≠ p7; omega) _, ?_, hb2.set_ 0 _, ?_⟩⟩
  · have := own_far hown hb2 (by decide) 0 (.slice A2 (n + 1) c2)
    rw [← rawc_rep] at this
    exact this
  · exact ((h.below.alloc h.below.size o).grown hgr (Nat.le_trans h.below.size (by simp)) fun i hi => by have := (own_block_le ho hi).1; omega).setCell (p := ⟨p7, 0, none⟩) (by show w.heap.size ≤ p7; omega) _
theorem LkI.done {w wr : World} {bi bf bs p7 n c : Nat} {A : Option Addr} (h : LkI w bi bf bs p7 n A c wr) (h1 : 1 ≤ n) (h2 : n ≤ 255) : BndR w n 16 p7 n c A (List.replicate n ⟨mkF 0 0 1, none, 0, some ⟨bi, 0, none⟩, 1⟩) wr := by
  refine ⟨h.blk, like_prog h.own ⟨Reads.none_, reads_ins h.ins⟩ (wf_mk (by omega) (by omega) (by omega) (by omega)) (by omega), ?_, ?_, h.below⟩
  · rw [fns_mk]
    exact okP_mk h1 h2 (by omega) (by omega) (by omega) (by omega)
  · rw [fns_mk, bnd_mk h1]
    simp

/-- the instructions grow -/
structure CdI (w : World) (bs p7 base : Nat) (n : Nat) (A : Option Addr) (c : Nat) (wr : World) : Prop where
  fn : Blk wr bs 43 #[.int .i64 0, .slice none 0 0, .bool false, .int .i64 (-1), .slice A n c]
  blk : Blk wr p7 26 #[.slice (some ⟨bs, 0, none⟩) 1 1]
  own : wr.ownsRow base 48 3 (.slice A n c) n (insc (List.replicate n ⟨24, 0, 0⟩))
  below : Below w.heap.size w wr
theorem CdI.drewN {w wr : World} {bs p7 base n c : Nat} {A : Option Addr} (h : CdI w bs p7 base n A c wr) (k : Nat) : CdI w bs p7 base n A c (wr.drewN k) := ⟨h.fn, h.blk, h.own, below_drewN h.below k⟩
theorem CdI.step {w wr w2 : World} {bs p7 base n c : Nat} {A : Option Addr} {v' : Value} (h : CdI w bs p7 base n A c wr) (hb : w.heap.size ≤ bs) (h3 : p7 = bs + 1) (hbs : w.heap.size ≤ base) (o : Obj)
    (hown : w2.ownsRow base 48 3 v' (n + 1) (insc (List.replicate n ⟨24, 0, 0⟩) ++ insOne ⟨24, 0, 0⟩)) (hgr : (wr.alloc o).grownBy w2 (Value.slice A n c).ownBlock) :
    ∃ A2 c2, v' = .slice A2 (n + 1) c2 ∧ w2.cell? ⟨p7, 0, none⟩ = some (.slice (some ⟨bs, 0, none⟩) 1 1) ∧ w2.cell? ⟨bs, 4, none⟩ = some (.slice A n c) ∧ w2.frozen? ⟨bs, 4, none⟩ = false ∧ Hid (CdI w bs p7 base (n + 1) A2 c2 (w2.setCell ⟨bs, 4, none⟩ (.slice A2 (n + 1) c2))) := by
  obtain ⟨A2, c2, rfl⟩ := own_slice hown
  have ho := h.own.alloc o
  have hb2 : Blk w2 p7 26 #[.slice (some ⟨bs, 0, none⟩) 1 1] := blk_grown (h.blk.alloc o) ho hgr (by decide)
  have hf2 : Blk w2 bs 43 #[.int .i64 0, .slice none 0 0, .bool false, .int .i64 (-1), .slice A n c] := blk_grown (h.fn.alloc o) ho hgr (by decide)
  refine ⟨A2, c2, rfl, hb2.cell 0, hf2.cell 4, hf2.frozen 4, ⟨hf2.set_ 4 _, hb2.far (p := ⟨bs, 4, none⟩) (by show p7 ≠ bs; omega) _, ?_, ?_⟩⟩
  · have := own_far hown hf2 (by decide) 4 (.slice A2 (n + 1) c2)
    rw [← insc_rep] at this
    exact this
  · exact ((h.below.alloc h.below.size o).grown hgr (Nat.le_trans h.below.size (by simp)) fun i hi => by have := (own_block_le ho hi).1; omega).setCell (p := ⟨bs, 4, none⟩) (by show w.heap.size ≤ bs; omega) _
theorem CdI.done {w wr : World} {bs p7 base n c : Nat} {A : Option Addr} (h : CdI w bs p7 base n A c wr) (h2 : n ≤ 1000) : BndR w n 256 p7 1 1 (some ⟨bs, 0, none⟩) (List.replicate 1 ⟨mkF 0 0 n, none, 0, A, c⟩) wr := by
  refine ⟨h.blk, one_prog (r := ⟨mkF 0 0 n, none, 0, A, c⟩) ?_ ⟨Reads.none_, ?_⟩ (wf_mk (by omega) (by omega) (by omega) (by omega)), ?_, ?_, h.below⟩
  · have : (mkF 0 0 n).code.length = n := by simp [mkF]
    simp only [this]
    exact h.fn
  · have : (mkF 0 0 n).code.length = n := by simp [mkF]
    simp only [this]
    exact Reads.of_own h.own
  · rw [fns_mk]
    exact okP_mk (by omega) (by omega) (by omega) (by omega) (by omega) (by omega)
  · rw [fns_mk, bnd_mk (by omega)]
    simp

/-- one function, of so many locals and parameters -/
theorem one_done {w wr : World} {bi bs p7 g l k most : Nat} {p : Int} (hp0 : 0 ≤ p) (hp : p ≤ l) (hl : l ≤ 255) (hi : Blk wr bi 48 #[.int .u8 24, .int .i64 0, .int .u64 0]) (hm : Blk wr g 44 (madeCells #[.int .u8 0] l))
    (hf : Blk wr bs 43 #[.int .i64 p, .slice (some ⟨g, 0, none⟩) l l, .bool false, .int .i64 (-1), .slice (some ⟨bi, 0, none⟩) 1 1]) (hb : Blk wr p7 26 #[.slice (some ⟨bs, 0, none⟩) 1 1]) (hw : Below w.heap.size w wr)
    (hk : (decide (p ≤ 4) && decide (l ≤ 16)) = decide (k ≤ most)) : BndR w k most p7 1 1 (some ⟨bs, 0, none⟩) (List.replicate 1 ⟨mkF p l 1, some ⟨g, 0, none⟩, l, some ⟨bi, 0, none⟩, 1⟩) wr := by
  have hll : (mkF p l 1).locals.length = l := by simp [mkF]
  refine ⟨hb, one_prog (r := ⟨mkF p l 1, some ⟨g, 0, none⟩, l, some ⟨bi, 0, none⟩, 1⟩) ?_ ⟨?_, reads_ins hi⟩ (wf_mk (by omega) (by omega) (by omega) (by omega)), ?_, ?_, hw⟩
  · simp only [hll]
    exact hf
  · simp only [hll]
    exact reads_made hm
  · rw [fns_mk]
    exact okP_mk (by omega) (by omega) hp0 hp hl (by omega)
  · rw [fns_mk, bnd_mk (by omega), ← hk]
    simp
theorem make_two {w W : World} {bi bs p7 l k most : Nat} {p : Int} (hp0 : 0 ≤ p) (hp : p ≤ l) (hl : l ≤ 255) (hi : Blk W bi 48 #[.int .u8 24, .int .i64 0, .int .u64 0])
    (hf : Blk W bs 43 #[.int .i64 0, .slice none 0 0, .bool false, .int .i64 (-1), .slice (some ⟨bi, 0, none⟩) 1 1]) (hb : Blk W p7 26 #[.slice (some ⟨bs, 0, none⟩) 1 1]) (hw : Below w.heap.size w W)
    (h1 : w.heap.size ≤ bs) (h2 : bi ≠ bs) (h3 : p7 ≠ bs) (hk : (decide (p ≤ 4) && decide (l ≤ 16)) = decide (k ≤ most)) :
    BndR w k most p7 1 1 (some ⟨bs, 0, none⟩) (List.replicate 1 ⟨mkF p l 1, some ⟨W.heap.size, 0, none⟩, l, some ⟨bi, 0, none⟩, 1⟩) (((W.setCell ⟨bs, 1, none⟩ (.slice (some ⟨W.heap.size, 0, none⟩) l l)).setCell ⟨bs, 0, none⟩ (.int .i64 p)).alloc (.cells (madeCells #[.int .u8 0] l) 44)) := by
  have hg := hf.lt
  refine one_done hp0 hp hl (((hi.far (p := ⟨bs, 1, none⟩) h2 _).far (p := ⟨bs, 0, none⟩) h2 _).alloc _) (blk_at (by simp [World.setCell]) _ _) (((hf.set_ 1 _).set_ 0 _).alloc _) (((hb.far (p := ⟨bs, 1, none⟩) h3 _).far (p := ⟨bs, 0, none⟩) h3 _).alloc _) (((hw.setCell (p := ⟨bs, 1, none⟩) h1 _).setCell (p := ⟨bs, 0, none⟩) h1 _).alloc (by simpa [World.setCell] using hw.size) _) hk
theorem make_one {w W : World} {bi bs p7 l k most : Nat} (hl : l ≤ 255) (hi : Blk W bi 48 #[.int .u8 24, .int .i64 0, .int .u64 0])
    (hf : Blk W bs 43 #[.int .i64 0, .slice none 0 0, .bool false, .int .i64 (-1), .slice (some ⟨bi, 0, none⟩) 1 1]) (hb : Blk W p7 26 #[.slice (some ⟨bs, 0, none⟩) 1 1]) (hw : Below w.heap.size w W)
    (h1 : w.heap.size ≤ bs) (h2 : bi ≠ bs) (h3 : p7 ≠ bs) (hk : (decide ((0 : Int) ≤ 4) && decide (l ≤ 16)) = decide (k ≤ most)) :
    BndR w k most p7 1 1 (some ⟨bs, 0, none⟩) (List.replicate 1 ⟨mkF 0 l 1, some ⟨W.heap.size, 0, none⟩, l, some ⟨bi, 0, none⟩, 1⟩) ((W.setCell ⟨bs, 1, none⟩ (.slice (some ⟨W.heap.size, 0, none⟩) l l)).alloc (.cells (madeCells #[.int .u8 0] l) 44)) := by
  have hg := hf.lt
  refine one_done (by omega) (by omega) hl ((hi.far (p := ⟨bs, 1, none⟩) h2 _).alloc _) (blk_at (by simp [World.setCell]) _ _) ((hf.set_ 1 _).alloc _) ((hb.far (p := ⟨bs, 1, none⟩) h3 _).alloc _) ((hw.setCell (p := ⟨bs, 1, none⟩) h1 _).alloc (by simpa [World.setCell] using hw.size) _) hk
theorem BndR.drew {w wx : World} {k most p7 m c : Nat} {A : Option Addr} {rs : List Raw} (h : BndR w k most p7 m c A rs wx) : BndR w k most p7 m c A rs wx.drew :=
  ⟨h.1, h.2.1.keep fun _ _ => rfl, h.2.2.1, h.2.2.2.1, ⟨h.2.2.2.2.os, h.2.2.2.2.tape, h.2.2.2.2.output, h.2.2.2.2.size, h.2.2.2.2.block⟩⟩
end Go.Proofs.Ytklfppeecgkpnaa
