/-
  Package live: the memory of a search.
-/
import Derived.Test.YtmfdaeicbaibeaaDoorLBk2
import Derived.Test.YtmfdaeicbaibeaaDoorCv
namespace Go.Proofs.YtmfdaeicbaibeaaDoor
set_option linter.unusedVariables false
set_option linter.unusedSimpArgs false
open Go.ChangeShapes Go.WideShapes Go.ChangeAt Go.RowKit

/-- a backward graph, all of it below E -/
structure BwI (w : World) (E base bb R1 R2 R n q m : Nat) (vs : Nat → Value) (ls : Nat → List Int) (wss : List (List Nat)) : Prop where
  box : Blk w bb 100 #[.slice (some ⟨R1, 0, none⟩) n n, .slice (some ⟨R2, 0, none⟩) n n, .slice (some ⟨R, 0, none⟩) n n]
  r1 : Blk w R1 33 (rowA n fun i => vs (2 * i))
  r2 : Blk w R2 33 (rowA n fun i => vs (2 * i + 1))
  fam : Fam w base (2 * n) vs ls
  sets : SetsI w R n q m wss
  eb : bb < E
  e1 : R1 < E
  e2 : R2 < E
  eR : R < E
  es : ∀ i, i < n → R + 2 + 2 * i < E
  ef : ∀ k, k < 2 * n → ∀ g, (vs k).ownBlock = some g → g < E
  eE : E ≤ w.heap.size
section
variable {w w' : World} {E base bb R1 R2 R n q m : Nat} {vs : Nat → Value} {ls : Nat → List Int} {wss : List (List Nat)}
theorem NbI.bw {W : World} {cs : Array Value} (h : NbI W bb R1 R2 R n q m vs ls cs w) : BwI w w.heap.size W.heap.size bb R1 R2 R n q m vs ls (List.replicate n (List.replicate q 0)) :=
  ⟨h.box, h.r1, h.r2, h.fam, h.sets, h.box.lt, h.r1.lt, h.r2.lt, h.sets.row.lt, fun i hi => (h.sets.box i hi).lt, fun k hk g hg => (own_block_le (h.fam.own k hk) hg).2, Nat.le_refl _⟩
theorem SetsI.on (h : SetsI w R n q m wss) (hb : Below E w w') (hR : R < E) (hs : ∀ i, i < n → R + 2 + 2 * i < E) : SetsI w' R n q m wss :=
  ⟨h.row.below hb hR, fun i hi => (h.box i hi).below hb (hs i hi), fun i hi => (h.words i hi).below hb (by have := hs i hi; omega), h.wf, h.qm, h.mb⟩
theorem BwI.on (h : BwI w E base bb R1 R2 R n q m vs ls wss) (hb : Below E w w') : BwI w' E base bb R1 R2 R n q m vs ls wss :=
  ⟨h.box.below hb h.eb, h.r1.below hb h.e1, h.r2.below hb h.e2, h.fam.kept fun i hi g hg => hb.block g (h.ef i hi g hg), h.sets.on hb h.eR h.es, h.eb, h.e1, h.e2, h.eR, h.es, h.ef, Nat.le_trans h.eE hb.size⟩
theorem BwI.alloc (h : BwI w E base bb R1 R2 R n q m vs ls wss) (o : Obj) : BwI (w.alloc o) E base bb R1 R2 R n q m vs ls wss := h.on ((Below.refl _ _).alloc h.eE _)
theorem BwI.drewN (h : BwI w E base bb R1 R2 R n q m vs ls wss) (k : Nat) : BwI (w.drewN k) E base bb R1 R2 R n q m vs ls wss := h.on (below_drewN (Below.refl _ _) k)
/-- a number is added -/
theorem BwI.add (h : BwI w E base bb R1 R2 R n q m vs ls wss) {i j : Nat} (hi : i < n) (hj : j < m) :
    BwI (w.setCell ⟨R + 1 + 2 * i, j / 64, none⟩ (.int .u64 (((addW (wss.getD i []) j).getD (j / 64) 0 : Nat) : Int))) E base bb R1 R2 R n q m vs ls (addS wss i j) := by
  have hw := h.sets.words i hi
  exact ⟨h.box.far (p := ⟨R + 1 + 2 * i, j / 64, none⟩) (Blk.ne_ h.box hw (by decide)) _, h.r1.far (p := ⟨R + 1 + 2 * i, j / 64, none⟩) (Blk.ne_ h.r1 hw (by decide)) _, h.r2.far (p := ⟨R + 1 + 2 * i, j / 64, none⟩) (Blk.ne_ h.r2 hw (by decide)) _, h.fam.far hw (by decide) _ _, h.sets.add hi hj, h.eb, h.e1, h.e2, h.eR, h.es, h.ef, by simpa [World.setCell] using h.eE⟩
end
/-- what the search owes: its bound and what is left -/
theorem keepB_len (ns : List Nd) (p : Nat) (l : List Int) : (keepB ns p l).length ≤ l.length := List.length_filter_le _ _
theorem keepB_snoc (ns : List Nd) (p : Nat) (l : List Int) (x : Int) : keepB ns p (l ++ [x]) = keepB ns p l ++ keepB ns p [x] := List.filter_append _ _
theorem keepB_one {ns : List Nd} {p i : Nat} {nd : Nd} (h : ns[i]? = some nd) : keepB ns p [(i : Int)] = if (p : Int) ∈ writesOf nd then [] else [(i : Int)] := by
  unfold keepB
  by_cases h2 : (p : Int) ∈ writesOf nd
  · simp [h, h2]
  · simp [h, h2]
/-- how much a search has still to do -/
def owes (n : Nat) (wss : List (List Nat)) (p : Nat) (l : Nat) : Nat := l + 2 * n * (n - cntS wss n p)
theorem owes_step {wss : List (List Nat)} {n q m i p l b : Nat} (h : WfS wss n q m) (hi : i < n) (hp : p / 64 < q) (hn : hasS wss i p = false) (hb : b ≤ 2 * n) : owes n (addS wss i p) p (l + b) < owes n wss p (l + 1) := by
  unfold owes
  rw [cntS_add h hi hp hn]
  have hc : cntS wss n p + 1 ≤ n := by
    have := cntS_le (addS wss i p) n p
    rwa [cntS_add h hi hp hn] at this
  obtain ⟨d, hd⟩ : ∃ d, n - cntS wss n p = d + 1 := ⟨n - cntS wss n p - 1, by omega⟩
  have hd' : n - (cntS wss n p + 1) = d := by omega
  rw [hd, hd', Nat.mul_add, Nat.mul_one]
  omega
theorem owes_skip (n : Nat) (wss : List (List Nat)) (p l : Nat) : owes n wss p l < owes n wss p (l + 1) := by
  unfold owes
  omega
theorem owes_le (n : Nat) (wss : List (List Nat)) (p l : Nat) : l ≤ owes n wss p l := by
  unfold owes
  omega
theorem owes_start {n : Nat} (hn : n ≤ 4096) (wss : List (List Nat)) (p : Nat) : owes n wss p 1 ≤ 33554433 := by
  unfold owes
  have h1 : 2 * n * (n - cntS wss n p) ≤ 8192 * 4096 := Nat.mul_le_mul (by omega) (by omega)
  omega
theorem list_last {l : List Int} (h : 0 < l.length) : ∃ init x, l = init ++ [x] := by
  rcases List.eq_nil_or_concat l with rfl | ⟨i, x, rfl⟩
  · simp at h
  · exact ⟨i, x, by simp⟩
end Go.Proofs.YtmfdaeicbaibeaaDoor
