/-
  The walk through TraceKeeps: numbers come in by the tape, and each number that came or went is kept, in order.
-/
import Derived.Test.YtjmfbmnhkoeceaaDoorTapes
import Derived.Test.YtjmfbmnhkoeceaaDoorEq
namespace Go.Proofs.YtjmfbmnhkoeceaaDoor
set_option linter.unusedVariables false
open Go.ChangeShapes Go.WideShapes Go.ChangeAt Go.RowKit

/-- how far the tape has gone, and what is kept, behind so many of the law's numbers -/
def keepStep (xs : List Int) (s : Nat × List Ev) (o : Int) : Nat × List Ev :=
  if o % 2 = 0 then (s.1 + 1, s.2 ++ [(2, tapeAt xs s.1)]) else (s.1, s.2 ++ [(1, o)])
def keepAt (xs os : List Int) (k : Nat) : Nat × List Ev := (os.take k).foldl (keepStep xs) (0, [])
theorem keepAt_succ {xs os : List Int} {k : Nat} {o : Int} (h : os[k]? = some o) : keepAt xs os (k + 1) = keepStep xs (keepAt xs os k) o := by
  unfold keepAt
  rw [List.take_add_one, h]
  simp
theorem keepAt_len (xs os : List Int) : ∀ (k : Nat), k ≤ os.length → (keepAt xs os k).2.length = k ∧ (keepAt xs os k).1 ≤ k
  | 0, _ => ⟨rfl, Nat.le_refl _⟩
  | k + 1, h => by
    obtain ⟨h1, h2⟩ := keepAt_len xs os k (by omega)
    have hk : k < os.length := by omega
    rw [keepAt_succ (List.getElem?_eq_getElem hk)]
    unfold keepStep
    split <;> simp <;> omega

theorem IsTr.grown_ {w w' : World} {B g : Nat} {tv ev : Value} {tape : List Int} {evs : List Ev} {row : Option Nat} (h : IsTr w B g tv ev tape evs) (hg : w.grownBy w' row) (h1 : row ≠ some g) (h2 : ∀ i cs, Blk w i 26 cs → row ≠ some i) (h3 : ∀ i, ev.ownBlock = some i → row ≠ some i) :
    IsTr w' B g tv ev tape evs :=
  ⟨h.blk.grown hg (fun e => h1 e.symm), h.le, tape_kept h.tape fun i cs hi => hg.block i hi.lt (fun e => h2 i cs hi e.symm), own_kept h.own fun i hi => hg.block i (own_block_le h.own hi).2 (fun e => h3 i hi e.symm)⟩
theorem IsTr.alloc {w : World} {B g : Nat} {tv ev : Value} {tape : List Int} {evs : List Ev} (h : IsTr w B g tv ev tape evs) (o : Obj) : IsTr (w.alloc o) B g tv ev tape evs :=
  h.below ((Below.refl _ _).alloc (Nat.le_refl _) o)
/-- a store below the trace's blocks -/
theorem IsTr.far {w : World} {B g : Nat} {tv ev : Value} {tape : List Int} {evs : List Ev} (h : IsTr w B g tv ev tape evs) {p : Addr} (hp : p.block < B) (u : Value) : IsTr (w.setCell p u) B g tv ev tape evs := by
  have hb := Below.heap_setCell w p u
  refine ⟨(hb g (by have := h.le; omega)).trans h.blk, h.le, ?_, own_kept h.own fun i hi => hb i (by have := (own_block_le h.own hi).1; omega)⟩
  obtain ⟨A, n, c, h1, h2, h3, h4, h5, h6⟩ := h.tape
  refine ⟨A, n, c, h1, h2, h3, h4, h5, fun hn => ?_⟩
  obtain ⟨gt, off, cs, e, hg, hk, hc⟩ := h6 hn
  exact ⟨gt, off, cs, e, hg, (hb gt (by omega)).trans hk, hc⟩

/-- the law's own list and the trace's lie apart -/
def Apart (v ev : Value) : Prop := ∀ i, v.ownBlock = some i → ev.ownBlock ≠ some i
theorem apart_only {w w' : World} {B g n : Nat} {v ev ev' : Value} {xs : List Value} {cs : Array Value} {T : TypeId} (hv : w.ownsRow B 31 2 v n xs) (hb : Blk w g T cs) (hT : 31 ≠ T) (hD : Apart v ev) (ho : Only g ev ev' w w') :
    w'.ownsRow B 31 2 v n xs ∧ Apart v ev' := by
  refine ⟨own_kept hv fun i hi => ho.1 i (own_block_le hv hi).2 ?_ (hD i hi), fun i hi => ?_⟩
  · rintro rfl
    exact own_blk_ne hv hb hT hi
  · have hlt := (own_block_le hv hi).2
    rcases ho.2 with e | ⟨k, e, hk⟩
    · rw [e]; exact hD i hi
    · rw [e]; intro e2; injection e2 with e2; omega
theorem apart_push {w w2 : World} {B B' g n : Nat} {tv ev v v' : Value} {tape : List Int} {evs : List Ev} {xs : List Value} {o : Obj} (h : IsTr w B' g tv ev tape evs) (hv : w.ownsRow B 31 2 v n xs) (hD : Apart v ev)
    (hgr : (w.alloc o).grownBy w2 v.ownBlock) (hor : v'.ownBlock = v.ownBlock ∨ v'.ownBlock = some (w.alloc o).heap.size) : IsTr w2 B' g tv ev tape evs ∧ Apart v' ev := by
  have ha := h.alloc o
  refine ⟨ha.grown_ hgr (own_blk_ne hv h.blk (by decide)) (fun i cs hi => own_blk_ne (hv.alloc o) hi (by decide)) (fun i hi e => hD i e hi), fun i hi => ?_⟩
  rcases hor with e | e
  · exact hD i (e ▸ hi)
  · rw [e] at hi
    injection hi with hi
    intro e2
    have := (own_block_le h.own e2).2
    have : w.heap.size < (w.alloc o).heap.size := by simp
    omega

theorem want_none (w : World) (B : Nat) (ev : Value) : w.ownsRow B 31 2 (.slice none 0 0) 0 (evc []) ∧ Apart (.slice none 0 0) ev := ⟨⟨rfl, .inl ⟨rfl, rfl⟩⟩, fun i hi => by simp [Value.ownBlock] at hi⟩
end Go.Proofs.YtjmfbmnhkoeceaaDoor
