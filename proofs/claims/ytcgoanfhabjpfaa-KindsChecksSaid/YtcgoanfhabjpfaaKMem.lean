/-
  Words for a program in memory of the call's own.
-/
import Derived.Test.YtcgoanfhabjpfaaOwn
namespace Go.Proofs.Ytcgoanfhabjpfaa
set_option linter.unusedVariables false
open Go.ChangeShapes Go.WideShapes Go.ChangeAt Go.RowKit

/-- a function's two slices, each a row of the call's own -/
structure OwnF (w : World) (base : Nat) (r : Raw) : Prop where
  locals : w.ownsRow base 57 1 (.slice r.lo r.fn.locals.length r.lc) r.fn.locals.length (u8c r.fn.locals)
  code : w.ownsRow base 51 3 (.slice r.co r.fn.code.length r.cc) r.fn.code.length (insc r.fn.code)
theorem OwnF.rdF {w : World} {base : Nat} {r : Raw} (h : OwnF w base r) : RdF w w.heap.size r := ⟨Reads.of_own h.locals, Reads.of_own h.code, own_cap h.locals⟩
theorem own_lt {W : World} {base size k : Nat} {e : TypeId} {v : Value} {xs : List Value} (h : W.ownsRow base e size v k xs) {g : Nat} (hg : v.ownBlock = some g) : base ≤ g ∧ g < W.heap.size := own_block_le h hg
theorem own_al {w : World} {base size n : Nat} {e : TypeId} {v : Value} {xs : List Value} (h : w.ownsRow base e size v n xs) (o : Obj) : (w.alloc o).ownsRow base e size v n xs := h.alloc o
theorem grown_of_drew {a b : World} {row : Option Nat} (h : a.drew.grownBy b row) : a.grownBy b row := ⟨h.os, h.tape, h.output, h.size, h.block⟩
theorem reads_blk {w : World} {g size n : Nat} {t : TypeId} {cs : List Value} (h : Blk w g t cs.toArray) (hn : cs.length = n * size) : Reads w w.heap.size size (some ⟨g, 0, none⟩) n cs :=
  ⟨hn, fun _ => ⟨_, rfl, h.lt, fun j u hj => by
    have ea : (⟨g, 0, none⟩ : Addr).add j = ⟨g, j, none⟩ := by simp [Addr.add]; exact Eq.symm
    rw [ea, h.cell]
    simpa using hj⟩⟩
theorem made_rep (z : Value) (k : Nat) : madeCells #[z] k = (List.replicate k z).toArray := by
  apply Array.ext
  · simp [madeCells]
  · intro i h1 h2
    simp [madeCells, Nat.mod_one]
/-- a new row of kinds: of the call's own -/
def NewK (w : World) (l : List Int) (e : Ending) (w' : World) : Prop :=
  ∃ A m c, e = .returned (.slice A m c) ∧ m = l.length ∧ w'.ownsRow w.heap.size 57 1 (.slice A m c) m (u8c l) ∧ Below w.heap.size w w'
/-- kinds that can be read -/
def RdK (w : World) (l : List Int) (e : Ending) (w' : World) : Prop :=
  ∃ A m c, e = .returned (.slice A m c) ∧ m = l.length ∧ m ≤ c ∧ Reads w' w'.heap.size 1 A m (u8c l) ∧ Below w.heap.size w w'
theorem NewK.rdK {w w' : World} {l : List Int} {e : Ending} (h : NewK w l e w') : RdK w l e w' := by
  obtain ⟨A, m, c, rfl, hm, ho, hb⟩ := h
  exact ⟨A, m, c, rfl, hm, own_cap ho, Reads.of_own ho, hb⟩
end Go.Proofs.Ytcgoanfhabjpfaa
