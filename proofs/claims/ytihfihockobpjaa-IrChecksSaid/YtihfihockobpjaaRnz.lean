/-
  The document's node: which nodes are right (plain facts).
-/
import Derived.Test.YtihfihockobpjaaRf
import Derived.Test.YtihfihockobpjaaRr
import Derived.Test.YtihfihockobpjaaCc
namespace Go.Proofs.Ytihfihockobpjaa
set_option linter.unusedVariables false
set_option linter.unusedSimpArgs false
open Go.ChangeShapes Go.WideShapes Go.ChangeAt Go.RowKit

theorem holds_split {gs : List Gr} {g : Gr} {bd : Bool} {n : Nd} (hk : ∀ k ∈ g.kinds, k = 0 ∨ k = 1) (h1 : 1 ≤ n.op) (h2 : n.op ≤ 18) :
    nodeHolds gs g bd n ↔ (∀ x ∈ nextsOf n, isOne x g.nodes.length) ∧ (∀ i, i < 4 → asked g.kinds bd ((wantOf n.op).getD i 45) ([n.d, n.e, n.a, n.b].getD i 0)) ∧ restOf gs g bd n := by
  rw [← rnode_eq hk (by omega) (by omega)]
  unfold rnode
  exact ⟨fun h => h.2, fun h => ⟨⟨h1, h2⟩, h⟩⟩
theorem upto_snoc {Q : Nat → Prop} {k : Nat} (h : ∀ i, i < k → Q i) (hk : Q k) : ∀ i, i < k + 1 → Q i := fun i hi => by
  rcases Nat.lt_or_ge i k with h1 | h1
  · exact h i h1
  · obtain rfl : i = k := by omega
    exact hk
theorem asked_no {ks : List Int} {bd : Bool} {c p : Int} (h1 : c ≠ 110) (h2 : c ≠ 112) : asked ks bd c p := ⟨fun h => absurd h h1, fun h => absurd h h2⟩
theorem asked_n {ks : List Int} {bd : Bool} {p : Int} : asked ks bd 110 p ↔ fits ks bd p 0 := ⟨fun h => h.1 rfl, fun h => ⟨fun _ => h, fun h => by cases h⟩⟩
theorem asked_p {ks : List Int} {bd : Bool} {p : Int} : asked ks bd 112 p ↔ fits ks bd p 1 := ⟨fun h => h.2 rfl, fun h => ⟨(fun h => by cases h), fun _ => h⟩⟩
end Go.Proofs.Ytihfihockobpjaa
