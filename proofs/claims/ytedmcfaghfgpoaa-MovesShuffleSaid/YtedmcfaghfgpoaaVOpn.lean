/-
  MovesShuffle's argument opened: ints.
-/
import Derived.Test.YtedmcfaghfgpoaaVLaw
import Derived.OpenShut
import Derived.Lib.SmallJoins
namespace Go.Proofs.Ytedmcfaghfgpoaa
set_option linter.unusedVariables false
open Go.ChangeShapes Go.WideShapes Go.ChangeAt Go.RowKit Go.Joins
section
variable {H : Type} {enc : TypeId × Value → H} {W : World}
set_option maxRecDepth 100000 in
theorem open_islice {base : Nat} {v : Value} {d : DataW H} {p : List MemPlace} (hv : Value.okWide Try.prog W .any base 22 v) (h : DataW.Trod enc Try.prog W 0 (fun _ => true) true 22 v d p) :
    ∃ (ao : Option Addr) (n c : Nat) (l : List Int), v = .slice ao n c ∧ Reads W W.heap.size 1 ao n (i64c l) := by
  obtain ⟨ao, n, c, rfl⟩ := okWide_slice Try.underlying22 hv
  obtain ⟨fuel, hf⟩ := h
  rcases open_ints Try.underlying22 Try.underlying3 (by kernel_rfl) hf with ⟨hcs, hx⟩ | ⟨a, len, cap, zs, hcs, _, hl, hm, hz, hx, hcell, hwz⟩
  · simp [Value.cells] at hcs
    obtain ⟨rfl, rfl, rfl⟩ := hcs
    exact ⟨none, 0, 0, [], rfl, Reads.none_⟩
  · simp [Value.cells] at hcs
    obtain ⟨rfl, rfl, rfl⟩ := hcs
    simp only [if_true] at hz
    refine ⟨some a, n, c, zs.take n, rfl, ⟨by simp [i64c]; omega, fun hn => ⟨a, rfl, ?_, fun j u hu => ?_⟩⟩⟩
    · have hc := hcell 0 (by omega)
      rcases Nat.lt_or_ge a.block W.heap.size with hlt | hge
      · exact hlt
      · have : a.add 0 = a := by simp [Addr.add]
        rw [this] at hc
        simp [World.cell?, Array.getElem?_eq_none hge] at hc
    · unfold i64c at hu
      rw [List.getElem?_map] at hu
      have hjl : j < (zs.take n).length := by
        rcases Nat.lt_or_ge j (zs.take n).length with h1 | h1
        · exact h1
        · rw [List.getElem?_eq_none h1] at hu; cases hu
      have hjz : j < zs.length := by simp at hjl; omega
      have hjn : j < n := by simp at hjl; omega
      rw [hcell j hjz, ← hu, List.getElem?_take, if_pos hjn, List.getElem?_eq_getElem hjz]
      simp [List.getD, hjz]
end
end Go.Proofs.Ytedmcfaghfgpoaa
