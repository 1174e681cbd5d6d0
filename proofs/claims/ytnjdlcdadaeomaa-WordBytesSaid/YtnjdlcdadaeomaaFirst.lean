/-
  What the statements' own opening function answers: true, and nothing that was there is turned.
-/
import Derived.Test.YtnjdlcdadaeomaaDo
import Derived.Test.YtnjdlcdadaeomaaSlices
namespace Go.Proofs.Ytnjdlcdadaeomaa
open Go.ChangeShapes Go.WideShapes Go.ChangeAt Go.RowKit

theorem first_div : (wdiv 7 18446744073709551614 == 18446744073709551613) = true := by kernel_rfl
theorem first_take : (take8 (putL [9] 258 8) 1 8 == 258) = true := by kernel_rfl

theorem first_holds (w : World) : Holds .u8 (w.alloc (.cells #[.int .u8 9] 5)) (some ⟨w.heap.size, 0, none⟩) 1 [9] := by
  refine ⟨rfl, fun _ => ⟨_, _, rfl, by simp, fun j hj => ?_⟩⟩
  obtain rfl : j = 0 := by omega
  rw [cell_of_row _ _ _ _ _ _ (heap_alloc_new w _)]
  rfl

/-- A block that Put has filled, read as numbers. -/
theorem putC_cell {w : World} {g : Nat} {l : List Int} {v : Int} (h : w.heap[g]? = some (.cells (putC l v 8) 5 (0, 0))) (j : Nat) (hj : j < (putL l v 8).length) :
    w.cell? ⟨g, 0 + j, none⟩ = some (.int .u8 ((putL l v 8).getD j 0)) := by
  rw [cell_of_row _ _ _ _ _ _ h]
  unfold putC
  simp [hj]

theorem wbyte_byte (v : Int) (k : Nat) : 0 ≤ wbyte v k ∧ wbyte v k ≤ 255 := by
  unfold wbyte; omega
theorem areBytes_of {l : List Int} (h : ∀ x ∈ l, 0 ≤ x ∧ x ≤ 255) : AreBytes l := by
  intro j
  rcases Nat.lt_or_ge j l.length with hj | hj
  · have := h l[j] (List.getElem_mem hj)
    simpa [hj] using this
  · simp [List.getD, List.getElem?_eq_none hj]
theorem wbytes_byte {v x : Int} (h : x ∈ wbytes v) : 0 ≤ x ∧ x ≤ 255 := by
  simp only [wbytes, List.mem_map] at h
  obtain ⟨k, _, rfl⟩ := h
  exact wbyte_byte v k
theorem putL_byte {l : List Int} {v : Int} {k : Nat} (h : ∀ x ∈ l, 0 ≤ x ∧ x ≤ 255) : ∀ x ∈ putL l v k, 0 ≤ x ∧ x ≤ 255 := by
  intro x hx
  simp only [putL, List.mem_append, List.mem_replicate] at hx
  rcases hx with (hx | hx) | hx
  · exact h x hx
  · exact wbytes_byte (List.mem_of_mem_take hx)
  · omega

set_option maxHeartbeats 800000 in
theorem first_any (w : World) : Calls Try.prog 10 #[] w fun e w' => e = .returned (.bool true) ∧ Below w.heap.size w w' := by
  have h1 := first_div
  have h2 := first_take
  go_enter Try.func10, Try.ntmps10
  go_wp2_with fail
  (refine (do_div 7 18446744073709551614 _ rfl (by decide +kernel)).mono ?_); rintro e w' ⟨rfl, rfl⟩
  unfold wend
  go_wp2_with fail
  (refine (do_div0 1 _).mono ?_); rintro e w' ⟨rfl, rfl⟩
  unfold wend
  go_wp2_with fail
  (refine (put_any _ 1 1 [9] 258 _ (first_holds w) (by omega) ⟨by omega, by omega⟩).mono ?_); rintro e w2 ⟨g, rfl, hg, hblk, hbel⟩
  have HC := Lib.hid (putC_cell hblk)
  have hB : Below w.heap.size w w2 := ((Below.refl _ _).alloc (Nat.le_refl _) _).trans (hbel.mono (by simp))
  clear hblk hbel hg
  go_wp2_with fail
  (refine (take_in g 0 9 9 1 (putL [9] 258 8) _ rfl (fun j hj => HC.out j hj) (areBytes_of (putL_byte (by simp))) (by omega) (by unfold maxLen; omega)).mono ?_); rintro e w' ⟨rfl, rfl⟩
  go_wp2
  go_ret
  exact ⟨rfl, hB⟩
end Go.Proofs.Ytnjdlcdadaeomaa
