/-
  Plain mathematics on words and their bytes: eight bytes taken together are the word that was cut into them. Nothing here speaks of the program.
-/
import Derived.Test.YtnjdlcdadaeomaaSlices
import Derived.Test.YtnjdlcdadaeomaaFirst
namespace Go.Proofs.Ytnjdlcdadaeomaa
open Go.RowKit

theorem wbyte_nat (n k : Nat) : wbyte (n : Int) k = ((n / 2 ^ (8 * k) % 256 : Nat) : Int) := by
  unfold wbyte
  rw [Int.natCast_emod, Int.natCast_ediv, Int.natCast_pow]; rfl
theorem take8_step (A x p : Nat) (hA : A < 2 ^ p) (hs : x * 2 ^ p + A < 18446744073709551616) :
    bits BinOp.or IntKind.u64 (A : Int) (IntKind.u64.wrap ((x : Int) * 2 ^ p)) = ((x * 2 ^ p + A : Nat) : Int) := by
  have e : (x : Int) * 2 ^ p = ((x * 2 ^ p : Nat) : Int) := by rw [Int.natCast_mul, Int.natCast_pow]; rfl
  rw [e, wrap_u64_eq]
  have e2 : ((x * 2 ^ p : Nat) : Int) % 18446744073709551616 = ((x * 2 ^ p : Nat) : Int) := by omega
  rw [e2, u64_or_nat _ _ (by omega) (by omega)]
  congr 1
  rw [Nat.or_comm, Nat.mul_comm]
  exact (Nat.two_pow_add_eq_or_of_lt hA x).symm
theorem take8_val (l : List Int) (at_ n : Nat) (hn : n < 18446744073709551616) (h : ∀ k, k < 8 → l.getD (at_ + k) 0 = wbyte n k) (k : Nat) (hk : k ≤ 8) : take8 l at_ k = ((n % 2 ^ (8 * k) : Nat) : Int) := by
  induction k with
  | zero => simp [take8, Nat.mod_one]
  | succ k ih =>
    unfold take8
    rw [ih (by omega), h k (by omega), wbyte_nat]
    have hm : n % 2 ^ (8 * (k + 1)) = n / 2 ^ (8 * k) % 256 * 2 ^ (8 * k) + n % 2 ^ (8 * k) := by
      have e : 2 ^ (8 * (k + 1)) = 2 ^ (8 * k) * 256 := by rw [Nat.mul_add, Nat.pow_add]
      rw [e, Nat.mod_mul, Nat.mul_comm (2 ^ (8 * k)) (n / 2 ^ (8 * k) % 256)]
      omega
    rw [take8_step _ _ _ (Nat.mod_lt _ (Nat.two_pow_pos _)) (by rw [← hm]; exact Nat.lt_of_le_of_lt (Nat.mod_le _ _) hn), hm]
theorem take8_all {l : List Int} {at_ : Nat} {v : Int} (hv : isW v) (h : ∀ k, k < 8 → l.getD (at_ + k) 0 = wbyte v k) : take8 l at_ 8 = v := by
  obtain ⟨n, rfl, hn⟩ := isW_nat hv
  rw [take8_val l at_ n hn h 8 (Nat.le_refl _)]
  congr 1
  exact Nat.mod_eq_of_lt hn
theorem wbytes_getD (v : Int) (k : Nat) (h : k < 8) : (wbytes v).getD k 0 = wbyte v k := by
  unfold wbytes
  rw [List.getD_eq_getElem?_getD, List.getElem?_map, List.getElem?_range h]
  rfl
theorem take8_mid {a c : List Int} {v : Int} (hv : isW v) : take8 (a ++ (wbytes v ++ c)) a.length 8 = v := by
  apply take8_all hv
  intro k hk
  rw [← wbytes_getD v k hk, List.getD_eq_getElem?_getD, List.getD_eq_getElem?_getD, List.getElem?_append_right (by omega), Nat.add_sub_cancel_left, List.getElem?_append_left (by rw [length_wbytes]; exact hk)]
theorem putL_8 (l : List Int) (v : Int) : putL l v 8 = l ++ wbytes v := by
  unfold putL
  simp [List.take_of_length_le, length_wbytes]
/-- what Put has made is a slice that holds the bytes and the word's -/
theorem holds_put {w : World} {g len : Nat} {l : List Int} {v : Int} (hl : l.length = len) (h : w.heap[g]? = some (.cells (putC l v 8) 5 (0, 0))) : Holds .u8 w (some ⟨g, 0, none⟩) (len + 8) (l ++ wbytes v) := by
  refine ⟨by rw [List.length_append, length_wbytes, hl], fun _ => ⟨g, 0, rfl, (Array.getElem?_eq_some_iff.1 h).1, fun j hj => ?_⟩⟩
  rw [← putL_8]
  exact putC_cell h j (by rw [length_putL _ _ _ (Nat.le_refl _)]; omega)
theorem bytes_append {l : List Int} {v : Int} (h : ∀ x ∈ l, 0 ≤ x ∧ x ≤ 255) : ∀ x ∈ l ++ wbytes v, 0 ≤ x ∧ x ≤ 255 := by
  intro x hx
  rcases List.mem_append.1 hx with hx | hx
  · exact h x hx
  · exact wbytes_byte hx
theorem Holds.below {k : IntKind} {w w' : World} {ao : Option Addr} {len : Nat} {l : List Int} (h : Holds k w ao len l) (hb : Below w.heap.size w w') : Holds k w' ao len l := by
  refine ⟨h.1, fun hl => ?_⟩
  obtain ⟨b, off, e, hlt, hc⟩ := h.2 hl
  exact ⟨b, off, e, Nat.lt_of_lt_of_le hlt hb.size, fun j hj => (hb.cell (p := ⟨b, off + j, none⟩) hlt).trans (hc j hj)⟩

/-! ### Words one behind the other -/
/-- the bytes when k words of the list have been put -/
def putAll (l : List Int) (zs : List Int) (k : Nat) : List Int := l ++ (zs.take k).flatMap wbytes
theorem putAll_zero (l zs : List Int) : putAll l zs 0 = l := by simp [putAll]
theorem putAll_step (l zs : List Int) (k : Nat) (h : k < zs.length) : putAll l zs k ++ wbytes (zs.getD k 0) = putAll l zs (k + 1) := by
  unfold putAll
  have e : zs.take (k + 1) = zs.take k ++ [zs.getD k 0] := by
    rw [List.take_succ_eq_append_getElem h]; simp [h]
  rw [e, List.flatMap_append, List.append_assoc]
  simp
theorem length_flatWords (zs : List Int) : (zs.flatMap wbytes).length = 8 * zs.length := by
  induction zs with
  | nil => rfl
  | cons z zs ih => rw [List.flatMap_cons, List.length_append, length_wbytes, ih, List.length_cons]; omega
theorem length_putAll (l zs : List Int) (k : Nat) (h : k ≤ zs.length) : (putAll l zs k).length = l.length + 8 * k := by
  unfold putAll
  rw [List.length_append, length_flatWords, List.length_take, Nat.min_eq_left h]
theorem putAll_bytes {l zs : List Int} {k : Nat} (h : ∀ x ∈ l, 0 ≤ x ∧ x ≤ 255) : ∀ x ∈ putAll l zs k, 0 ≤ x ∧ x ≤ 255 := by
  intro x hx
  unfold putAll at hx
  rcases List.mem_append.1 hx with hx | hx
  · exact h x hx
  · obtain ⟨z, _, hz⟩ := List.mem_flatMap.1 hx
    exact wbytes_byte hz
theorem putAll_take {l zs : List Int} {n k : Nat} (hk : k < n) (hn : n ≤ zs.length) (hw : isW (zs.getD k 0)) : take8 (putAll l zs n) (l.length + 8 * k) 8 = zs.getD k 0 := by
  have e : putAll l zs n = putAll l zs k ++ (wbytes (zs.getD k 0) ++ ((zs.take n).drop (k + 1)).flatMap wbytes) := by
    have h1 : zs.take n = zs.take k ++ (zs.getD k 0 :: (zs.take n).drop (k + 1)) := by
      have h2 : zs.take n = (zs.take n).take k ++ (zs.take n).drop k := (List.take_append_drop k _).symm
      have hkl : k < (zs.take n).length := by rw [List.length_take]; omega
      rw [List.take_take, Nat.min_eq_left (by omega), List.drop_eq_getElem_cons hkl] at h2
      rw [List.getElem_take] at h2
      have hg : zs.getD k 0 = zs[k]'(by omega) := by simp [List.getD, List.getElem?_eq_getElem (show k < zs.length by omega)]
      rw [hg]
      exact h2
    unfold putAll
    rw [h1, List.flatMap_append, List.flatMap_cons, List.append_assoc]
    congr 3
    rw [← h1]
  rw [e, ← length_putAll l zs k (by omega)]
  exact take8_mid hw
end Go.Proofs.Ytnjdlcdadaeomaa
