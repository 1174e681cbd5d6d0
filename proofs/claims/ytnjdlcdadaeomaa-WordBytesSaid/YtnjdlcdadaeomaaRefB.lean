/-
  The document's own answers on bytes: what its Bytes and Word give.
-/
import Derived.Test.YtnjdlcdadaeomaaBytesM
import Derived.Test.YtnjdlcdadaeomaaTakes
namespace Go.Proofs.Ytnjdlcdadaeomaa
open Go.ChangeShapes Go.WideShapes Go.ChangeAt Go.RowKit

/-- the eight bytes of a word as cells -/
def wcells (v : Int) : List Value := (wbytes v).map (Value.int .u8)
theorem wcells_take (v : Int) (k : Nat) (h : k < 8) : (wcells v).take k ++ [Value.int .u8 (wbyte v k)] = (wcells v).take (k + 1) := by
  obtain rfl | rfl | rfl | rfl | rfl | rfl | rfl | rfl : k = 0 ∨ k = 1 ∨ k = 2 ∨ k = 3 ∨ k = 4 ∨ k = 5 ∨ k = 6 ∨ k = 7 := by omega
  all_goals rfl
theorem div_step (v : Int) (k : Nat) : v / 2 ^ (8 * k) / 256 = v / 2 ^ (8 * (k + 1)) := by
  have e : (2 : Int) ^ (8 * (k + 1)) = 2 ^ (8 * k) * 256 := by rw [Nat.mul_add, Int.pow_add]; rfl
  rw [e, Int.ediv_ediv_of_nonneg (Int.le_of_lt (pow_pos2 _))]

set_option maxHeartbeats 800000 in
theorem refbytes_any (v : Int) (hv : isW v) (w : World) :
    Calls Try.prog 15 #[.int .u64 v] w fun e w' => ∃ g cap, e = .returned (.slice (some ⟨g, 0, none⟩) 8 cap) ∧ Holds .u8 w' (some ⟨g, 0, none⟩) 8 (wbytes v) ∧ w.heap.size ≤ g ∧ Below w.heap.size w w' := by
  obtain ⟨i0, hi, hz0, hz1, hz2⟩ := info_parts Try.info5
  go_enter Try.func15, Try.ntmps15
  go_wp2
  go_loopw [0, 3, 4] (fun x out n wr => ∃ k : Nat, k ≤ 8 ∧ n = .int .i64 k ∧ x = .int .u64 (v / 2 ^ (8 * k)) ∧ wr.ownsRow w.heap.size 5 1 out k ((wcells v).take k) ∧ Below w.heap.size w wr) (fun _ _ n _ => 8 - (intOf n).toNat)
  case atStart => exact ⟨0, Nat.zero_le _, rfl, by simp, World.ownsRow_nil _ _ _ _, Below.refl _ _⟩
  case round =>
    obtain ⟨k, hk, rfl, rfl, hown, hbel⟩ := hrel
    by_cases hlt : k < 8
    · obtain ⟨X, HX⟩ : ∃ X, Hid (X = v / 2 ^ (8 * k)) := ⟨_, rfl⟩
      have hX := isW_ediv hv (8 * k)
      rw [← HX.out] at hX ⊢
      obtain ⟨hX0, hX1⟩ := hX
      have hX2 : X ≤ 18446744073709551615 := by omega
      clear hX1
      go_wp2_with (at_builtin; refine wpList_append_own _ rfl _ _ 32 rfl w.heap.size 5 i0 (.int .u8 0) 1 1 Try.underlying32 hi hz0 hz1 hz2 rfl (by decide) _ _ _ rfl (hown.alloc _) ⟨wr.heap.size, 0, none⟩ 1 1 [.int .u8 (X % 256)] rfl rfl ?c1 ?c2 ?c3 ?c4 ?c5 ?_)
      case c1 =>
        intro j u hj
        match j, hj with
        | 0, hj => simp at hj; subst hj; simp [Addr.add]
      case c2 => intro u hu; simp at hu; subst hu; rfl
      case c3 => unfold maxLen; omega
      case c4 => omega
      case c5 => have := hbel.size; simp; omega
      intro v' w2 hown' hgr _
      rw [show X % 256 = wbyte v k from by rw [HX.out]; rfl, wcells_take v k hlt] at hown'
      have hbel2 : Below w.heap.size w w2 := (hbel.alloc hbel.size _).grown hgr (by have := hbel.size; simp; omega) (fun b hb => by
        rcases hown.2 with ⟨rfl, _⟩ | ⟨g, cap, cur, rfl, hg, _⟩
        · simp [Value.ownBlock] at hb
        · simp [Value.ownBlock] at hb; omega)
      have HO := Lib.hid hown'
      clear hown hgr hown'
      go_wp2
      go_roundw
      case rel => exact ⟨k + 1, by omega, by go_num, by rw [HX.out, div_step], HO.out, hbel2⟩
      case measure => simp [intOf]; omega
    · obtain rfl : k = 8 := by omega
      rcases hown.2 with ⟨_, h8⟩ | ⟨g, cap, cur, rfl, hg, hblk, hcap, _, hcs, htake⟩
      · cases h8
      · have HB := Lib.hid hblk
        clear hblk hown
        go_wp2
        go_ret
        refine ⟨g, cap, rfl, ⟨length_wbytes v, fun _ => ⟨g, 0, rfl, (Array.getElem?_eq_some_iff.1 HB.out).1, fun j hj => ?_⟩⟩, hg, hbel⟩
        rw [cell_of_row _ _ _ _ _ _ HB.out]
        have hj2 : cur.toList[j]? = (cur.toList.take (8 * 1))[j]? := by rw [List.getElem?_take, if_pos (by omega)]
        rw [Nat.zero_add, ← Array.getElem?_toList, hj2, htake]
        have hjl : j < (wbytes v).length := by rw [length_wbytes]; exact hj
        have hwl : (wcells v).length = 8 := by simp [wcells, length_wbytes]
        rw [List.take_of_length_le (by omega)]
        simp [wcells, hjl]

/-! ### The word of eight bytes, from the last one on -/
/-- what the document's Word has gathered when k bytes have been read -/
def hacc (l : List Int) : Nat → Int
  | 0 => 0
  | k + 1 => hacc l k * 256 + l.getD (7 - k) 0
theorem hacc_range {l : List Int} (h : AreBytes l) (k : Nat) (hk : k ≤ 8) : 0 ≤ hacc l k ∧ hacc l k ≤ 256 ^ k - 1 := by
  induction k with
  | zero => simp [hacc]
  | succ k ih =>
    have h1 := ih (by omega)
    have h2 := h (7 - k)
    unfold hacc
    rw [Int.pow_succ]
    generalize l.getD (7 - k) 0 = x at h2
    generalize hacc l k = y at h1
    generalize (256 : Int) ^ k = p at h1
    omega
theorem hacc_small {l : List Int} (h : AreBytes l) (k : Nat) (hk : k < 8) : 0 ≤ hacc l k ∧ hacc l k ≤ 72057594037927935 := by
  have h1 := hacc_range h k (by omega)
  have h2 : (256 : Int) ^ k ≤ 72057594037927936 := by
    obtain rfl | rfl | rfl | rfl | rfl | rfl | rfl | rfl : k = 0 ∨ k = 1 ∨ k = 2 ∨ k = 3 ∨ k = 4 ∨ k = 5 ∨ k = 6 ∨ k = 7 := by omega
    all_goals decide
  omega

set_option maxHeartbeats 800000 in
theorem refword_any (b off len cap : Nat) (l : List Int) (w : World) (h8 : len = 8) (hc : ∀ j, j < 8 → w.cell? ⟨b, off + j, none⟩ = some (.int .u8 (l.getD j 0))) (hb : AreBytes l) :
    Calls Try.prog 16 #[.slice (some ⟨b, off, none⟩) len cap] w fun e w' => e = .returned (.int .u64 (hacc l 8)) ∧ w = w' := by
  subst h8
  have HC := Lib.hid hc
  have HB := Lib.hid hb
  clear hc hb
  go_enter Try.func16, Try.ntmps16
  go_wp2
  go_loop [3, 4] (fun v n => ∃ k : Nat, k ≤ 8 ∧ n = .int .i64 (7 - (k : Int)) ∧ v = .int .u64 (hacc l k)) (fun _ n => (intOf n + 1).toNat)
  case atStart => exact ⟨0, Nat.zero_le _, rfl, rfl⟩
  case round =>
    obtain ⟨k, hk, rfl, rfl⟩ := hrel
    by_cases hlt : k < 8
    · obtain ⟨m, HM⟩ : ∃ m : Nat, Hid (m = 7 - k) := ⟨_, rfl⟩
      have hm : (7 : Int) - (k : Int) = (m : Int) := by rw [HM.out]; omega
      have hm8 : m < 8 := by rw [HM.out]; omega
      rw [hm]
      clear hm
      obtain ⟨x, HX⟩ : ∃ x, Hid (x = l.getD m 0) := ⟨_, rfl⟩
      obtain ⟨y, HY⟩ : ∃ y, Hid (y = hacc l k) := ⟨_, rfl⟩
      have hcx := HC.out m hm8
      have hbx := HB.out m
      have hyr := hacc_small HB.out k hlt
      rw [← HX.out] at hcx hbx
      rw [← HY.out] at hyr ⊢
      go_wp2
      go_round
      case rel => exact ⟨k + 1, by omega, by rw [HM.out]; go_num, by rw [HY.out, HX.out, HM.out]; rfl⟩
      case measure => (have := HM.out; simp [intOf]; try omega)
    · obtain rfl : k = 8 := by omega
      go_wp2
      go_ret
      exact ⟨rfl, rfl⟩

/-! ### The two readings are one -/
/-- the sum of the first k of eight bytes from a place on, each by its weight -/
def psum (l : List Int) (at_ : Nat) : Nat → Nat
  | 0 => 0
  | k + 1 => (l.getD (at_ + k) 0).toNat * 2 ^ (8 * k) + psum l at_ k
theorem psum_lt {l : List Int} (h : AreBytes l) (at_ k : Nat) : psum l at_ k < 2 ^ (8 * k) := by
  induction k with
  | zero => simp [psum]
  | succ k ih =>
    unfold psum
    have h2 := h (at_ + k)
    have e : 2 ^ (8 * (k + 1)) = 256 * 2 ^ (8 * k) := by rw [Nat.mul_add, Nat.pow_add, Nat.mul_comm]
    have h3 : (l.getD (at_ + k) 0).toNat * 2 ^ (8 * k) ≤ 255 * 2 ^ (8 * k) := Nat.mul_le_mul_right _ (by omega)
    rw [e]
    omega
theorem take8_psum {l : List Int} (h : AreBytes l) (at_ k : Nat) (hk : k ≤ 8) : take8 l at_ k = (psum l at_ k : Int) := by
  induction k with
  | zero => rfl
  | succ k ih =>
    unfold take8
    rw [ih (by omega)]
    have h2 := h (at_ + k)
    have h3 := psum_lt h at_ (k + 1)
    have h4 : 2 ^ (8 * (k + 1)) ≤ 2 ^ 64 := Nat.pow_le_pow_right (by decide) (by omega)
    have h5 : (2 : Nat) ^ 64 = 18446744073709551616 := by decide
    rw [h5] at h4
    unfold psum at h3
    have e : l.getD (at_ + k) 0 = ((l.getD (at_ + k) 0).toNat : Int) := by omega
    rw [e, take8_step _ _ _ (psum_lt h at_ k) (by omega)]
    rfl
theorem take8_hacc {l m : List Int} (hl : AreBytes l) (hm : AreBytes m) (at_ : Nat) (h : ∀ j, j < 8 → l.getD (at_ + j) 0 = m.getD j 0) : take8 l at_ 8 = hacc m 8 := by
  rw [take8_psum hl at_ 8 (Nat.le_refl _)]
  have h0 := h 0 (by decide)
  have h1 := h 1 (by decide)
  have h2 := h 2 (by decide)
  have h3 := h 3 (by decide)
  have h4 := h 4 (by decide)
  have h5 := h 5 (by decide)
  have h6 := h 6 (by decide)
  have h7 := h 7 (by decide)
  have b0 := hm 0
  have b1 := hm 1
  have b2 := hm 2
  have b3 := hm 3
  have b4 := hm 4
  have b5 := hm 5
  have b6 := hm 6
  have b7 := hm 7
  unfold psum psum psum psum psum psum psum psum psum
  unfold hacc hacc hacc hacc hacc hacc hacc hacc hacc
  rw [h0, h1, h2, h3, h4, h5, h6, h7]
  simp only [Nat.reduceMul, Nat.reducePow, Nat.reduceSub, Nat.sub_self, Nat.sub_zero]
  omega
end Go.Proofs.Ytnjdlcdadaeomaa
