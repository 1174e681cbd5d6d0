/-
  The document's low.
-/
import Derived.Test.YtfadcoimeocjiaaGreatDoorTSays
namespace Go.Proofs.YtfadcoimeocjiaaGreatDoor
set_option linter.unusedVariables false
open Go.ChangeShapes Go.WideShapes Go.ChangeAt Go.RowKit

/-- a new row of bytes -/
def NewB (w : World) (l : List Int) (m : Nat) (e : Ending) (w' : World) : Prop :=
  ∃ A c, e = .returned (.slice A m c) ∧ w'.ownsRow w.heap.size 5 1 (.slice A m c) m (u8c l) ∧ Below w.heap.size w w'
set_option maxHeartbeats 1600000 in
theorem low_any (v : Int) (n : Nat) (w : World) (h0 : 0 ≤ v) (h1 : v ≤ 18446744073709551615) (hn : n ≤ 8) :
    Calls Tryz.prog 19 #[.int .u64 v, .int .i64 n] w (NewB w (le n v) n) := by
  go_enter Tryz.func19, Tryz.ntmps19
  go_wp2
  go_loopw [0, 5, 6] (fun x s i wr => ∃ (k : Nat) (z : Int) (A : Option Addr) (c : Nat) (out : List Int), k ≤ n ∧ i = .int .i64 k ∧ x = .int .u64 z ∧ 0 ≤ z ∧ z ≤ 18446744073709551615 ∧ s = .slice A k c ∧ Hid (le n v = out ++ le (n - k) z) ∧ Hid (out.length = k) ∧ Hid (wr.ownsRow w.heap.size 5 1 (.slice A k c) k (u8c out)) ∧ Hid (Below w.heap.size w wr)) (fun _ _ i _ => n - (intOf i).toNat)
  case atStart => exact ⟨0, v, none, 0, [], Nat.zero_le _, rfl, rfl, h0, h1, rfl, rfl, rfl, own_none _ _ _ _, Below.refl _ _⟩
  case round =>
    obtain ⟨k, z, A, c, out, hk, rfl, rfl, hz0, hz1, rfl, HE, HL, HO, HB⟩ := hrel
    have hz := HB.out.size
    by_cases hlt : k < n
    · have HN : Hid (le n v = (out ++ [z % 256]) ++ le (n - (k + 1)) (z / 256)) := by
        show _ = _
        rw [HE.out, show n - k = (n - (k + 1)) + 1 by omega]
        simp [le]
      have HRd := Lib.hid (one_reads wr 5 [.int .u8 (z % 256)] 1 rfl)
      have HOne : Hid (∀ u ∈ [Value.int .u8 (z % 256)], u.oneCell' = true) := Lib.hid (u8c_one [z % 256])
      have HOa := Lib.hid (own_alloc' HO.out (.cells #[.int .u8 (z % 256)] 5))
      go_wp2_with (at_builtin; refine app_byte rfl _ _ rfl w.heap.size (.slice A k c) k _ rfl HOa.out (wr.heap.size + 1) (some ⟨wr.heap.size, 0, none⟩) 1 1 [.int .u8 (z % 256)] rfl HRd.out HOne.out (by omega) (by simp; omega) ?_; intro v' w3 hown hgr hor; refine Hid.out ?_)
      obtain ⟨A3, c3, rfl⟩ := own_slice hown
      have HO3 : Hid (w3.ownsRow w.heap.size 5 1 (.slice A3 (k + 1) c3) (k + 1) (u8c (out ++ [z % 256]))) := by
        rw [u8c_append]
        exact hown
      have HB3 : Hid (Below w.heap.size w w3) := (HB.out.alloc hz _).grown hgr (by simp; omega) fun i hi => (own_block_le HO.out hi).1
      have HL3 : Hid ((out ++ [z % 256]).length = k + 1) := Lib.hid (by rw [List.length_append, HL.out]; rfl)
      clear hown hgr hor
      refine Lib.hid ?_
      go_wp2
      go_roundw
      case rel => exact ⟨k + 1, z / 256, A3, c3, _, by omega, by go_num, rfl, by omega, by omega, rfl, HN, HL3, HO3, HB3⟩
      case measure => simp [intOf]; omega
    · obtain rfl : n = k := by omega
      clear hlt hk
      have HN : Hid (le n v = out) := by
        show _ = _
        rw [HE.out, Nat.sub_self]
        simp [le]
      go_wp2
      go_ret
      exact ⟨A, c, rfl, by rw [HN.out]; exact HO.out, HB.out⟩

end Go.Proofs.YtfadcoimeocjiaaGreatDoor
