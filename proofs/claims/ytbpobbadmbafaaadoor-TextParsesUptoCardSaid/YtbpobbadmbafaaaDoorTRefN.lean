/-
  The document's Number, Name and Line.
-/
import Derived.Test.YtbpobbadmbafaaaDoorTSays
import Derived.Test.YtbpobbadmbafaaaDoorTDoc
import Derived.Test.YtbpobbadmbafaaaDoorTScan
import Derived.Laws.IdiomStrings
import Derived.Laws.Concat
import Derived.Deep.RegionHeld3
namespace Go.Proofs.YtbpobbadmbafaaaDoor
set_option linter.unusedVariables false
open Go.ChangeShapes Go.WideShapes Go.ChangeAt Go.RowKit

theorem one_string (w : World) (x : Nat) (hx : x ≤ 9) : (convert 86 9 (.slice (some ⟨w.heap.size, 0, none⟩) 1 1)).run Tryd.prog (w.alloc (.cells #[.int .u8 (48 + (x : Int))] 5)) = .ok (.string (str [UInt8.ofNat (48 + x)])) (w.alloc (.cells #[.int .u8 (48 + (x : Int))] 5)) := by
  have h := run_convert_bytes_back (P := Tryd.prog) (w.alloc (.cells #[.int .u8 (48 + (x : Int))] 5)) 86 9 5 ⟨w.heap.size, 0, none⟩ 1 [UInt8.ofNat (48 + x)] Tryd.underlying86 Tryd.underlying5 Tryd.underlying9 (fun j hj => by
    simp only [List.length_cons, List.length_nil] at hj
    obtain rfl : j = 0 := by omega
    have ea : (⟨w.heap.size, 0, none⟩ : Addr).add 0 = ⟨w.heap.size, 0, none⟩ := by simp [Addr.add]
    rw [ea, (Blk.new w _ _).cell]
    have := dig_val x (by omega)
    simp only [List.getElem_cons_zero, this]
    rfl)
  exact h

set_option maxHeartbeats 2000000 in
theorem rnumber_any (u : Nat) (hu : u < 18446744073709551616) (w : World) :
    Calls Tryd.prog 37 #[.int .u64 u] w fun e w' => e = .returned (.string (str (Lib.decDigits u))) ∧ Below w.heap.size w w' := by
  have hul := nDigits_le u hu
  have HUU := Lib.hid hu
  clear hu
  go_enter Tryd.func37, Tryd.ntmps37
  go_wp2
  go_loopw [0, 3] (fun n s wr => ∃ (z : Int) (m : Nat) (acc : List UInt8), 0 ≤ z ∧ z ≤ 18446744073709551615 ∧ Hid (z = (m : Int)) ∧ n = .int .u64 z ∧ s = .string (str acc) ∧ Hid (Lib.decDigits u = Lib.decDigits m ++ acc) ∧ Hid (Below w.heap.size w wr)) (fun n _ _ => (intOf n).toNat)
  case atStart => exact ⟨u, u, [], Int.natCast_nonneg u, by have := HUU.out; omega, rfl, rfl, rfl, by show _ = _; rw [List.append_nil], Below.refl _ _⟩
  case round =>
    obtain ⟨z, m, acc, hz0, hz1, HZ, rfl, rfl, HD, HW⟩ := hrel
    have hal : (str acc).size ≤ 20 := by
      rw [str_size]
      have := congrArg List.length HD.out
      rw [List.length_append] at this
      omega
    obtain ⟨x, hx, hmx⟩ : ∃ x : Nat, x ≤ 9 ∧ m % 10 = x := ⟨m % 10, by omega, rfl⟩
    have hx2 : z % 10 = (x : Int) := by have := HZ.out; omega
    have hcv := one_string wr x hx
    obtain ⟨S, HS⟩ : ∃ S, Hid (S = str acc) := ⟨_, rfl⟩
    obtain ⟨T, HT⟩ : ∃ T, Hid (T = str [UInt8.ofNat (48 + x)]) := ⟨_, rfl⟩
    rw [← HS.out] at hal ⊢
    rw [← HT.out] at hcv
    have htl : T.size = 1 := by rw [HT.out]; rfl
    have HMX := Lib.hid hmx
    clear hmx
    by_cases hlt : z < 10
    · have hm : m < 10 := by have := HZ.out; omega
      have HE : Hid (T ++ S = str (Lib.decDigits u)) := by
        show _ = _
        rw [HT.out, HS.out, str_append, HD.out, Lib.decDigits_one hm]
        have : x = m := by have := HMX.out; omega
        rw [this]
      have hq : z / 10 = 0 := by omega
      clear hm
      go_wp2
      go_ret
      exact ⟨ret_str HE.out, HW.out.alloc HW.out.size _⟩
    · have hm : ¬ m < 10 := by have := HZ.out; omega
      have HE : Hid (T ++ S = str (UInt8.ofNat (48 + x) :: acc)) := by
        show _ = _
        rw [HT.out, HS.out, str_append]; rfl
      have HDn : Hid (Lib.decDigits u = Lib.decDigits (m / 10) ++ (UInt8.ofNat (48 + x) :: acc)) := by
        show _ = _
        rw [HD.out, ← HMX.out]
        conv => lhs; rw [Lib.decDigits, dif_neg hm]
        simp
      obtain ⟨q, hq, hq0, hqz⟩ : ∃ q : Int, z / 10 = q ∧ 1 ≤ q ∧ q < z := ⟨z / 10, rfl, by omega, by omega⟩
      have HQ : Hid (q = ((m / 10 : Nat) : Int)) := by show _ = _; have := HZ.out; omega
      have hb : (q == 0) = false := by simp only [beq_eq_false_iff_ne, ne_eq]; omega
      clear hlt hm
      go_wp2
      go_roundw
      case rel => exact ⟨q, m / 10, _, by omega, by omega, HQ, by rw [hq], by rw [HE.out], HDn, HW.out.alloc HW.out.size _⟩
      case measure => simp [intOf]; omega


def namesLit : Array Value := #[.string ⟨#[99, 111, 110, 115, 116]⟩, .string ⟨#[103, 101, 116]⟩, .string ⟨#[115, 101, 116]⟩, .string ⟨#[97, 100, 100, 114]⟩, .string ⟨#[108, 111, 97, 100]⟩, .string ⟨#[115, 116, 111, 114, 101]⟩, .string ⟨#[97, 100, 100]⟩, .string ⟨#[115, 117, 98]⟩, .string ⟨#[109, 117, 108]⟩, .string ⟨#[100, 105, 118]⟩, .string ⟨#[114, 101, 109]⟩, .string ⟨#[97, 110, 100]⟩, .string ⟨#[111, 114]⟩, .string ⟨#[120, 111, 114]⟩, .string ⟨#[115, 104, 108]⟩, .string ⟨#[115, 104, 114]⟩, .string ⟨#[115, 97, 114]⟩, .string ⟨#[101, 113]⟩, .string ⟨#[108, 116]⟩, .string ⟨#[98, 101, 108, 111, 119]⟩, .string ⟨#[106, 117, 109, 112]⟩, .string ⟨#[122, 101, 114, 111]⟩, .string ⟨#[99, 97, 108, 108]⟩, .string ⟨#[114, 101, 116]⟩, .string ⟨#[100, 101, 102, 101, 114]⟩, .string ⟨#[112, 97, 110, 105, 99]⟩, .string ⟨#[114, 101, 99, 111, 118, 101, 114]⟩, .string ⟨#[105, 110]⟩, .string ⟨#[111, 117, 116]⟩, .string ⟨#[101, 120, 105, 116]⟩, .string ⟨#[100, 114, 111, 112]⟩, .string ⟨#[100, 117, 112]⟩]
theorem names_lit : ∀ k, k < 32 → namesLit[k]? = some (.string (str (nms.getD k []))) := by
  intro k hk
  have : k = 0 ∨ k = 1 ∨ k = 2 ∨ k = 3 ∨ k = 4 ∨ k = 5 ∨ k = 6 ∨ k = 7 ∨ k = 8 ∨ k = 9 ∨ k = 10 ∨ k = 11 ∨ k = 12 ∨ k = 13 ∨ k = 14 ∨ k = 15 ∨ k = 16 ∨ k = 17 ∨ k = 18 ∨ k = 19 ∨ k = 20 ∨ k = 21 ∨ k = 22 ∨ k = 23 ∨ k = 24 ∨ k = 25 ∨ k = 26 ∨ k = 27 ∨ k = 28 ∨ k = 29 ∨ k = 30 ∨ k = 31 := by omega
  rcases this with rfl | rfl | rfl | rfl | rfl | rfl | rfl | rfl | rfl | rfl | rfl | rfl | rfl | rfl | rfl | rfl | rfl | rfl | rfl | rfl | rfl | rfl | rfl | rfl | rfl | rfl | rfl | rfl | rfl | rfl | rfl | rfl <;> rfl
set_option maxRecDepth 100000 in
set_option maxHeartbeats 2000000 in
theorem name_any (op : Nat) (h1 : 1 ≤ op) (h2 : op ≤ 32) (w : World) :
    Calls Tryd.prog 39 #[.int .u8 op] w fun e w' => e = .returned (.string (str (nmOf op))) ∧ Below w.heap.size w w' := by
  obtain ⟨k, hk, hk1⟩ : ∃ k : Nat, (op : Int) - 1 = (k : Int) ∧ k < 32 := ⟨op - 1, by omega, by omega⟩
  have hc : (w.alloc (.cells namesLit 9)).cell? ⟨w.heap.size, k, none⟩ = some (.string (str (nmOf op))) := by
    rw [(Blk.new w _ _).cell, names_lit k hk1]
    unfold nmOf
    rw [show op - 1 = k by omega]
    rfl
  unfold namesLit at hc
  obtain ⟨S, hS⟩ : ∃ S, Hid (S = str (nmOf op)) := ⟨_, rfl⟩
  rw [← hS.out] at hc ⊢
  go_enter Tryd.func39, Tryd.ntmps39
  go_wp2
  go_ret
  exact ⟨rfl, (Below.refl _ _).alloc (Nat.le_refl _) _⟩
end Go.Proofs.YtbpobbadmbafaaaDoor
