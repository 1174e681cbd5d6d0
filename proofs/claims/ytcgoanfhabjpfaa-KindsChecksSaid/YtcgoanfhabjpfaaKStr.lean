/-
  A stack of kinds as the row's own package writes it: one letter for each kind. letter, letters.
-/
import Derived.Test.YtcgoanfhabjpfaaKMath
import Derived.Test.YtcgoanfhabjpfaaKMem
import Derived.StillTailTactics
import Derived.Laws.IdiomStrings
import Derived.Laws.Concat
namespace Go.Proofs.Ytcgoanfhabjpfaa
set_option linter.unusedVariables false
open Go.ChangeShapes Go.WideShapes Go.ChangeAt Go.RowKit

/-- a string of these bytes -/
def str (l : List UInt8) : ByteArray := ⟨l.toArray⟩
theorem str_append (a b : List UInt8) : str a ++ str b = str (a ++ b) := by
  apply ByteArray.ext
  simp [str, ByteArray.data_append]
theorem str_size (l : List UInt8) : (str l).size = l.length := by simp [str, ByteArray.size]
theorem str_list (l : List UInt8) : (str l).data.toList = l := by simp [str]
theorem str_toList (l : List UInt8) : (str l).toList = l := by rw [ByteArray.toList_eq]; simp [str]
theorem str_extract (l : List UInt8) (a b : Nat) : (str l).extract a b = str ((l.drop a).take (b - a)) := by
  apply ByteArray.ext
  simp [str, ByteArray.data_extract]
theorem str_inj {a b : List UInt8} (h : str a = str b) : a = b := by rw [← str_list a, ← str_list b, h]
/-- one kind's letter -/
def lt1 (k : Int) : UInt8 := if k = 1 then 112 else 110
/-- a stack's letters -/
def ltr (s : Stk) : List UInt8 := s.map lt1
def k01 (s : Stk) : Prop := ∀ k ∈ s, k = 0 ∨ k = 1
theorem length_ltr (s : Stk) : (ltr s).length = s.length := by simp [ltr]
theorem ltr_append (a b : Stk) : ltr (a ++ b) = ltr a ++ ltr b := by simp [ltr]
theorem lt1_inj {a b : Int} (ha : a = 0 ∨ a = 1) (hb : b = 0 ∨ b = 1) (h : lt1 a = lt1 b) : a = b := by
  rcases ha with rfl | rfl <;> rcases hb with rfl | rfl
  · rfl
  · exact absurd h (by decide)
  · exact absurd h (by decide)
  · rfl
theorem ltr_inj : ∀ {a b : Stk}, k01 a → k01 b → ltr a = ltr b → a = b
  | [], [], _, _, _ => rfl
  | [], _ :: _, _, _, h => by simp [ltr] at h
  | _ :: _, [], _, _, h => by simp [ltr] at h
  | x :: a, y :: b, ha, hb, h => by
    simp only [ltr, List.map_cons, List.cons.injEq] at h
    rw [lt1_inj (ha x (by simp)) (hb y (by simp)) h.1, ltr_inj (fun k hk => ha k (by simp [hk])) (fun k hk => hb k (by simp [hk])) h.2]
theorem lt1_ne {k : Int} {x : UInt8} (h : x ≠ 112) (h' : x ≠ 110) : lt1 k ≠ x := by
  unfold lt1; split
  · exact h.symm
  · exact h'.symm
theorem ltr_ne {s : Stk} {x : UInt8} (h : x ≠ 112) (h' : x ≠ 110) : ltr s ≠ [x] := by
  intro hh
  cases s with
  | nil => simp [ltr] at hh
  | cons k s =>
    simp only [ltr, List.map_cons, List.cons.injEq] at hh
    exact lt1_ne h h' hh.1

set_option maxRecDepth 100000 in
theorem letter_any (x : Int) (w : World) :
    Calls Try.prog 37 #[.int .u8 x] w fun e w' => e = .returned (.string (str [lt1 x])) ∧ w = w' := by
  by_cases hx : x = 1
  · subst hx
    go_enter Try.func37, Try.ntmps37
    go_wp2
    go_ret
    exact ⟨rfl, rfl⟩
  · have g : (x == 1) = false := by simp; omega
    rw [show lt1 x = 110 by unfold lt1; rw [if_neg hx]]
    go_enter Try.func37, Try.ntmps37
    go_wp2
    go_ret
    exact ⟨rfl, rfl⟩

set_option maxRecDepth 100000 in
set_option maxHeartbeats 1600000 in
theorem letters_any (B : Nat) (A : Option Addr) (n c : Nat) (l : Stk) (w : World) (h : Reads w B 1 A n (u8c l)) (hn : n ≤ 100000) :
    Calls Try.prog 23 #[.slice A n c] w fun e w' => e = .returned (.string (str (ltr l))) ∧ w = w' := by
  have hl : l.length = n := by have := h.1; rw [length_u8c] at this; omega
  have HR := Lib.hid h
  have HL := Lib.hid hl
  clear h hl
  go_enter Try.func23, Try.ntmps23
  go_wp2
  go_loop [3, 8] (fun s i => ∃ k : Nat, k ≤ n ∧ i = .int .i64 k ∧ s = .string (str (ltr (l.take k)))) (fun _ i => n - (intOf i).toNat)
  case atStart => exact ⟨0, Nat.zero_le _, rfl, rfl⟩
  case round =>
    obtain ⟨k, hk, rfl, rfl⟩ := hrel
    have hsz : (str (ltr (l.take k))).size ≤ 100000 := by rw [str_size, length_ltr, List.length_take]; omega
    obtain ⟨S, HS⟩ : ∃ S, Hid (S = str (ltr (l.take k))) := ⟨_, rfl⟩
    rw [← HS.out] at hsz ⊢
    by_cases hkn : k < n
    · obtain ⟨b, off, x, rfl, hb, HX, x0⟩ := HR.out.byte (k := k) hkn
      obtain ⟨T, HT⟩ : ∃ T, Hid (T = str [lt1 x]) := ⟨_, rfl⟩
      have hts : T.size = 1 := by rw [HT.out, str_size]; rfl
      have HLT := Lib.hid (letter_any x w)
      rw [← HT.out] at HLT
      have HE : Hid (S ++ T = str (ltr (l.take (k + 1)))) := Lib.hid (by
        rw [HS.out, HT.out, str_append, List.take_add_one, HX.out, ltr_append]; rfl)
      go_wp2_with (go_at_call 37; refine HLT.out.mono ?_; rintro e w2 ⟨rfl, rfl⟩)
      go_round
      case rel => exact ⟨k + 1, hkn, by simp, by rw [HE.out]⟩
      case measure => simp [intOf]; omega
    · have hkn' : k = n := by omega
      have HE : Hid (S = str (ltr l)) := Lib.hid (by rw [HS.out, hkn', List.take_of_length_le (by have := HL.out; omega)])
      subst hkn'
      go_wp2
      go_ret
      exact ⟨by rw [HE.out]; rfl, rfl⟩
end Go.Proofs.Ytcgoanfhabjpfaa
