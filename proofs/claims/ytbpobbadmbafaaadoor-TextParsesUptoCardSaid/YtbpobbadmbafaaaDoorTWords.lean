/-
  The words of a line: isBlank, the library's decoder of runes, strings.FieldsFuncSeq, wordsOf.
-/
import Derived.Test.YtbpobbadmbafaaaDoorTEnv
import Derived.Test.YtbpobbadmbafaaaDoorTScan
import Derived.Test.YtbpobbadmbafaaaDoorTIter
import Derived.Test.YtbpobbadmbafaaaDoorShelfQ
namespace Go.Proofs.YtbpobbadmbafaaaDoor
set_option linter.unusedVariables false
open Go.ChangeShapes Go.WideShapes Go.ChangeAt Go.RowKit

set_option maxHeartbeats 1000000 in
theorem blank_any (u : Nat) (w : World) : Calls Tryd.prog 20 #[.int .i32 u] w fun e w' => e = .returned (.bool (decide (u = 32))) ∧ w = w' := by
  by_cases h : u = 32
  · subst h
    go_enter Tryd.func20, Tryd.ntmps20
    go_wp2
    go_ret
    exact ⟨rfl, rfl⟩
  · have h1 : ((u : Int) == 32) = false := by simp; omega
    have h2 : decide (u = 32) = false := by simpa using h
    rw [h2]
    clear h h2
    go_enter Tryd.func20, Tryd.ntmps20
    go_wp2
    go_ret
    exact ⟨rfl, rfl⟩

/-- what the first rune of a text is, as far as words want it -/
def RuneR (l : List UInt8) (x : UInt8) (w : World) (e : Ending) (w' : World) : Prop :=
  ∃ u k : Nat, e = .returned (.tuple #[.int .i32 u, .int .i64 k]) ∧ Below w.heap.size w w' ∧ 1 ≤ k ∧ k ≤ l.length ∧ u ≤ 1114111 ∧ (x = 32 → u = 32 ∧ k = 1) ∧ (x ≠ 32 → u ≠ 32 ∧ (32 : UInt8) ∉ l.take k)

set_option maxHeartbeats 2000000 in
theorem rune_any (l : List UInt8) (x : UInt8) (r : List UInt8) (hl : l = x :: r) (w : World) (hV : Vars w) :
    Calls Tryd.prog 27 #[.string (str l)] w (RuneR l x w) := by
  obtain ⟨u, k, hd, h1, h2, h3, h4, h5⟩ := decode_facts l x r hl
  have HS := Lib.hid (Tryd.utf8_decodeRuneInStringSlow (str l) w hV.utf)
  have HF : Hid (∀ w', Below w.heap.size w w' → RuneR l x w (.returned (.tuple #[.int .i32 u, .int .i64 k])) w') := Lib.hid fun w' hb => ⟨u, k, rfl, hb, h1, h2, h3, h4, h5⟩
  have hne : (str l).toList.isEmpty = false := by rw [str_toList, hl]; rfl
  have hsz : 0 < (str l).size := by rw [str_size, hl]; simp
  have hx0 : (str l)[0]'hsz = x := by
    have h := str_get l 0 (by rw [hl]; simp)
    rw [Utf8W.get!_of_lt _ _ hsz] at h
    rw [h]; subst hl; rfl
  have hk : x.toNat < 128 → Lib.decodeGo (str l) = (x.toNat, 1) := fun ha => by
    have hs : (str l).size ≠ 0 := by omega
    have hg : (str l).get! 0 = x := by rw [Utf8W.get!_of_lt _ _ hsz]; exact hx0
    simp only [Lib.decodeGo, hs, if_false]
    rw [Lib.decode_at, hg]
    simp [Lib.decodeN, ha]
  rw [hd] at HS hk
  obtain ⟨X, HX⟩ : ∃ X, Hid (X = str l) := ⟨_, rfl⟩
  have hg0 := HF.out w (Below.refl _ _)
  clear h1 h2 h3 h4 h5 hd hl
  rw [← HX.out] at HS ⊢
  revert hx0 hsz
  rw [← HX.out] at hne ⊢
  intro hsz hx0
  rw [← hx0] at hk
  clear hx0
  have hxb : (X[0].toNat : Int) ≤ 255 := by have := UInt8.toNat_lt X[0]; omega
  by_cases ha : X[0].toNat < 128
  · have haz : decide ((X[0].toNat : Int) < 128) = true := by simp; omega
    obtain ⟨rfl, rfl⟩ : u = X[0].toNat ∧ k = 1 := by simpa using hk ha
    have HG := Lib.hid hg0
    clear hk hg0 HF HS ha
    go_enter Tryd.func27, Tryd.ntmps27
    go_wp2
    go_ret2
    exact HG.out
  · have haz : decide ((X[0].toNat : Int) < 128) = false := by simp; omega
    clear hk hg0 ha
    go_enter Tryd.func27, Tryd.ntmps27
    go_wp2_with (go_at_call 40; refine HS.out.mono ?_; rintro e w' ⟨rfl, hb⟩)
    go_ret2
    exact HF.out _ hb
end Go.Proofs.YtbpobbadmbafaaaDoor
