/-
  The row's own package: After: what an instruction makes of a stack's letters.
-/
import Derived.Test.YtcgoanfhabjpfaaKStr
import Derived.Test.YtcgoanfhabjpfaaKTakB
import Derived.Deep.CutBlock
import Derived.Deep.DeepCutAuto
import Derived.RegionTactic
import Derived.Deep.RegionLaw
namespace Go.Proofs.Ytcgoanfhabjpfaa
set_option linter.unusedVariables false
open Go.ChangeShapes Go.WideShapes Go.ChangeAt Go.RowKit

/-- the letters behind an instruction, or '!' -/
def aftS (fs : List Fn) (f : Fn) (i : Ins) (s : Stk) : List UInt8 := match afterK fs f i s with
  | some s' => ltr s'
  | none => [33]
theorem aftS_some {fs : List Fn} {f : Fn} {i : Ins} {s s' : Stk} (h : afterK fs f i s = some s') : aftS fs f i s = ltr s' := by unfold aftS; rw [h]
theorem aftS_none {fs : List Fn} {f : Fn} {i : Ins} {s : Stk} (h : afterK fs f i s = none) : aftS fs f i s = [33] := by unfold aftS; rw [h]
theorem k01_of_all {l : Stk} (h : ∀ k ∈ l, kindB k = true) : k01 l := fun k hk => kindB_iff.1 (h k hk)
theorem k01_take {l : Stk} (h : k01 l) (n : Nat) : k01 (l.take n) := fun k hk => h k (List.mem_of_mem_take hk)
theorem k01_drop {l : Stk} (h : k01 l) (n : Nat) : k01 (l.drop n) := fun k hk => h k (List.mem_of_mem_drop hk)
theorem k01_append {a b : Stk} (ha : k01 a) (hb : k01 b) : k01 (a ++ b) := fun k hk => by
  rcases List.mem_append.1 hk with h | h
  · exact ha k h
  · exact hb k h
theorem k01_nil : k01 [] := fun k hk => by cases hk
theorem k01_cons {x : Int} {l : Stk} (hx : x = 0 ∨ x = 1) (h : k01 l) : k01 (x :: l) := fun k hk => by
  rcases List.mem_cons.1 hk with rfl | h'
  · exact hx
  · exact h k h'
theorem k01_res (f : Fn) : k01 (resOf f) := by
  unfold resOf; split
  · exact k01_cons (.inl rfl) k01_nil
  · exact k01_nil
theorem topK_01 {s : Stk} (h : k01 s) : topK s = 0 ∨ topK s = 1 := by
  unfold topK
  cases hl : s.getLast? with
  | none => exact .inl rfl
  | some x => exact h x (List.mem_of_getLast? hl)
theorem locK_01 {f : Fn} (h : okF f = true) (i : Ins) : locK f i = 0 ∨ locK f i = 1 := by
  have hk := (okF_iff.1 h).2.2.2.2.2.2.1
  unfold locK
  rw [List.getD_eq_getElem?_getD]
  cases hl : f.locals[i.arg.toNat]? with
  | none => exact .inl rfl
  | some x => exact kindB_iff.1 (hk x (List.mem_of_getElem? hl))
theorem takesK_01 {fs : List Fn} {f : Fn} (hp : okP fs = true) (hf : okF f = true) (i : Ins) {t : Int} (ht : t = 0 ∨ t = 1) : k01 (takesK fs f i t) := by
  unfold takesK
  split
  · exact k01_cons (locK_01 hf i) k01_nil
  split
  · exact k01_cons (.inr rfl) k01_nil
  split
  · exact k01_cons (.inr rfl) (k01_cons (.inl rfl) k01_nil)
  split
  · exact k01_cons (.inl rfl) k01_nil
  split
  · unfold parK; split
    · rename_i g hg
      exact k01_take (k01_of_all (okF_iff.1 ((okP_iff.1 hp).2.2 g (List.mem_of_getElem? hg))).2.2.2.2.2.2.1) _
    · exact k01_nil
  split
  · exact k01_res f
  split
  · exact k01_cons ht k01_nil
  split
  · exact k01_cons (.inl rfl) (k01_cons (.inl rfl) k01_nil)
  · exact k01_nil
theorem leavesK_01 {fs : List Fn} {f : Fn} (hp : okP fs = true) (hf : okF f = true) (i : Ins) {t : Int} (ht : t = 0 ∨ t = 1) : k01 (leavesK fs f i t) := by
  unfold leavesK
  split
  · exact k01_cons (.inl rfl) k01_nil
  split
  · exact k01_cons (locK_01 hf i) k01_nil
  split
  · exact k01_cons (.inr rfl) k01_nil
  split
  · unfold resK; split
    · exact k01_res _
    · exact k01_nil
  split
  · exact k01_cons (.inl rfl) (k01_cons (.inl rfl) k01_nil)
  split
  · exact k01_cons ht (k01_cons ht k01_nil)
  split
  · exact k01_cons (.inl rfl) k01_nil
  · exact k01_nil
theorem afterK_01 {fs : List Fn} {f : Fn} (hp : okP fs = true) (hf : okF f = true) {i : Ins} {s s' : Stk} (hs : k01 s) (h : afterK fs f i s = some s') : k01 s' := by
  unfold afterK at h
  split at h
  · injection h with h
    rw [← h]
    exact k01_append (k01_take hs _) (leavesK_01 hp hf i (topK_01 hs))
  · cases h
theorem ltr_drop (s : Stk) (k : Nat) : (ltr s).drop k = ltr (s.drop k) := by simp [ltr, List.map_drop]
theorem ltr_take (s : Stk) (k : Nat) : (ltr s).take k = ltr (s.take k) := by simp [ltr, List.map_take]
end Go.Proofs.Ytcgoanfhabjpfaa
