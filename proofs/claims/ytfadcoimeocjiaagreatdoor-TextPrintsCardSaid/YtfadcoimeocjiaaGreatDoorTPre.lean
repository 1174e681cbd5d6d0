/-
  Print, both ways in one; bounds of what is printed.
-/
import Derived.Test.YtfadcoimeocjiaaGreatDoorTFirst
import Derived.Test.YtfadcoimeocjiaaGreatDoorRefSame
namespace Go.Proofs.YtfadcoimeocjiaaGreatDoor
set_option linter.unusedVariables false
open Go.ChangeShapes Go.WideShapes Go.ChangeAt Go.RowKit

theorem okP_fns {fs : List Fn} (h : okP fs = true) : ∀ f ∈ fs, okF f = true := (okP_iff.1 h).2.2
theorem okP_len {fs : List Fn} (h : okP fs = true) : 0 < fs.length ∧ fs.length ≤ 255 := ⟨(okP_iff.1 h).1, (okP_iff.1 h).2.1⟩
theorem printT_len {fs : List Fn} (h : okP fs = true) : (printT fs).length ≤ 484755000 := by
  have h1 := printT_le fs (okP_fns h)
  have h2 := (okP_len h).2
  omega
theorem printT_ne {fs : List Fn} (h : okP fs = true) : printT fs ≠ [] := by
  have h1 := (okP_len h).1
  cases fs with
  | nil => simp at h1
  | cons f r => rw [printT_eq, List.flatMap_cons]; unfold fnT headW funcW; simp
/-- Print, both ways in one -/
theorem print_any (B : Nat) (A : Option Addr) (n c : Nat) (rs : List Raw) (w : World) (h : RdP w B A n rs) (hB : B ≤ w.heap.size) (hE : Env w.heap.size w) :
    Calls Tryz.prog 6 #[.agg #[.slice A n c]] w fun e w' => e = .returned (.tuple #[.string (str (if okP (fns rs) then printT (fns rs) else [])), .int .i64 (if okP (fns rs) then 0 else 30)]) ∧ Below w.heap.size w w' := by
  cases hok : okP (fns rs) with
  | true => exact print_ok B A n c rs w h hB hok hE
  | false => exact print_no B A n c rs w h hB hok
/-- .. its answer under two letters -/
theorem print_S (B : Nat) (A : Option Addr) (n c : Nat) (rs : List Raw) (S : ByteArray) (pe : Int) (hS : S = str (if okP (fns rs) then printT (fns rs) else [])) (hp : pe = if okP (fns rs) then 0 else 30) (w : World) (h : RdP w B A n rs) (hB : B ≤ w.heap.size) (hE : Env w.heap.size w) :
    Calls Tryz.prog 6 #[.agg #[.slice A n c]] w fun e w' => e = .returned (.tuple #[.string S, .int .i64 pe]) ∧ Below w.heap.size w w' := by
  subst hS hp
  exact print_any B A n c rs w h hB hE
end Go.Proofs.YtfadcoimeocjiaaGreatDoor
