/-
  Texts of one seat, one behind the other: IResB, IBnd.
-/
import Derived.Test.YtlnccpojldiogaaMEf
import Derived.Test.YtlnccpojldiogaaMEg
import Derived.Test.YtlnccpojldiogaaMDd

/-
  Package irun: resume, read bound.
-/
namespace Go.Proofs.Ytlnccpojldiogaa
set_option linter.unusedVariables false
set_option linter.unusedSimpArgs false
open Go.ChangeShapes Go.WideShapes Go.ChangeAt Go.RowKit

section
variable {w0 W W' : World} {bd : Bool} {rb tg fa fo rgb n c k : Nat} {rs : List RG} {st st' : IMc} {t b t' : IFr} {bl : List IFr} {gl : List Nat} {fb fz o : Nat} {r : RG} {p x : Int} {nd : RN}
theorem resume_bound (h : IRunX w0 true rb tg fa fo n c rs st (fb :: gl) rgb W) (hf : st.frames = b :: bl) (hr : rs[t.f]? = some r) (hz : fz < W.heap.size) (c0 : W.cell? ⟨fz, 0, none⟩ = some (.pointer (some ⟨fa, fo + t.f * 8, none⟩))) (c6 : W.cell? ⟨fz, 6, none⟩ = some (.int .u64 t.number)) :
    Calls Try.prog 211 #[.pointer (some ⟨fb, 0, none⟩), .pointer (some ⟨fz, 0, none⟩)] W fun e w' => e = .returned (.tuple #[]) ∧ IRunX w0 true rb tg fa fo n c rs { st with regs := resumeR true b.before (grOf (grs rs) t.f).result t.number } (fb :: gl) rgb w' := by
  cases hrv : r.gr.result
  · exact resume_bF hrv h hf hr hz c0 c6
  · exact resume_bT hrv h hf hr hz c0 c6
end
end Go.Proofs.Ytlnccpojldiogaa

/-
  Package irun: wait and resume, read bound.
-/
namespace Go.Proofs.Ytlnccpojldiogaa
set_option linter.unusedVariables false
open Go.ChangeShapes Go.WideShapes Go.ChangeAt Go.RowKit

theorem waitOK_bound : WaitOK true := by
  intro w0 W rb tg fa fo n c rgb rs st gl fb b o t bl nd h hf hd hN hb
  have h1 := wait_bound (b := b) (o := o) h hf
  simp only [waitF, waitT, if_true]
  exact h1
theorem resumeOK_bound : ResumeOK true := by
  intro w0 W rb tg fa fo n c rgb rs st gl fb fz t b bl r h hf hd hr ha hz c0 c6
  simp only [resumeF, resumed, if_true]
  exact resume_bound h hf hr hz c0 c6
end Go.Proofs.Ytlnccpojldiogaa
