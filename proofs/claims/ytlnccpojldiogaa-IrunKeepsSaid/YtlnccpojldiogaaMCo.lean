/-
  Texts of one seat, one behind the other: IExeN, IExeC.
-/
import Derived.Test.YtlnccpojldiogaaMBc
import Derived.Test.YtlnccpojldiogaaMBf

/-
  Package irun: execute: what a function of its own does: bin, load, store, ret, catch.
-/
namespace Go.Proofs.Ytlnccpojldiogaa
set_option linter.unusedVariables false
set_option linter.unusedSimpArgs false
open Go.ChangeShapes Go.WideShapes Go.ChangeAt Go.RowKit

section
variable {w0 W W' : World} {bd : Bool} {rb tg fa fo rgb n c k : Nat} {rs : List RG} {st st' : IMc} {t t' : IFr} {bl : List IFr} {gl : List Nat} {fb b o : Nat} {r : RG} {p x : Int} {nd : RN}
set_option maxRecDepth 100000 in
set_option maxHeartbeats 3200000 in
theorem exe_bin {Q : World → Prop} (h : IRunX w0 bd rb tg fa fo n c rs st (fb :: gl) rgb W) (hf : st.frames = t :: bl) (hr : rs[t.f]? = some r) (hN : NdAt w0 b o nd) (hb : b < w0.heap.size) (hop : nd.nd.op = 3)
    (HRK : ∀ W', IRunX w0 bd rb tg fa fo n c rs st (fb :: gl) rgb W' → Calls Try.prog 77 #[.pointer (some ⟨rb, 0, none⟩), ifrV bd fb, .pointer (some ⟨b, o, none⟩)] W' fun e w' => e = .returned (.tuple #[]) ∧ Q w') :
    Calls Try.prog 46 #[.pointer (some ⟨rb, 0, none⟩), ifrV bd fb, .pointer (some ⟨b, o, none⟩)] W fun e w' => e = .returned (.tuple #[]) ∧ Q w' := by
  have hNW := hN.kept hb h.low
  have c0 := hNW.c0
  rw [hop] at c0
  have HK := Lib.hid HRK
  have HX := Lib.hid h
  clear h hN hNW HRK
  unfold ifrV at HK ⊢
  have hbm := body_m bd fb
  cases bd
  all_goals
    simp only [ptrI, ifrP, Bool.false_eq_true, if_false, if_true] at hbm HK ⊢
    go_enter Try.func46, Try.ntmps46
    go_wp2_with (first
      | (go_at_call 203; refine (body_any fb _).mono ?_; rintro e w3 ⟨rfl, rfl⟩)
      | (go_at_call 77; refine (HK.out _ (HX.out.on (Below.refl _ _).drew)).mono ?_; rintro e w4 ⟨rfl, h4⟩; have H4 := Lib.hid h4; clear h4)
      | (go_at_call 77; refine (HK.out _ HX.out).mono ?_; rintro e w4 ⟨rfl, h4⟩; have H4 := Lib.hid h4; clear h4))
    all_goals
      go_end0
      exact ⟨rfl, H4.out⟩
set_option maxRecDepth 100000 in
set_option maxHeartbeats 3200000 in
theorem exe_load {Q : World → Prop} (h : IRunX w0 bd rb tg fa fo n c rs st (fb :: gl) rgb W) (hf : st.frames = t :: bl) (hr : rs[t.f]? = some r) (hN : NdAt w0 b o nd) (hb : b < w0.heap.size) (hop : nd.nd.op = 7)
    (HRK : ∀ W', IRunX w0 bd rb tg fa fo n c rs st (fb :: gl) rgb W' → Calls Try.prog 80 #[.pointer (some ⟨rb, 0, none⟩), ifrV bd fb, .pointer (some ⟨b, o, none⟩)] W' fun e w' => e = .returned (.tuple #[]) ∧ Q w') :
    Calls Try.prog 46 #[.pointer (some ⟨rb, 0, none⟩), ifrV bd fb, .pointer (some ⟨b, o, none⟩)] W fun e w' => e = .returned (.tuple #[]) ∧ Q w' := by
  have hNW := hN.kept hb h.low
  have c0 := hNW.c0
  rw [hop] at c0
  have HK := Lib.hid HRK
  have HX := Lib.hid h
  clear h hN hNW HRK
  unfold ifrV at HK ⊢
  have hbm := body_m bd fb
  cases bd
  all_goals
    simp only [ptrI, ifrP, Bool.false_eq_true, if_false, if_true] at hbm HK ⊢
    go_enter Try.func46, Try.ntmps46
    go_wp2_with (first
      | (go_at_call 203; refine (body_any fb _).mono ?_; rintro e w3 ⟨rfl, rfl⟩)
      | (go_at_call 80; refine (HK.out _ (HX.out.on (Below.refl _ _).drew)).mono ?_; rintro e w4 ⟨rfl, h4⟩; have H4 := Lib.hid h4; clear h4)
      | (go_at_call 80; refine (HK.out _ HX.out).mono ?_; rintro e w4 ⟨rfl, h4⟩; have H4 := Lib.hid h4; clear h4))
    all_goals
      go_end0
      exact ⟨rfl, H4.out⟩
set_option maxRecDepth 100000 in
set_option maxHeartbeats 3200000 in
theorem exe_store {Q : World → Prop} (h : IRunX w0 bd rb tg fa fo n c rs st (fb :: gl) rgb W) (hf : st.frames = t :: bl) (hr : rs[t.f]? = some r) (hN : NdAt w0 b o nd) (hb : b < w0.heap.size) (hop : nd.nd.op = 8)
    (HRK : ∀ W', IRunX w0 bd rb tg fa fo n c rs st (fb :: gl) rgb W' → Calls Try.prog 81 #[.pointer (some ⟨rb, 0, none⟩), ifrV bd fb, .pointer (some ⟨b, o, none⟩)] W' fun e w' => e = .returned (.tuple #[]) ∧ Q w') :
    Calls Try.prog 46 #[.pointer (some ⟨rb, 0, none⟩), ifrV bd fb, .pointer (some ⟨b, o, none⟩)] W fun e w' => e = .returned (.tuple #[]) ∧ Q w' := by
  have hNW := hN.kept hb h.low
  have c0 := hNW.c0
  rw [hop] at c0
  have HK := Lib.hid HRK
  have HX := Lib.hid h
  clear h hN hNW HRK
  unfold ifrV at HK ⊢
  have hbm := body_m bd fb
  cases bd
  all_goals
    simp only [ptrI, ifrP, Bool.false_eq_true, if_false, if_true] at hbm HK ⊢
    go_enter Try.func46, Try.ntmps46
    go_wp2_with (first
      | (go_at_call 203; refine (body_any fb _).mono ?_; rintro e w3 ⟨rfl, rfl⟩)
      | (go_at_call 81; refine (HK.out _ (HX.out.on (Below.refl _ _).drew)).mono ?_; rintro e w4 ⟨rfl, h4⟩; have H4 := Lib.hid h4; clear h4)
      | (go_at_call 81; refine (HK.out _ HX.out).mono ?_; rintro e w4 ⟨rfl, h4⟩; have H4 := Lib.hid h4; clear h4))
    all_goals
      go_end0
      exact ⟨rfl, H4.out⟩
set_option maxRecDepth 100000 in
set_option maxHeartbeats 3200000 in
theorem exe_ret {Q : World → Prop} (h : IRunX w0 bd rb tg fa fo n c rs st (fb :: gl) rgb W) (hf : st.frames = t :: bl) (hr : rs[t.f]? = some r) (hN : NdAt w0 b o nd) (hb : b < w0.heap.size) (hop : nd.nd.op = 12)
    (HRK : ∀ W', IRunX w0 bd rb tg fa fo n c rs st (fb :: gl) rgb W' → Calls Try.prog 83 #[.pointer (some ⟨rb, 0, none⟩), ifrV bd fb, .pointer (some ⟨b, o, none⟩)] W' fun e w' => e = .returned (.tuple #[]) ∧ Q w') :
    Calls Try.prog 46 #[.pointer (some ⟨rb, 0, none⟩), ifrV bd fb, .pointer (some ⟨b, o, none⟩)] W fun e w' => e = .returned (.tuple #[]) ∧ Q w' := by
  have hNW := hN.kept hb h.low
  have c0 := hNW.c0
  rw [hop] at c0
  have HK := Lib.hid HRK
  have HX := Lib.hid h
  clear h hN hNW HRK
  unfold ifrV at HK ⊢
  have hbm := body_m bd fb
  cases bd
  all_goals
    simp only [ptrI, ifrP, Bool.false_eq_true, if_false, if_true] at hbm HK ⊢
    go_enter Try.func46, Try.ntmps46
    go_wp2_with (first
      | (go_at_call 203; refine (body_any fb _).mono ?_; rintro e w3 ⟨rfl, rfl⟩)
      | (go_at_call 83; refine (HK.out _ (HX.out.on (Below.refl _ _).drew)).mono ?_; rintro e w4 ⟨rfl, h4⟩; have H4 := Lib.hid h4; clear h4)
      | (go_at_call 83; refine (HK.out _ HX.out).mono ?_; rintro e w4 ⟨rfl, h4⟩; have H4 := Lib.hid h4; clear h4))
    all_goals
      go_end0
      exact ⟨rfl, H4.out⟩
set_option maxRecDepth 100000 in
set_option maxHeartbeats 3200000 in
theorem exe_catch {Q : World → Prop} (h : IRunX w0 bd rb tg fa fo n c rs st (fb :: gl) rgb W) (hf : st.frames = t :: bl) (hr : rs[t.f]? = some r) (hN : NdAt w0 b o nd) (hb : b < w0.heap.size) (hop : nd.nd.op = 15)
    (HRK : ∀ W', IRunX w0 bd rb tg fa fo n c rs st (fb :: gl) rgb W' → Calls Try.prog 86 #[.pointer (some ⟨rb, 0, none⟩), ifrV bd fb, .pointer (some ⟨b, o, none⟩)] W' fun e w' => e = .returned (.tuple #[]) ∧ Q w') :
    Calls Try.prog 46 #[.pointer (some ⟨rb, 0, none⟩), ifrV bd fb, .pointer (some ⟨b, o, none⟩)] W fun e w' => e = .returned (.tuple #[]) ∧ Q w' := by
  have hNW := hN.kept hb h.low
  have c0 := hNW.c0
  rw [hop] at c0
  have HK := Lib.hid HRK
  have HX := Lib.hid h
  clear h hN hNW HRK
  unfold ifrV at HK ⊢
  have hbm := body_m bd fb
  cases bd
  all_goals
    simp only [ptrI, ifrP, Bool.false_eq_true, if_false, if_true] at hbm HK ⊢
    go_enter Try.func46, Try.ntmps46
    go_wp2_with (first
      | (go_at_call 203; refine (body_any fb _).mono ?_; rintro e w3 ⟨rfl, rfl⟩)
      | (go_at_call 86; refine (HK.out _ (HX.out.on (Below.refl _ _).drew)).mono ?_; rintro e w4 ⟨rfl, h4⟩; have H4 := Lib.hid h4; clear h4)
      | (go_at_call 86; refine (HK.out _ HX.out).mono ?_; rintro e w4 ⟨rfl, h4⟩; have H4 := Lib.hid h4; clear h4))
    all_goals
      go_end0
      exact ⟨rfl, H4.out⟩
end
end Go.Proofs.Ytlnccpojldiogaa

/-
  Package irun: execute: a call, a deferred call.
-/
namespace Go.Proofs.Ytlnccpojldiogaa
set_option linter.unusedVariables false
set_option linter.unusedSimpArgs false
open Go.ChangeShapes Go.WideShapes Go.ChangeAt Go.RowKit

section
variable {w0 W W' : World} {ow ow' : Nat → Nat} {ex : Nat → Prop} {bd : Bool} {base rb tg fa fo rgb n c k : Nat} {rs : List RG} {st st' st1 st2 st3 : IMc} {g g' : IRG} {t t' u : IFr} {bl : List IFr} {gl : List Nat} {fb b o fz : Nat} {r : RG} {nd : RN} {p x : Int} {d : IDf} {ds : List IDf} {ps : List (Int × Bool)}
set_option maxRecDepth 100000 in
set_option maxHeartbeats 3200000 in
theorem exe_call (h : IRunX w0 bd rb tg fa fo n c rs st (fb :: gl) rgb W) (hf : st.frames = t :: bl) (hr : rs[t.f]? = some r) (hN : NdAt w0 b o nd) (hb : b < w0.heap.size) (hop : nd.nd.op = 11)
    (Q1 Q : World → Prop) (HWT : ∀ W', IRunX w0 bd rb tg fa fo n c rs st (fb :: gl) rgb W' → Calls Try.prog (waitF bd) #[.pointer (some ⟨fb, 0, none⟩), .pointer (some ⟨b, o, none⟩)] W' fun e w' => e = .returned (.tuple #[]) ∧ Q1 w')
    (HIV : ∀ W', Q1 W' → Calls Try.prog 82 #[ifrV bd fb, .pointer (some ⟨b, o, none⟩)] W' fun e w' => ∃ v, e = .returned v ∧ Hid (Calls Try.prog 25 #[.pointer (some ⟨rb, 0, none⟩), .int .i64 1, v] w' fun e w2 => e = .returned (.tuple #[]) ∧ Q w2)) :
    Calls Try.prog 46 #[.pointer (some ⟨rb, 0, none⟩), ifrV bd fb, .pointer (some ⟨b, o, none⟩)] W fun e w' => e = .returned (.tuple #[]) ∧ Q w' := by
  have hNW := hN.kept hb h.low
  have c0 := hNW.c0
  rw [hop] at c0
  have HW := Lib.hid HWT
  have HI := Lib.hid HIV
  have HX := Lib.hid h
  have hwm := wait_m bd fb
  have hnw := nwait_m bd fb
  clear h hN hNW HWT HIV hf hr
  unfold ifrV at HI ⊢
  have hbm := body_m bd fb
  cases bd
  all_goals
    simp only [ptrI, ifrP, waitF, Bool.false_eq_true, if_false, if_true] at hbm hwm hnw HW HI ⊢
    go_enter Try.func46, Try.ntmps46
    go_wp2_with (first
      | (go_at_call 203; refine (body_any fb _).mono ?_; rintro e w3 ⟨rfl, rfl⟩)
      | (go_at_call 207; refine (HW.out _ HX.out).mono ?_; rintro e w4 ⟨rfl, h4⟩; have H4 := Lib.hid h4; clear h4)
      | (go_at_call 212; refine (HW.out _ HX.out).mono ?_; rintro e w4 ⟨rfl, h4⟩; have H4 := Lib.hid h4; clear h4)
      | (go_at_call 82; refine (HI.out _ H4.out).mono ?_; rintro e w5 ⟨v, rfl, H5⟩)
      | (go_at_call 25; refine H5.out.mono ?_; rintro e w6 ⟨rfl, h6⟩; have H6 := Lib.hid h6; clear h6))
    all_goals
      go_end0
      exact ⟨rfl, H6.out⟩
set_option maxRecDepth 100000 in
set_option maxHeartbeats 3200000 in
theorem exe_defer (h : IRunX w0 bd rb tg fa fo n c rs st (fb :: gl) rgb W) (hf : st.frames = t :: bl) (hr : rs[t.f]? = some r) (hN : NdAt w0 b o nd) (hb : b < w0.heap.size) (hop : nd.nd.op = 13)
    (Q : World → Prop) (HIV : ∀ W', IRunX w0 bd rb tg fa fo n c rs st (fb :: gl) rgb W' → Calls Try.prog 82 #[ifrV bd fb, .pointer (some ⟨b, o, none⟩)] W' fun e w' => ∃ v, e = .returned v ∧ Hid (Calls Try.prog 84 #[.pointer (some ⟨rb, 0, none⟩), .pointer (some ⟨fb, 0, none⟩), v] w' fun e w2 => e = .returned (.tuple #[]) ∧ Q w2)) :
    Calls Try.prog 46 #[.pointer (some ⟨rb, 0, none⟩), ifrV bd fb, .pointer (some ⟨b, o, none⟩)] W fun e w' => e = .returned (.tuple #[]) ∧ Q w' := by
  have hNW := hN.kept hb h.low
  have c0 := hNW.c0
  rw [hop] at c0
  have HI := Lib.hid HIV
  have HX := Lib.hid h
  clear h hN hNW HIV hf hr
  unfold ifrV at HI ⊢
  have hbm := body_m bd fb
  cases bd
  all_goals
    simp only [ptrI, ifrP, waitF, Bool.false_eq_true, if_false, if_true] at hbm HI ⊢
    go_enter Try.func46, Try.ntmps46
    go_wp2_with (first
      | (go_at_call 203; refine (body_any fb _).mono ?_; rintro e w3 ⟨rfl, rfl⟩)
      | (go_at_call 82; refine (HI.out _ HX.out).mono ?_; rintro e w5 ⟨v, rfl, H5⟩)
      | (go_at_call 84; refine H5.out.mono ?_; rintro e w6 ⟨rfl, h6⟩; have H6 := Lib.hid h6; clear h6))
    all_goals
      go_end0
      exact ⟨rfl, H6.out⟩
end
end Go.Proofs.Ytlnccpojldiogaa
