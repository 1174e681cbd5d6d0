/-
  Texts of one seat, one behind the other: KTakB, KSl, KBeh, KArr, KGo, KRef, KRefB, KRefC.
-/
import Derived.RegionTactic
import Derived.Deep.RegionLaw
import Derived.Lib.AppendZerosOnto
import Derived.Lib.AppendZeros
import Derived.Lib.SliceRun
import Derived.Deep.DeepCutAuto
import Derived.Test.YtdoabcmfblmklaaMA5
import Derived.Test.YtdoabcmfblmklaaMA2
import Derived.Test.YtdoabcmfblmklaaMA1

/-
  Package kinds: takes, leaves.
-/
namespace Go.Proofs.Ytdoabcmfblmklaa
set_option linter.unusedVariables false
open Go.ChangeShapes Go.WideShapes Go.ChangeAt Go.RowKit

theorem insRef_loc {fs : List Fn} {f : Fn} {i : Ins} (h : insRef fs f i = true) (ho : i.op = 2 ∨ i.op = 3) : i.arg < f.locals.length := by
  unfold insRef at h; rw [if_pos ho] at h; simpa using h
theorem insRef_fn {fs : List Fn} {f : Fn} {i : Ins} (h : insRef fs f i = true) (ho : i.op = 23 ∨ i.op = 25) : i.arg < fs.length := by
  unfold insRef at h; rw [if_neg (by omega), if_neg (by omega), if_neg (by omega), if_pos ho] at h; simpa using h
theorem okF_par {f : Fn} (h : okF f = true) : 0 ≤ f.params ∧ f.params ≤ f.locals.length ∧ f.locals.length ≤ 255 := by
  obtain ⟨h1, _, h3, h4, _⟩ := okF_iff.1 h
  exact ⟨h3, h4, h1⟩
theorem pre_reads {w : World} {B n k : Nat} {A : Option Addr} {xs : List Int} (h : Reads w B 1 A n (u8c xs)) (hk : k ≤ n) : Reads w B 1 A k (u8c (xs.take k)) := by
  refine ⟨by have := h.1; rw [length_u8c] at this ⊢; rw [List.length_take]; omega, fun hp => ?_⟩
  obtain ⟨ad, hA, hb, hc⟩ := h.2 (by omega)
  refine ⟨ad, hA, hb, fun j u hj => hc j u ?_⟩
  unfold u8c at hj ⊢
  rw [List.map_take, List.getElem?_take] at hj
  split at hj
  · exact hj
  · cases hj

set_option maxRecDepth 100000 in
set_option maxHeartbeats 3200000 in
theorem takes_any (B g n c : Nat) (A : Option Addr) (rs : List Raw) (r : Raw) (rv sv wv : Value) (i : Ins) (top : Int) (w : World) (h : Wk w B g A n c rs r rv sv wv) (hin : insRef (fns rs) r.fn i = true) (h0 : 0 ≤ i.arg) :
    Calls Try.prog 84 #[.pointer (some ⟨g, 0, none⟩), .agg #[.int .u8 i.op, .int .i64 i.arg, .int .u64 i.imm], .int .u8 top] w (RdK w (takesK (fns rs) r.fn i top)) := by
  have hg := h.blk.lt
  obtain ⟨d0, d1, d2, d3, d4, d5, d6, d7, d8⟩ := h.cells
  have HB : ∀ o : Obj, Hid (Below w.heap.size w (w.alloc o)) := fun o => (Below.refl _ _).alloc (Nat.le_refl _) o
  have H := Lib.hid h
  have HIN := Lib.hid hin
  have hle := h.le
  clear h hin
  obtain ⟨op, arg, imm⟩ := i
  simp only at h0 ⊢
  obtain ⟨a, rfl⟩ : ∃ a : Nat, arg = (a : Int) := ⟨arg.toNat, by omega⟩

  by_cases c3 : op = 3
  · subst c3
    have hlt := insRef_loc HIN.out (.inr rfl)
    simp only at hlt
    obtain ⟨b, off, x, hA, hb, HX, x0⟩ := H.out.fn.locals.byte (k := a) (by omega)
    rw [show takesK (fns rs) r.fn ⟨3, (a : Int), imm⟩ top = [x] by simp [takesK, locK, List.getD_eq_getElem?_getD, HX.out]]
    rw [hA] at d2
    obtain ⟨nl, hnl⟩ : ∃ nl, nl = r.fn.locals.length := ⟨_, rfl⟩
    rw [← hnl] at d2 hlt
    have hlt' : a < nl := by omega
    have hbw : b < w.heap.size := by omega
    clear hnl hlt d0 d1 d3 d4 d5 d6 d7 d8 HX
    go_enter Try.func84, Try.ntmps84
    go_wp2
    go_region
    all_goals
      go_wp2
      go_ret
      have hn := rdK_at [x] 1 rfl (by omega) (HB (.cells #[.int .u8 3, .int .i64 (a : Int), .int .u64 imm] 43)).out.drew
      rw [show ((w.alloc (.cells #[.int .u8 3, .int .i64 (a : Int), .int .u64 imm] 43)).drew).heap.size = w.heap.size + 1 by simp] at hn
      exact hn
  by_cases c5 : op = 5
  · subst c5
    all_goals
      rw [show takesK (fns rs) r.fn ⟨_, (a : Int), imm⟩ top = [1] by simp [takesK]]
      clear d0 d1 d2 d3 d4 d5 d6 d7 d8
      go_enter Try.func84, Try.ntmps84
      go_wp2
      go_ret
      first
        | (have hn := rdK_at [1] 1 rfl (by omega) (HB (.cells #[.int .u8 5, .int .i64 (a : Int), .int .u64 imm] 43)).out; rw [World.size_alloc] at hn; exact hn)
  by_cases c6 : op = 6
  · subst c6
    all_goals
      rw [show takesK (fns rs) r.fn ⟨_, (a : Int), imm⟩ top = [1, 0] by simp [takesK]]
      clear d0 d1 d2 d3 d4 d5 d6 d7 d8
      go_enter Try.func84, Try.ntmps84
      go_wp2
      go_ret
      first
        | (have hn := rdK_at [1, 0] 2 rfl (by omega) (HB (.cells #[.int .u8 6, .int .i64 (a : Int), .int .u64 imm] 43)).out; rw [World.size_alloc] at hn; exact hn)
  by_cases c22 : op = 22 ∨ op = 26 ∨ op = 29 ∨ op = 30
  · rcases c22 with rfl | rfl | rfl | rfl
    all_goals
      rw [show takesK (fns rs) r.fn ⟨_, (a : Int), imm⟩ top = [0] by simp [takesK]]
      clear d0 d1 d2 d3 d4 d5 d6 d7 d8
      go_enter Try.func84, Try.ntmps84
      go_wp2
      go_ret
      first
        | (have hn := rdK_at [0] 1 rfl (by omega) (HB (.cells #[.int .u8 22, .int .i64 (a : Int), .int .u64 imm] 43)).out; rw [World.size_alloc] at hn; exact hn)
        | (have hn := rdK_at [0] 1 rfl (by omega) (HB (.cells #[.int .u8 26, .int .i64 (a : Int), .int .u64 imm] 43)).out; rw [World.size_alloc] at hn; exact hn)
        | (have hn := rdK_at [0] 1 rfl (by omega) (HB (.cells #[.int .u8 29, .int .i64 (a : Int), .int .u64 imm] 43)).out; rw [World.size_alloc] at hn; exact hn)
        | (have hn := rdK_at [0] 1 rfl (by omega) (HB (.cells #[.int .u8 30, .int .i64 (a : Int), .int .u64 imm] 43)).out; rw [World.size_alloc] at hn; exact hn)
  by_cases c23 : op = 23 ∨ op = 25
  · have hlt := insRef_fn HIN.out c23
    simp only at hlt
    have hlen := H.out.prog.len
    rw [length_fns, hlen] at hlt
    obtain ⟨b, off, s, hA, hb, HS, HSF, HSW, x0, x1, x2, x3, x4⟩ := H.out.prog.fn (k := a) (by omega)
    have HFN : Hid ((fns rs)[a]? = some s.fn) := Lib.hid (by unfold fns; rw [List.getElem?_map, HS.out]; rfl)
    have hokf := okF_par ((okP_iff.1 H.out.ok).2.2 s.fn (List.mem_of_getElem? HFN.out))
    have hcap := HSF.out.cap
    obtain ⟨p, hp⟩ : ∃ p : Nat, s.fn.params = (p : Int) := ⟨s.fn.params.toNat, by omega⟩
    rw [show takesK (fns rs) r.fn ⟨op, (a : Int), imm⟩ top = s.fn.locals.take p by
      unfold takesK parK
      simp only [Int.toNat_natCast, HFN.out, hp]
      rw [if_neg (by omega), if_neg (by omega), if_neg (by omega), if_neg (by omega), if_pos c23]]
    have HRD : Hid (∀ W, Below w.heap.size w W → RdK w (s.fn.locals.take p) (.returned (.slice s.lo p s.lc)) W) := Lib.hid fun W hW => by
      have hz := hW.size
      exact ⟨s.lo, p, s.lc, rfl, by rw [List.length_take]; omega, by omega, pre_reads ((HSF.out.locals.below (hW.mono hle)).more (by omega)) (by omega), hW⟩
    rw [hp] at x0 hokf
    subst hA
    obtain ⟨nl, hnl⟩ : ∃ nl, nl = s.fn.locals.length := ⟨_, rfl⟩
    rw [← hnl] at x1 hcap hokf
    have hlt' : a < n := by omega
    have hbw : b < w.heap.size := by omega
    have hpl : p ≤ s.lc := by omega
    have hp0 : (0 : Int) ≤ (p : Int) := by omega
    have hlc : p ≤ 255 := by omega
    clear hnl hlt hp hokf hcap hlen d1 d2 d3 d4 d5 d6 d7 d8 HFN HS HSW
    rcases c23 with rfl | rfl
    all_goals
      go_enter Try.func84, Try.ntmps84
      go_wp2
      go_region
      all_goals
        go_wp2
        go_ret
        exact HRD.out _ (((HB _).out.drew).alloc (by simp) _)
  by_cases c24 : op = 24
  · subst c24
    rw [show takesK (fns rs) r.fn ⟨24, (a : Int), imm⟩ top = resOf r.fn by simp [takesK]]
    clear d0 d6 d7 d8
    go_enter Try.func84, Try.ntmps84
    go_wp2_with (go_at_call 87; refine (resultOf_any r _).mono ?_; rintro e w2 ⟨A2, m2, c2, rfl, hm2, ho2, hb2⟩; have HM2 := Lib.hid hm2; clear hm2; refine Hid.out ?_)
    have HB2 := Lib.hid ((HB (.cells #[.int .u8 24, .int .i64 (a : Int), .int .u64 imm] 43)).out.trans (hb2.mono (by simp)))
    have HO2 := Lib.hid ho2
    clear hb2 ho2
    refine Lib.hid ?_
    go_wp2
    go_ret
    exact ⟨A2, m2, c2, rfl, HM2.out, own_cap HO2.out, Reads.of_own HO2.out, HB2.out⟩
  by_cases c31 : op = 31 ∨ op = 32
  · rcases c31 with rfl | rfl
    all_goals
      rw [show takesK (fns rs) r.fn ⟨_, (a : Int), imm⟩ top = [top] by simp [takesK]]
      clear d0 d1 d2 d3 d4 d5 d6 d7 d8
      go_enter Try.func84, Try.ntmps84
      go_wp2
      go_ret
      first
        | (have hn := rdK_at [top] 1 rfl (by omega) (HB (.cells #[.int .u8 31, .int .i64 (a : Int), .int .u64 imm] 43)).out; rw [World.size_alloc] at hn; exact hn)
        | (have hn := rdK_at [top] 1 rfl (by omega) (HB (.cells #[.int .u8 32, .int .i64 (a : Int), .int .u64 imm] 43)).out; rw [World.size_alloc] at hn; exact hn)
  have g3 : (op == 3) = false := by simp; omega
  have g5 : (op == 5) = false := by simp; omega
  have g6 : (op == 6) = false := by simp; omega
  have g22 : (op == 22) = false := by simp; omega
  have g26 : (op == 26) = false := by simp; omega
  have g29 : (op == 29) = false := by simp; omega
  have g30 : (op == 30) = false := by simp; omega
  have g23 : (op == 23) = false := by simp; omega
  have g25 : (op == 25) = false := by simp; omega
  have g24 : (op == 24) = false := by simp; omega
  have g31 : (op == 31) = false := by simp; omega
  have g32 : (op == 32) = false := by simp; omega
  by_cases c7 : 7 ≤ op ∧ op ≤ 20
  · rw [show takesK (fns rs) r.fn ⟨op, (a : Int), imm⟩ top = [0, 0] by
      unfold takesK
      simp only
      rw [if_neg (by omega), if_neg (by omega), if_neg (by omega), if_neg (by omega), if_neg (by omega), if_neg (by omega), if_neg (by omega), if_pos c7]]
    obtain ⟨l7, l20⟩ := c7
    clear c3 c5 c6 c22 c23 c24 c31 d0 d1 d2 d3 d4 d5 d6 d7 d8
    go_enter Try.func84, Try.ntmps84
    go_wp2
    go_ret
    have hn := rdK_at [0, 0] 2 rfl (by omega) (HB (.cells #[.int .u8 op, .int .i64 (a : Int), .int .u64 imm] 43)).out
    rw [World.size_alloc] at hn
    exact hn
  · rw [show takesK (fns rs) r.fn ⟨op, (a : Int), imm⟩ top = [] by
      unfold takesK
      simp only
      rw [if_neg (by omega), if_neg (by omega), if_neg (by omega), if_neg (by omega), if_neg (by omega), if_neg (by omega), if_neg (by omega), if_neg c7]]
    by_cases l7 : 7 ≤ op
    · have l20 : ¬ op ≤ 20 := fun hh => c7 ⟨l7, hh⟩
      clear c3 c5 c6 c22 c23 c24 c31 c7 d0 d1 d2 d3 d4 d5 d6 d7 d8
      go_enter Try.func84, Try.ntmps84
      go_wp2
      go_ret
      exact rdK_nil (HB _).out
    · clear c3 c5 c6 c22 c23 c24 c31 c7 d0 d1 d2 d3 d4 d5 d6 d7 d8
      go_enter Try.func84, Try.ntmps84
      go_wp2
      go_ret
      exact rdK_nil (HB _).out

set_option maxRecDepth 100000 in
set_option maxHeartbeats 3200000 in
theorem leaves_any (B g n c : Nat) (A : Option Addr) (rs : List Raw) (r : Raw) (rv sv wv : Value) (i : Ins) (top : Int) (w : World) (h : Wk w B g A n c rs r rv sv wv) (hin : insRef (fns rs) r.fn i = true) (h0 : 0 ≤ i.arg) :
    Calls Try.prog 86 #[.pointer (some ⟨g, 0, none⟩), .agg #[.int .u8 i.op, .int .i64 i.arg, .int .u64 i.imm], .int .u8 top] w (RdK w (leavesK (fns rs) r.fn i top)) := by
  have hg := h.blk.lt
  obtain ⟨d0, d1, d2, d3, d4, d5, d6, d7, d8⟩ := h.cells
  have HB : ∀ o : Obj, Hid (Below w.heap.size w (w.alloc o)) := fun o => (Below.refl _ _).alloc (Nat.le_refl _) o
  have H := Lib.hid h
  have HIN := Lib.hid hin
  have hle := h.le
  clear h hin
  obtain ⟨op, arg, imm⟩ := i
  simp only at h0 ⊢
  obtain ⟨a, rfl⟩ : ∃ a : Nat, arg = (a : Int) := ⟨arg.toNat, by omega⟩

  by_cases c1 : op = 1 ∨ op = 28 ∨ op = 5
  · rcases c1 with rfl | rfl | rfl
    all_goals
      rw [show leavesK (fns rs) r.fn ⟨_, (a : Int), imm⟩ top = [0] by simp [leavesK]]
      clear d0 d1 d2 d3 d4 d5 d6 d7 d8
      go_enter Try.func86, Try.ntmps86
      go_wp2
      go_ret
      first
        | (have hn := rdK_at [0] 1 rfl (by omega) (HB (.cells #[.int .u8 1, .int .i64 (a : Int), .int .u64 imm] 43)).out; rw [World.size_alloc] at hn; exact hn)
        | (have hn := rdK_at [0] 1 rfl (by omega) (HB (.cells #[.int .u8 28, .int .i64 (a : Int), .int .u64 imm] 43)).out; rw [World.size_alloc] at hn; exact hn)
        | (have hn := rdK_at [0] 1 rfl (by omega) (HB (.cells #[.int .u8 5, .int .i64 (a : Int), .int .u64 imm] 43)).out; rw [World.size_alloc] at hn; exact hn)
  by_cases c2 : op = 2
  · subst c2
    have hlt := insRef_loc HIN.out (.inl rfl)
    simp only at hlt
    obtain ⟨b, off, x, hA, hb, HX, x0⟩ := H.out.fn.locals.byte (k := a) (by omega)
    rw [show leavesK (fns rs) r.fn ⟨2, (a : Int), imm⟩ top = [x] by simp [leavesK, locK, List.getD_eq_getElem?_getD, HX.out]]
    rw [hA] at d2
    obtain ⟨nl, hnl⟩ : ∃ nl, nl = r.fn.locals.length := ⟨_, rfl⟩
    rw [← hnl] at d2 hlt
    have hlt' : a < nl := by omega
    have hbw : b < w.heap.size := by omega
    clear hnl hlt d0 d1 d3 d4 d5 d6 d7 d8 HX
    go_enter Try.func86, Try.ntmps86
    go_wp2
    go_region
    all_goals
      go_wp2
      go_ret
      have hn := rdK_at [x] 1 rfl (by omega) (HB (.cells #[.int .u8 2, .int .i64 (a : Int), .int .u64 imm] 43)).out.drew
      rw [show ((w.alloc (.cells #[.int .u8 2, .int .i64 (a : Int), .int .u64 imm] 43)).drew).heap.size = w.heap.size + 1 by simp] at hn
      exact hn
  by_cases c4 : op = 4
  · subst c4
    all_goals
      rw [show leavesK (fns rs) r.fn ⟨_, (a : Int), imm⟩ top = [1] by simp [leavesK]]
      clear d0 d1 d2 d3 d4 d5 d6 d7 d8
      go_enter Try.func86, Try.ntmps86
      go_wp2
      go_ret
      first
        | (have hn := rdK_at [1] 1 rfl (by omega) (HB (.cells #[.int .u8 4, .int .i64 (a : Int), .int .u64 imm] 43)).out; rw [World.size_alloc] at hn; exact hn)
  by_cases c23 : op = 23
  · subst c23
    have hlt := insRef_fn HIN.out (.inl rfl)
    simp only at hlt
    have hlen := H.out.prog.len
    rw [length_fns, hlen] at hlt
    obtain ⟨b, off, s, hA, hb, HS, HSF, HSW, x0, x1, x2, x3, x4⟩ := H.out.prog.fn (k := a) (by omega)
    have HFN : Hid ((fns rs)[a]? = some s.fn) := Lib.hid (by unfold fns; rw [List.getElem?_map, HS.out]; rfl)
    rw [show leavesK (fns rs) r.fn ⟨23, (a : Int), imm⟩ top = resOf s.fn by simp [leavesK, resK, HFN.out]]
    subst hA
    have hlt' : a < n := by omega
    have hbw : b < w.heap.size := by omega
    clear hlt hlen d1 d2 d3 d4 d5 d6 d7 d8 HFN HS HSW
    go_enter Try.func86, Try.ntmps86
    go_wp2
    go_region_with (go_at_call 87; refine (resultOf_any s _).mono ?_; rintro e w2 ⟨A2, m2, c2, rfl, hm2, ho2, hb2⟩; have HB2 := Lib.hid (((HB (.cells #[.int .u8 23, .int .i64 (a : Int), .int .u64 imm] 43)).out.drew).trans (hb2.mono (by simp))); have HO2 := Lib.hid ho2; have HM2 := Lib.hid hm2; clear hb2 ho2 hm2)
    all_goals
      go_wp2
      go_ret
      exact ⟨A2, m2, c2, rfl, HM2.out, own_cap HO2.out, Reads.of_own HO2.out, HB2.out⟩
  by_cases c27 : op = 27
  · subst c27
    all_goals
      rw [show leavesK (fns rs) r.fn ⟨_, (a : Int), imm⟩ top = [0, 0] by simp [leavesK]]
      clear d0 d1 d2 d3 d4 d5 d6 d7 d8
      go_enter Try.func86, Try.ntmps86
      go_wp2
      go_ret
      first
        | (have hn := rdK_at [0, 0] 2 rfl (by omega) (HB (.cells #[.int .u8 27, .int .i64 (a : Int), .int .u64 imm] 43)).out; rw [World.size_alloc] at hn; exact hn)
  by_cases c32 : op = 32
  · subst c32
    all_goals
      rw [show leavesK (fns rs) r.fn ⟨_, (a : Int), imm⟩ top = [top, top] by simp [leavesK]]
      clear d0 d1 d2 d3 d4 d5 d6 d7 d8
      go_enter Try.func86, Try.ntmps86
      go_wp2
      go_ret
      first
        | (have hn := rdK_at [top, top] 2 rfl (by omega) (HB (.cells #[.int .u8 32, .int .i64 (a : Int), .int .u64 imm] 43)).out; rw [World.size_alloc] at hn; exact hn)
  have g1 : (op == 1) = false := by simp; omega
  have g28 : (op == 28) = false := by simp; omega
  have g5 : (op == 5) = false := by simp; omega
  have g2 : (op == 2) = false := by simp; omega
  have g4 : (op == 4) = false := by simp; omega
  have g23 : (op == 23) = false := by simp; omega
  have g27 : (op == 27) = false := by simp; omega
  have g32 : (op == 32) = false := by simp; omega
  by_cases c7 : 7 ≤ op ∧ op ≤ 20
  · rw [show leavesK (fns rs) r.fn ⟨op, (a : Int), imm⟩ top = [0] by
      unfold leavesK
      simp only
      rw [if_neg (by omega), if_neg (by omega), if_neg (by omega), if_neg (by omega), if_neg (by omega), if_neg (by omega), if_pos c7]]
    obtain ⟨l7, l20⟩ := c7
    clear c1 c2 c4 c23 c27 c32 d0 d1 d2 d3 d4 d5 d6 d7 d8
    go_enter Try.func86, Try.ntmps86
    go_wp2
    go_ret
    have hn := rdK_at [0] 1 rfl (by omega) (HB (.cells #[.int .u8 op, .int .i64 (a : Int), .int .u64 imm] 43)).out
    rw [World.size_alloc] at hn
    exact hn
  · rw [show leavesK (fns rs) r.fn ⟨op, (a : Int), imm⟩ top = [] by
      unfold leavesK
      simp only
      rw [if_neg (by omega), if_neg (by omega), if_neg (by omega), if_neg (by omega), if_neg (by omega), if_neg (by omega), if_neg c7]]
    by_cases l7 : 7 ≤ op
    · have l20 : ¬ op ≤ 20 := fun hh => c7 ⟨l7, hh⟩
      clear c1 c2 c4 c23 c27 c32 c7 d0 d1 d2 d3 d4 d5 d6 d7 d8
      go_enter Try.func86, Try.ntmps86
      go_wp2
      go_ret
      exact rdK_nil (HB _).out
    · clear c1 c2 c4 c23 c27 c32 c7 d0 d1 d2 d3 d4 d5 d6 d7 d8
      go_enter Try.func86, Try.ntmps86
      go_wp2
      go_ret
      exact rdK_nil (HB _).out
end Go.Proofs.Ytdoabcmfblmklaa

/-
  Package slices' Equal, Clone, Grow (from nil), Concat (of two), at kinds.
-/
namespace Go.Proofs.Ytdoabcmfblmklaa
set_option linter.unusedVariables false
open Go.ChangeShapes Go.WideShapes Go.ChangeAt Go.RowKit

theorem take_eq_snoc {xs ys : List Int} {k : Nat} {x y : Int} (h : xs.take k = ys.take k) (hx : xs[k]? = some x) (hy : ys[k]? = some y) (he : x = y) : xs.take (k + 1) = ys.take (k + 1) := by
  rw [List.take_add_one, List.take_add_one, h, hx, hy, he]
set_option maxRecDepth 100000 in
set_option maxHeartbeats 1600000 in
theorem equal_any (B B' : Nat) (A A' : Option Addr) (n m c d : Nat) (xs ys : List Int) (w : World) (hx : Reads w B 1 A n (u8c xs)) (hy : Reads w B' 1 A' m (u8c ys)) (hB : B ≤ w.heap.size) (hB' : B' ≤ w.heap.size) (hn : n ≤ 1048576) (hm : m ≤ 1048576) :
    Calls Try.prog 74 #[.slice A n c, .slice A' m d] w fun e w' => e = .returned (.bool (decide (xs = ys))) ∧ Below w.heap.size w w' := by
  have HN : Hid (xs.length = n) := Lib.hid (by have := hx.1; rw [length_u8c] at this; omega)
  have HM : Hid (ys.length = m) := Lib.hid (by have := hy.1; rw [length_u8c] at this; omega)
  have HX := Lib.hid hx
  have HY := Lib.hid hy
  clear hx hy
  obtain ⟨b, HBV⟩ : ∃ b, Hid (b = decide (xs = ys)) := ⟨_, Lib.hid rfl⟩
  rw [← HBV.out]
  by_cases hne : n = m
  · subst hne
    go_enter Try.func74, Try.ntmps74
    go_wp2
    go_loopw [13] (fun i wr => ∃ k : Nat, k ≤ n ∧ i = .int .i64 k ∧ Hid (xs.take k = ys.take k) ∧ Hid (Below w.heap.size w wr)) (fun i _ => n - (intOf i).toNat)
    case atStart => exact ⟨0, Nat.zero_le _, rfl, Lib.hid rfl, Lib.hid (Below.refl _ _)⟩
    case round =>
      obtain ⟨k, hk, rfl, HT, HW⟩ := hrel
      by_cases hlt : k < n
      · obtain ⟨b1, o1, x, hA1, hb1, HX1, x0⟩ := (HX.out.below (HW.out.mono hB)).byte hlt
        obtain ⟨b2, o2, y, hA2, hb2, HY1, y0⟩ := (HY.out.below (HW.out.mono hB')).byte hlt
        subst hA1 hA2
        have hz := HW.out.size
        have hbr1 : b1 < wr.heap.size := by omega
        have hbr2 : b2 < wr.heap.size := by omega
        by_cases he : x = y
        · have HT1 := Lib.hid (take_eq_snoc HT.out HX1.out HY1.out he)
          subst he
          have g : (x != x) = false := by simp
          go_wp2
          go_quiet (fail)
          go_wp2
          go_roundw
          case rel => exact ⟨k + 1, by omega, by go_num, HT1, Lib.hid (below_drewN HW.out _)⟩
          case measure => simp [intOf]; omega
        · have g : (x != y) = true := by simpa using he
          have HA : Hid (b = false) := Lib.hid (by
            rw [HBV.out]
            have h1 := HX1.out
            have h2 := HY1.out
            simp only [decide_eq_false_iff_not]
            rintro rfl
            rw [h1] at h2
            exact he (by injection h2))
          clear he
          go_wp2
          go_quiet (fail)
          go_wp2
          go_ret
          exact ⟨by rw [HA.out]; rfl, below_drewN HW.out _⟩
      · obtain rfl : n = k := by omega
        clear hlt hk
        have HA : Hid (b = true) := Lib.hid (by
          have h := HT.out
          rw [List.take_of_length_le (by rw [HN.out]; omega), List.take_of_length_le (by rw [HM.out]; omega)] at h
          rw [HBV.out, h]; simp)
        go_wp2
        go_ret
        exact ⟨by rw [HA.out]; rfl, HW.out⟩
  · have HA : Hid (b = false) := Lib.hid (by
      rw [HBV.out]
      simp only [decide_eq_false_iff_not]
      rintro rfl
      exact hne (HN.out.symm.trans HM.out))
    go_enter Try.func74, Try.ntmps74
    go_wp2
    go_ret
    exact ⟨by rw [HA.out]; rfl, Below.refl _ _⟩
theorem own_lit0 (w : World) (base : Nat) (hb : base ≤ w.heap.size) : (w.alloc (.cells #[] 47)).ownsRow base 47 1 (.slice (some ⟨w.heap.size, 0, none⟩) 0 0) 0 [] :=
  w.ownsRow_made #[] 0 hb (by unfold maxLen; omega) rfl
set_option maxRecDepth 100000 in
set_option maxHeartbeats 1600000 in
theorem clone_any (B n : Nat) (v : Value) (xs : List Int) (w : World) (h : w.ownsRow B 47 1 v n (u8c xs)) (hn : n ≤ 1048576) :
    Calls Try.prog 75 #[v] w (NewK w xs) := by
  have hl : xs.length = n := by have := h.1; rw [length_u8c] at this; omega
  have H := Lib.hid h
  have q : ∀ (W : World) (a : Option Addr) (n c n' c' : Nat), (binOp .eql 44 (.slice a n c) (.slice none n' c')).run Try.prog W = .ok (.bool a.isNone) W := fun W a n c n' c' => Lib.run_eql_slice_nil W _ _ a n c n' c' Try.underlying44
  rcases h.2 with ⟨rfl, h0⟩ | ⟨g, cap, cur, rfl, hg, hh, hnc, _⟩
  · have hxs : xs = [] := List.eq_nil_of_length_eq_zero (by omega)
    subst hxs
    clear h
    go_enter Try.func75, Try.ntmps75
    go_wp2
    go_ret
    exact ⟨none, 0, 0, rfl, rfl, own_none _ _ _ _, Below.refl _ _⟩
  · clear h
    have HL := Lib.hid hl
    have HO := Lib.hid (own_lit0 w w.heap.size (Nat.le_refl _))
    have HR := Lib.hid ((Reads.of_own H.out).alloc (Nat.le_refl _) (.cells #[] 47))
    clear hh hl
    go_enter Try.func75, Try.ntmps75
    go_wp2_with (at_builtin; refine app_kind rfl _ _ rfl w.heap.size (.slice (some ⟨w.heap.size, 0, none⟩) 0 0) 0 [] rfl HO.out w.heap.size (some ⟨g, 0, none⟩) n cap (u8c xs) rfl HR.out (u8c_one _) (by omega) (by simp) ?_; intro v1 w1 hown1 hgr1 _; refine Hid.out ?_)
    rw [Nat.zero_add, List.nil_append] at hown1
    obtain ⟨A1, c1, rfl⟩ := own_slice hown1
    have HO1 := Lib.hid hown1
    have HB1 : Hid (Below w.heap.size w w1) := Lib.hid (((Below.refl _ _).alloc (Nat.le_refl _) _).grown hgr1 (by simp) fun i hi => (own_block_le HO.out hi).1)
    clear hown1 hgr1
    refine Lib.hid ?_
    go_wp2
    go_ret
    exact ⟨A1, n, c1, rfl, HL.out.symm, HO1.out, HB1.out⟩
/-- an empty row with room -/
def RoomK (w : World) (e : Ending) (w' : World) : Prop := ∃ A c, e = .returned (.slice A 0 c) ∧ w'.ownsRow w.heap.size 47 1 (.slice A 0 c) 0 [] ∧ Below w.heap.size w w'
set_option maxRecDepth 100000 in
set_option maxHeartbeats 1600000 in
theorem grow_any (n : Nat) (w : World) (hn : n ≤ 1048576) :
    Calls Try.prog 88 #[.slice none 0 0, .int .i64 n] w (RoomK w) := by
  rcases Nat.eq_zero_or_pos n with rfl | hp
  · go_enter Try.func88, Try.ntmps88
    go_wp2
    go_ret
    exact ⟨none, 0, rfl, own_none _ _ _ _, Below.refl _ _⟩
  · obtain ⟨i0, hi, hz0, hz1, hz2⟩ := info_parts Try.info47
    have hrun : ∀ ty, ∃ (G : Nat) (cur : Array Value), (Builtin.append_ #[44, 3] ty #[.slice none 0 0, .int .i64 (n : Int)]).run Try.prog w = .ok (.slice (some ⟨w.heap.size, 0, none⟩) n G) (w.drew.alloc (.cells cur 47)) ∧ cur.size = G ∧ n ≤ G ∧ G ≤ maxLen := fun ty => by
      have h := Lib.run_append_grow_zeros w 44 3 ty 47 i0 (.int .u8 0) .i64 .i64 Try.underlying44 Try.underlying3 hi hz0 none 0 0 [] (run_firstCells_none w.drew i0.size 0 0 0) n hp (by omega) (by omega) (by omega) (by rw [hz2]; omega) (growslice_fits (by omega) (by rw [hz2]; omega))
      rw [Nat.zero_add] at h
      refine ⟨_, _, h, ?_, grownCap_ge w _ _ _, grownCap_le_maxLen w _ _ _ (by unfold maxLen; omega)⟩
      have := grownCap_ge w n 0 47
      simp only [Builtin.zeroCells, Array.size_append, Array.size_map, Array.size_range]
      have hzc : (Value.int IntKind.u8 0).cells.size = 1 := rfl
      rw [hzc]
      simp
      omega
    obtain ⟨G, cur, hr, hcs, hG, hGm⟩ := hrun 44
    have HO : Hid ((w.drew.alloc (.cells cur 47)).ownsRow w.heap.size 47 1 (.slice (some ⟨w.heap.size, 0, none⟩) 0 G) 0 []) := Lib.hid (w.drew.ownsRow_made cur G (Nat.le_refl _) hGm (by omega))
    have hG2 : G ≤ 9223372036854775807 := by unfold maxLen at hGm; omega
    have HRN := Lib.hid hr
    clear hr hrun hi hz0 hz1 hz2 hcs hGm
    go_enter Try.func88, Try.ntmps88
    go_wp2_with (at_builtin; refine Lib.wpList_append_run _ rfl _ _ _ _ rfl _ _ rfl rfl _ _ HRN.out ?_)
    go_ret
    exact ⟨_, _, rfl, HO.out, (Below.refl _ _).drew.alloc (Nat.le_refl _) _⟩
/-- the first loop's two slots -/
def CatI (n1 n2 m : Nat) (s i : Value) : Prop := (i = .int .i64 0 ∧ s = .int .i64 0) ∨ (i = .int .i64 1 ∧ s = .int .i64 n1) ∨ (i = .int .i64 2 ∧ s = .int .i64 m)
def CatJ (w : World) (g n1 m : Nat) (xs ys : List Int) (s i : Value) (wr : World) : Prop :=
  ∃ A c k j zs, s = .slice A k c ∧ i = .int .i64 j ∧ Hid (wr.ownsRow w.heap.size 47 1 (.slice A k c) k (u8c zs)) ∧ Hid (Below w.heap.size w wr) ∧ ((j = (0 : Int) ∧ zs = [] ∧ k = 0) ∨ (j = 1 ∧ zs = xs ∧ k = n1) ∨ (j = 2 ∧ zs = xs ++ ys ∧ k = m))
set_option maxRecDepth 100000 in
set_option maxHeartbeats 3200000 in
theorem concat_any (g : Nat) (A1 A2 : Option Addr) (n1 n2 c1 c2 : Nat) (xs ys : List Int) (w : World) (h : Blk w g 44 #[.slice A1 n1 c1, .slice A2 n2 c2]) (h1 : Reads w w.heap.size 1 A1 n1 (u8c xs)) (h2 : Reads w w.heap.size 1 A2 n2 (u8c ys)) (hn1 : n1 ≤ 100000) (hn2 : n2 ≤ 100000) :
    Calls Try.prog 85 #[.slice (some ⟨g, 0, none⟩) 2 2] w (NewK w (xs ++ ys)) := by
  have l1 : xs.length = n1 := by have := h1.1; rw [length_u8c] at this; omega
  have l2 : ys.length = n2 := by have := h2.1; rw [length_u8c] at this; omega
  obtain ⟨m, HM⟩ : ∃ m, Hid (m = n1 + n2) := ⟨_, Lib.hid rfl⟩
  have hm : m ≤ 200000 := by rw [HM.out]; omega
  have HL : Hid ((xs ++ ys).length = m) := Lib.hid (by rw [List.length_append, HM.out, l1, l2])
  have hg := h.lt
  have x0 : w.cell? ⟨g, 0, none⟩ = some (.slice A1 n1 c1) := h.cell 0
  have x1 : w.cell? ⟨g, 1, none⟩ = some (.slice A2 n2 c2) := h.cell 1
  have H := Lib.hid h
  have H1 := Lib.hid h1
  have H2 := Lib.hid h2
  clear h h1 h2 l1 l2
  go_enter Try.func85, Try.ntmps85
  go_wp2
  go_loop [3, 11] (fun s i => CatI n1 n2 m s i) (fun _ i => 2 - (intOf i).toNat)
  case atStart => exact .inl ⟨rfl, rfl⟩
  case round =>
    rcases hrel with ⟨rfl, rfl⟩ | ⟨rfl, rfl⟩ | ⟨rfl, rfl⟩
    · go_wp2
      go_round
      case rel => exact .inr (.inl ⟨rfl, rfl⟩)
      case measure => simp [intOf]
    · go_wp2
      go_round
      case rel => exact .inr (.inr ⟨rfl, by rw [HM.out]; go_num⟩)
      case measure => simp [intOf]
    · clear x0 x1
      go_wp2_with (go_at_call 88; refine (grow_any m _ (by omega)).mono ?_; rintro e w2 ⟨A, c, rfl, ho2, hb2⟩; refine Hid.out ?_)
      have HO2 := Lib.hid ho2
      have HB2 := Lib.hid hb2
      clear ho2 hb2
      refine Lib.hid ?_
      go_wp2
      go_loopw [6, 27] (fun s i wr => CatJ w g n1 m xs ys s i wr) (fun _ i _ => 2 - (intOf i).toNat)
      case atStart => exact ⟨A, c, 0, 0, [], rfl, rfl, HO2, HB2, .inl ⟨rfl, rfl, rfl⟩⟩
      case round =>
        clear HO2 HB2
        obtain ⟨A, c, k, j, zs, rfl, rfl, HO, HB, hc⟩ := hrel
        have hz := HB.out.size
        have hX := H.out.below HB.out hg
        have x0 : wr.cell? ⟨g, 0, none⟩ = some (.slice A1 n1 c1) := hX.cell 0
        have x1 : wr.cell? ⟨g, 1, none⟩ = some (.slice A2 n2 c2) := hX.cell 1
        have HR1 := Lib.hid (H1.out.below HB.out)
        have HR2 := Lib.hid (H2.out.below HB.out)
        clear hX
        rcases hc with ⟨rfl, rfl, rfl⟩ | ⟨rfl, rfl, rfl⟩ | ⟨rfl, rfl, rfl⟩
        · go_wp2_with (at_builtin; refine app_kind rfl _ _ rfl w.heap.size (.slice A 0 c) 0 [] rfl HO.out w.heap.size A1 n1 c1 (u8c xs) rfl HR1.out (u8c_one _) (by omega) (by omega) ?_; intro v1 w1 hown1 hgr1 _; refine Hid.out ?_)
          rw [Nat.zero_add, List.nil_append] at hown1
          obtain ⟨A', c', rfl⟩ := own_slice hown1
          have HO1 := Lib.hid hown1
          have HB1 : Hid (Below w.heap.size w w1) := Lib.hid (HB.out.grown hgr1 hz fun i hi => (own_block_le HO.out hi).1)
          clear hown1 hgr1 x0 x1
          refine Lib.hid ?_
          go_wp2
          go_roundw
          case rel => exact ⟨A', c', n1, 1, xs, rfl, rfl, HO1, HB1, .inr (.inl ⟨rfl, rfl, rfl⟩)⟩
          case measure => simp [intOf]
        · have hkm : k + n2 = m := HM.out.symm
          go_wp2_with (at_builtin; refine app_kind rfl _ _ rfl w.heap.size (.slice A k c) k (u8c zs) rfl HO.out w.heap.size A2 n2 c2 (u8c ys) rfl HR2.out (u8c_one _) (by omega) (by omega) ?_; intro v1 w1 hown1 hgr1 _; refine Hid.out ?_)
          rw [← u8c_append, hkm] at hown1
          obtain ⟨A', c', rfl⟩ := own_slice hown1
          have HO1 := Lib.hid hown1
          have HB1 : Hid (Below w.heap.size w w1) := Lib.hid (HB.out.grown hgr1 hz fun i hi => (own_block_le HO.out hi).1)
          clear hown1 hgr1 x0 x1 hkm
          refine Lib.hid ?_
          go_wp2
          go_roundw
          case rel => exact ⟨A', c', m, 2, zs ++ ys, rfl, rfl, HO1, HB1, .inr (.inr ⟨rfl, rfl, rfl⟩)⟩
          case measure => simp [intOf]
        · clear x0 x1
          go_wp2
          go_ret
          exact ⟨A, k, c, rfl, HL.out.symm, HO.out, HB.out⟩
end Go.Proofs.Ytdoabcmfblmklaa

/-
  Package kinds: behind.
-/
namespace Go.Proofs.Ytdoabcmfblmklaa
set_option linter.unusedVariables false
open Go.ChangeShapes Go.WideShapes Go.ChangeAt Go.RowKit

/-- what behind answers -/
def BehPost (fs : List Fn) (f : Fn) (i : Ins) (s : Stk) (w : World) (e : Ending) (w' : World) : Prop :=
  ∃ A m c ok, e = .returned (.tuple #[.slice A m c, .bool ok]) ∧ Below w.heap.size w w' ∧
    ((ok = false ∧ afterK fs f i s = none) ∨ (ok = true ∧ ∃ s', afterK fs f i s = some s' ∧ s'.length = m ∧ w'.ownsRow w.heap.size 47 1 (.slice A m c) m (u8c s')))
theorem equal_is (B B' : Nat) (A A' : Option Addr) (n m c d : Nat) (xs ys : List Int) (b : Bool) (w : World) (hx : Reads w B 1 A n (u8c xs)) (hy : Reads w B' 1 A' m (u8c ys)) (hB : B ≤ w.heap.size) (hB' : B' ≤ w.heap.size) (hn : n ≤ 1048576) (hm : m ≤ 1048576) (hb : decide (xs = ys) = b) :
    Calls Try.prog 74 #[.slice A n c, .slice A' m d] w fun e w' => e = .returned (.bool b) ∧ Below w.heap.size w w' := by
  rw [← hb]; exact equal_any B B' A A' n m c d xs ys w hx hy hB hB' hn hm
theorem cut_reads {w : World} {B n k cap : Nat} {A : Option Addr} {xs : List Int} (h : Reads w B 1 A n (u8c xs)) (hk : k ≤ n) (hc : n ≤ cap) : Reads w B 1 (if cap = k then A else A.map (·.add k)) (n - k) (u8c (xs.drop k)) := by
  have := Reads.cut h hk hc
  rw [Nat.mul_one] at this
  unfold u8c at this ⊢
  rw [List.map_drop]
  exact this
theorem takesK_len {fs : List Fn} {f : Fn} {i : Ins} {t : Int} (h : okP fs = true) : (takesK fs f i t).length ≤ 255 := by
  unfold takesK
  split
  · simp
  split
  · simp
  split
  · simp
  split
  · simp
  split
  · unfold parK
    split
    · rename_i g hg
      have := okF_par ((okP_iff.1 h).2.2 g (List.mem_of_getElem? hg))
      rw [List.length_take]; omega
    · simp
  split
  · have := resOf_len f; omega
  split
  · simp
  split <;> simp
set_option maxRecDepth 100000 in
set_option maxHeartbeats 1000000 in
theorem behind_any (B g n c : Nat) (A : Option Addr) (rs : List Raw) (r : Raw) (rv sv wv : Value) (i : Ins) (s : Stk) (SA : Option Addr) (sn sc : Nat) (w : World) (h : Wk w B g A n c rs r rv sv wv) (hin : insRef (fns rs) r.fn i = true) (h0 : 0 ≤ i.arg)
    (hs : Reads w w.heap.size 1 SA sn (u8c s)) (hsc : sn ≤ sc) (hsn : sn ≤ 50000) :
    Calls Try.prog 76 #[.pointer (some ⟨g, 0, none⟩), .agg #[.int .u8 i.op, .int .i64 i.arg, .int .u64 i.imm], .slice SA sn sc] w (BehPost (fns rs) r.fn i s w) := by
  have hsl : s.length = sn := by have := hs.1; rw [length_u8c] at this; omega
  have HSL := Lib.hid hsl
  have H1 : Hid (∀ o : Obj, Wk (w.alloc o) B g A n c rs r rv sv wv) := Lib.hid fun o => h.alloc o
  have HS1 : Hid (∀ o : Obj, Reads (w.alloc o) w.heap.size 1 SA sn (u8c s)) := Lib.hid fun o => hs.alloc (Nat.le_refl _) o
  obtain ⟨t, HT⟩ : ∃ t, Hid (t = takesK (fns rs) r.fn i (topK s)) := ⟨_, Lib.hid rfl⟩
  obtain ⟨lv, HL⟩ : ∃ t, Hid (t = leavesK (fns rs) r.fn i (topK s)) := ⟨_, Lib.hid rfl⟩
  obtain ⟨k, HK⟩ : ∃ k, Hid (k = t.length) := ⟨_, Lib.hid rfl⟩
  have HAF : Hid (afterK (fns rs) r.fn i s = if k ≤ sn ∧ s.drop (sn - k) = t ∧ ¬(i.op = 24 ∧ k < sn) then some (s.take (sn - k) ++ lv) else none) := Lib.hid (by
    unfold afterK; rw [← HT.out, ← HL.out, ← HK.out, hsl])
  have HTK : Hid (∀ o : Obj, Calls Try.prog 84 #[.pointer (some ⟨g, 0, none⟩), .agg #[.int .u8 i.op, .int .i64 i.arg, .int .u64 i.imm], .int .u8 (topK s)] (w.alloc o) fun e w' => ∃ A2 c2, e = .returned (.slice A2 k c2) ∧ Reads w' w'.heap.size 1 A2 k (u8c t) ∧ Below (w.heap.size + 1) (w.alloc o) w') := Lib.hid fun o => by
    refine (takes_any B g n c A rs r rv sv wv i (topK s) _ (H1.out o) hin h0).mono ?_
    rintro e w' ⟨A2, m2, c2, rfl, hm2, _, hr2, hb2⟩
    rw [← HT.out] at hm2 hr2
    rw [← HK.out] at hm2
    subst hm2
    exact ⟨A2, c2, rfl, hr2, by rw [World.size_alloc] at hb2; exact hb2⟩
  have HLV : Hid (∀ W, Wk W B g A n c rs r rv sv wv → Calls Try.prog 86 #[.pointer (some ⟨g, 0, none⟩), .agg #[.int .u8 i.op, .int .i64 i.arg, .int .u64 i.imm], .int .u8 (topK s)] W (RdK W lv)) := Lib.hid fun W hW => by
    rw [HL.out]; exact leaves_any B g n c A rs r rv sv wv i (topK s) W hW hin h0
  have hll : lv.length ≤ 2 := by rw [HL.out]; exact leavesK_len _ _ _ _
  have HLL := Lib.hid hll
  have hk : k ≤ 255 := by rw [HK.out, HT.out]; exact takesK_len h.ok
  have HB : Hid (∀ o : Obj, Below w.heap.size w (w.alloc o)) := Lib.hid fun o => (Below.refl _ _).alloc (Nat.le_refl _) o
  obtain ⟨tp, HTP⟩ : ∃ x, Hid (x = topK s) := ⟨_, Lib.hid rfl⟩
  have HTO : Hid (∀ o : Obj, Calls Try.prog 83 #[.slice SA sn sc] (w.alloc o) fun e w' => e = .returned (.int .u8 tp) ∧ w.alloc o = w') := Lib.hid fun o => by
    rw [HTP.out]; exact topOf_any w.heap.size SA sn sc s _ (HS1.out o) (by omega)
  rw [← HTP.out] at HTK HLV
  obtain ⟨op, arg, imm⟩ := i
  simp only at h0 HTK HLV HAF
  have hgl := h.blk.lt
  have HWK := Lib.hid h
  clear h hs hsl hll hin
  by_cases c1 : sn < k
  · have HN : Hid (afterK (fns rs) r.fn ⟨op, arg, imm⟩ s = none) := Lib.hid (by rw [HAF.out, if_neg (by omega)])
    have g1 : decide ((sn : Int) - (k : Int) < 0) = true := by simp; omega
    have g1' : (sn : Int) - (k : Int) < 0 := by omega
    go_enter Try.func76, Try.ntmps76
    go_wp2_with (first | (go_at_call 83; refine (HTO.out _).mono ?_; rintro e w2 ⟨rfl, rfl⟩) | (go_at_call 84; refine (HTK.out _).mono ?_; rintro e w2 ⟨A2, c2, rfl, hr2, hb2⟩; have HR2 := Lib.hid hr2; have HB2 := Lib.hid hb2; clear hr2 hb2))
    go_ret2
    exact ⟨none, 0, 0, false, rfl, (HB.out _).trans (HB2.out.mono (Nat.le_succ _)), .inl ⟨rfl, HN.out⟩⟩
  obtain ⟨bel, hbel⟩ : ∃ bel, bel = sn - k := ⟨_, rfl⟩
  have hsub : (sn : Int) - (k : Int) = (bel : Int) := by omega
  have hnb : sn - bel = k := by omega
  have hb0 : (0 : Int) ≤ (bel : Int) := by omega
  have hbn : bel ≤ sn := by omega
  have hbc : bel ≤ sc := by omega
  have HBL := Lib.hid hbel
  rw [← hbel] at HAF
  clear hbel
  have g0 : decide ((bel : Int) < 0) = false := by simp
  obtain ⟨q, HQ⟩ : ∃ q, Hid (q = !decide (s.drop bel = t)) := ⟨_, Lib.hid rfl⟩
  have hq' : (!decide (s.drop bel = t)) = q := HQ.out.symm
  obtain ⟨ib, HIB⟩ : ∃ o, Hid (o = Obj.cells #[.int .u8 op, .int .i64 arg, .int .u64 imm] 43) := ⟨_, Lib.hid rfl⟩
  clear hq'
  go_enter Try.func76, Try.ntmps76
  go_upto_region 4 with (first | (go_at_call 83; refine (HTO.out _).mono ?_; rintro e w2 ⟨rfl, rfl⟩) | (go_at_call 84; refine (HTK.out _).mono ?_; rintro e w2 ⟨A2, c2, rfl, hr2, hb2⟩; have HR2 := Lib.hid hr2; have HB2 := Lib.hid hb2; clear hr2 hb2))
  go_cut [31] (fun s31 wx => s31 = .bool q ∧ Hid (Below (w.heap.size + 1) (w.alloc (.cells #[.int .u8 op, .int .i64 arg, .int .u64 imm] 43)) wx))
  case first =>
    have hz2 := HB2.out.size
    rw [World.size_alloc] at hz2
    have HRS := Lib.hid ((HS1.out (.cells #[.int .u8 op, .int .i64 arg, .int .u64 imm] 43)).below (HB2.out.mono (by omega)))
    have HD : Hid (decide (s.drop bel = t) = !q) := Lib.hid (by rw [HQ.out]; simp)
    by_cases hcb : sc = bel
    · have HR : Hid (Reads w2 w.heap.size 1 SA k (u8c (s.drop bel))) := Lib.hid (by
        have h := cut_reads (cap := sc) HRS.out hbn hsc
        rw [hnb, if_pos hcb] at h
        exact h)
      subst hcb
      go_wp2_with (go_at_call 74; with_reducible refine (equal_is w.heap.size w2.heap.size SA A2 k k _ c2 (s.drop sc) t (!q) w2 HR.out HR2.out (by omega) (Nat.le_refl _) (by omega) (by omega) HD.out).mono ?_; rintro e w3 ⟨rfl, hb3⟩; have HB3 := Lib.hid (HB2.out.trans (hb3.mono (by omega))); clear hb3)
      go_meet
      exact ⟨rfl, HB3⟩
    · have HR : Hid (Reads w2 w.heap.size 1 (Option.map (fun x => x.add bel) SA) k (u8c (s.drop bel))) := Lib.hid (by
        have h := cut_reads (cap := sc) HRS.out hbn hsc
        rw [hnb, if_neg hcb] at h
        exact h)
      go_wp2_with (go_at_call 74; with_reducible refine (equal_is w.heap.size w2.heap.size (Option.map (fun x => x.add bel) SA) A2 k k _ c2 (s.drop bel) t (!q) w2 HR.out HR2.out (by omega) (Nat.le_refl _) (by omega) (by omega) HD.out).mono ?_; rintro e w3 ⟨rfl, hb3⟩; have HB3 := Lib.hid (HB2.out.trans (hb3.mono (by omega))); clear hb3)
      go_meet
      exact ⟨rfl, HB3⟩
  case rest =>
    obtain ⟨rfl, HBC⟩ := hcut
    have hzc := HBC.out.size
    rw [World.size_alloc] at hzc
    have HBW := Lib.hid ((HB.out (.cells #[.int .u8 op, .int .i64 arg, .int .u64 imm] 43)).trans (HBC.out.mono (Nat.le_succ _)))
    have HX := (Blk.new w 43 #[.int .u8 op, .int .i64 arg, .int .u64 imm]).below HBC.out (by omega)
    have x0 : wc.cell? ⟨w.heap.size, 0, none⟩ = some (.int .u8 op) := HX.cell 0
    have x1 : wc.cell? ⟨w.heap.size, 1, none⟩ = some (.int .i64 arg) := HX.cell 1
    have x2 : wc.cell? ⟨w.heap.size, 2, none⟩ = some (.int .u64 imm) := HX.cell 2
    clear HX
    cases q with
    | true =>
      have HN : Hid (afterK (fns rs) r.fn ⟨op, arg, imm⟩ s = none) := Lib.hid (by
        rw [HAF.out, if_neg]
        intro hh
        have := HQ.out
        rw [decide_eq_true hh.2.1] at this
        cases this)
      go_wp2
      go_ret2
      exact ⟨none, 0, 0, false, rfl, HBW.out, .inl ⟨rfl, HN.out⟩⟩
    | false =>
      have HDT : Hid (s.drop bel = t) := Lib.hid (by have := HQ.out; simpa using this)
      by_cases c3 : op = 24 ∧ k < sn
      · have HN : Hid (afterK (fns rs) r.fn ⟨op, arg, imm⟩ s = none) := Lib.hid (by
          rw [HAF.out, if_neg]
          intro hh
          exact hh.2.2 c3)
        obtain ⟨rfl, c3⟩ := c3
        have g3 : decide (0 < bel) = true := by simp; omega
        have g3' : decide ((bel : Int) > 0) = true := by simp; omega
        go_wp2
        go_ret2
        exact ⟨none, 0, 0, false, rfl, HBW.out, .inl ⟨rfl, HN.out⟩⟩
      · have HSO : Hid (afterK (fns rs) r.fn ⟨op, arg, imm⟩ s = some (s.take bel ++ lv)) := Lib.hid (by
          rw [HAF.out, if_pos ⟨by omega, HDT.out, c3⟩])
        have HWC : Hid (∀ W, Below wc.heap.size wc W → Wk W B g A n c rs r rv sv wv) := Lib.hid fun W hW => (HWK.out.below HBW.out).below hW
        have HSR : Hid (∀ W, Below wc.heap.size wc W → Reads W W.heap.size 1 SA bel (u8c (s.take bel))) := Lib.hid fun W hW => by
          have h1 := (HS1.out (.cells #[.int .u8 op, .int .i64 arg, .int .u64 imm] 43)).below (HBC.out.mono (Nat.le_succ _))
          have h2 := (h1.below (hW.mono (by omega))).more (B' := W.heap.size) (by have := hW.size; omega)
          exact pre_reads h2 hbn
        have HBD : Hid (Below wc.heap.size wc wc.drew) := Lib.hid (Below.refl _ _).drew
        by_cases c4 : op = 24
        · have hb00 : bel = 0 := by have := HBL.out; have h3 : ¬ k < sn := fun hh => c3 ⟨c4, hh⟩; omega
          subst c4
          have g3 : decide (0 < bel) = false := by simp; omega
          clear c3 hb00
          go_wp2
          go_region_law (first
            | (go_simp; go_at_call 86; refine (HLV.out wc.drew (HWC.out wc.drew HBD.out)).mono ?_; rintro e w5 ⟨A5, m5, c5, rfl, hm5, hmc5, hr5, hb5⟩; have HM5 := Lib.hid hm5; have HR5 := Lib.hid hr5; have hz5 : wc.heap.size ≤ w5.heap.size := hb5.size; have HB5 := Lib.hid (HBD.out.trans hb5); clear hm5 hr5 hb5 hmc5)
            | (go_simp; go_at_call 85; refine (concat_any w5.heap.size SA A5 bel m5 sc c5 (s.take bel) lv _ (Blk.new w5 _ _) ((HSR.out w5 HB5.out).alloc (Nat.le_refl _) _ |>.more (by simp)) ((HR5.out.alloc (Nat.le_refl _) _).more (by simp)) (by omega) (by rw [HM5.out]; have := HLL.out; omega)).mono ?_; rintro e w6 ⟨A6, m6, c6, rfl, hm6, ho6, hb6⟩; have HM6 := Lib.hid hm6; have HO6 := Lib.hid ho6; have HB6 := Lib.hid hb6; clear hm6 ho6 hb6))
          all_goals
            go_wp2
            go_ret2
            exact ⟨A6, m6, c6, true, rfl, HBW.out.trans (HB5.out.mono (by omega)) |>.trans (((Below.refl _ _).alloc (by omega) _).trans (HB6.out.mono (by simp; omega))), .inr ⟨rfl, _, HSO.out, HM6.out.symm, own_more HO6.out (by simp; omega)⟩⟩
        · have g3 : (op == 24) = false := by simpa using c4
          clear c3 c4
          go_wp2
          go_region_law (first
            | (go_simp; go_at_call 86; refine (HLV.out wc.drew (HWC.out wc.drew HBD.out)).mono ?_; rintro e w5 ⟨A5, m5, c5, rfl, hm5, hmc5, hr5, hb5⟩; have HM5 := Lib.hid hm5; have HR5 := Lib.hid hr5; have hz5 : wc.heap.size ≤ w5.heap.size := hb5.size; have HB5 := Lib.hid (HBD.out.trans hb5); clear hm5 hr5 hb5 hmc5)
            | (go_simp; go_at_call 85; refine (concat_any w5.heap.size SA A5 bel m5 sc c5 (s.take bel) lv _ (Blk.new w5 _ _) ((HSR.out w5 HB5.out).alloc (Nat.le_refl _) _ |>.more (by simp)) ((HR5.out.alloc (Nat.le_refl _) _).more (by simp)) (by omega) (by rw [HM5.out]; have := HLL.out; omega)).mono ?_; rintro e w6 ⟨A6, m6, c6, rfl, hm6, ho6, hb6⟩; have HM6 := Lib.hid hm6; have HO6 := Lib.hid ho6; have HB6 := Lib.hid hb6; clear hm6 ho6 hb6))
          all_goals
            go_wp2
            go_ret2
            exact ⟨A6, m6, c6, true, rfl, HBW.out.trans (HB5.out.mono (by omega)) |>.trans (((Below.refl _ _).alloc (by omega) _).trans (HB6.out.mono (by simp; omega))), .inr ⟨rfl, _, HSO.out, HM6.out.symm, own_more HO6.out (by simp; omega)⟩⟩
end Go.Proofs.Ytdoabcmfblmklaa

/-
  Package kinds: arrive.
-/
namespace Go.Proofs.Ytdoabcmfblmklaa
set_option linter.unusedVariables false
open Go.ChangeShapes Go.WideShapes Go.ChangeAt Go.RowKit

theorem Try.info3 : (Try.prog.info? 3).map (fun i => (i.zero, i.size, i.bytes)) = some (some (.int .i64 0), 1, 8) := by kernel_rfl
theorem app_int {w : World} {ops : Array Oper} {rest : List Oper} {o : Oper} {a : Act} {Q : Exit → Act → World → Prop} (hgd : o.guard = none) (s x : Operand)
    (ho : o.op = .call { callee := .builtin .append, args := #[s, x], argTypes := #[105, 105] }) (base : Nat)
    (v : Value) (n : Nat) (xs : List Value) (hs : a.eval s = v) (hown : w.ownsRow base 3 1 v n xs)
    (B : Nat) (A : Option Addr) (m c : Nat) (news : List Value) (hx : a.eval x = .slice A m c) (hr : Reads w B 1 A m news) (h1 : ∀ u ∈ news, u.oneCell' = true)
    (hbytes : (n + m) * 8 ≤ 140737488355328) (hbase : base ≤ w.heap.size)
    (h : ∀ v' w', w'.ownsRow base 3 1 v' (n + m) (xs ++ news) → w.grownBy w' v.ownBlock → (v'.ownBlock = v.ownBlock ∨ v'.ownBlock = some w.heap.size) → wpList Try.prog ops Q rest (a.put o.dst v') w') : wpList Try.prog ops Q (o :: rest) a w := by
  obtain ⟨i0, hi, hz0, hz1, hz2⟩ := info_parts Try.info3
  exact wpList_append_any w hgd s x _ ho base 3 i0 (.int .i64 0) 1 8 Try.underlying105 hi hz0 hz1 hz2 rfl (by decide) v n xs hs hown B A m c news hx hr h1 (by unfold maxLen; omega) hbytes hbase h

def ArrYes (w : World) (B g ra sa : Nat) (A : Option Addr) (n c : Nat) (rs : List Raw) (r : Raw) (m : Nat) (l : List (Option Stk)) (wl : List Nat) (WA : Option Addr) (wk wcap b : Nat) (s : Stk) (w' : World) : Prop :=
  ∃ l' wl' vs' WA' wk' wcap', WS w' B g ra sa A n c rs r m l' wl' vs' WA' wk' wcap' ∧ ((Value.slice WA' wk' wcap').ownBlock = (Value.slice WA wk wcap).ownBlock ∨ ∃ j, (Value.slice WA' wk' wcap').ownBlock = some j ∧ w.heap.size ≤ j) ∧
    ((l[b]? = some (some s) ∧ l' = l ∧ wl' = wl) ∨ (l[b]? = some none ∧ l' = l.set b (some s) ∧ wl' = wl ++ [b]))
def ArrPost (w : World) (B g ra sa : Nat) (A : Option Addr) (n c : Nat) (rs : List Raw) (r : Raw) (m : Nat) (l : List (Option Stk)) (wl : List Nat) (WA : Option Addr) (wk wcap b : Nat) (s : Stk) (e : Ending) (w' : World) : Prop :=
  ∃ ok, e = .returned (.bool ok) ∧ Kp w w' (Ex g ra sa (.slice WA wk wcap)) ∧
    ((ok = false ∧ (m ≤ b ∨ ∃ s2, l[b]? = some (some s2) ∧ s2 ≠ s)) ∨ (ok = true ∧ ArrYes w B g ra sa A n c rs r m l wl WA wk wcap b s w'))

set_option maxRecDepth 100000 in
set_option maxHeartbeats 3200000 in
theorem arrive_any (B g ra sa n c m wk wcap b sn sc B0 : Nat) (A WA SA : Option Addr) (rs : List Raw) (r : Raw) (l : List (Option Stk)) (wl : List Nat) (vs : List Value) (s : Stk) (w : World)
    (h : WS w B g ra sa A n c rs r m l wl vs WA wk wcap) (hs : w.ownsRow B0 47 1 (.slice SA sn sc) sn (u8c s)) (hsn : sn ≤ 50000) (hall : ∀ (j : Nat) s2, l[j]? = some (some s2) → s2.length ≤ 50000) (hwk : wk ≤ 100000) (hb : b ≤ 1000000) :
    Calls Try.prog 62 #[.pointer (some ⟨g, 0, none⟩), .int .i64 b, .slice SA sn sc] w (ArrPost w B g ra sa A n c rs r m l wl WA wk wcap b s) := by
  obtain ⟨d0, d1, d2, d3, d4, d5, d6, d7, d8⟩ := h.wkr.cells
  rw [h.clen] at d5
  have hg := h.wkr.blk.lt
  have hm := h.small
  have hsl : s.length = sn := by have := hs.1; rw [length_u8c] at this; omega
  have HSL := Lib.hid hsl
  have H := Lib.hid h
  have HS := Lib.hid hs
  have HLN : Hid (l.length = m) := Lib.hid h.len
  have hra := h.reached.lt
  have hsa := h.stacks.lt
  clear hs hsl
  by_cases c1 : m ≤ b
  · have g1 : decide (m ≤ b) = true := by simpa using c1
    clear h d0 d1 d2 d3 d4 d6 d7 d8
    go_enter Try.func62, Try.ntmps62
    go_wp2
    go_ret
    exact ⟨false, rfl, Kp.refl _ _, .inl ⟨rfl, .inl c1⟩⟩
  have g1 : decide (m ≤ b) = false := by simpa using c1
  have hbm : b < m := by omega
  obtain ⟨x, hx⟩ : ∃ x, l[b]? = some x := ⟨l[b]'(by rw [h.len]; omega), List.getElem?_eq_getElem _⟩
  obtain ⟨a, q, k, hv, hq, ho⟩ := h.vat b x hx
  have e0 : w.cell? ⟨ra, b, none⟩ = some (.bool x.isSome) := by
    rw [h.reached.cell]
    show (reachC l).toArray[b]? = _
    unfold reachC
    simp [hx]
  have e1 : w.cell? ⟨sa, b, none⟩ = some (.slice a q k) := by
    rw [h.stacks.cell]
    simpa using hv
  cases x with
  | some s2 =>
    simp only [Option.isSome_some, Option.getD_some] at e0 hq ho
    have hq2 : q ≤ 50000 := by rw [hq]; exact hall b s2 hx
    have HO := Lib.hid ho
    have HX := Lib.hid hx
    obtain ⟨eq, HEQ⟩ : ∃ eq, Hid (decide (s2 = s) = eq) := ⟨_, Lib.hid rfl⟩
    have HC := Lib.hid (equal_is w.heap.size w.heap.size a SA q sn k sc s2 s eq w (Reads.of_own HO.out) (Reads.of_own HS.out) (Nat.le_refl _) (Nat.le_refl _) (by omega) (by omega) HEQ.out)
    clear h hq ho hx hv d0 d1 d2 d3 d4 d8 c1
    go_enter Try.func62, Try.ntmps62
    go_wp2_with (go_at_call 74; refine HC.out.mono ?_; rintro e w2 ⟨rfl, hb2⟩; have HB2 := Lib.hid hb2; clear hb2)
    go_ret
    refine ⟨eq, rfl, Kp.of_below HB2.out _, ?_⟩
    cases eq with
    | false => exact .inl ⟨rfl, .inr ⟨s2, HX.out, by have := HEQ.out; simpa using this⟩⟩
    | true =>
      have he : s2 = s := by have := HEQ.out; simpa using this
      subst he
      exact .inr ⟨rfl, l, wl, vs, WA, wk, wcap, H.out.below HB2.out, .inl rfl, .inl ⟨HX.out, rfl, rfl⟩⟩
  | none =>
    simp only [Option.isSome_none] at e0
    have HX := Lib.hid hx
    have f0 := h.reached.frozen b
    have hrs : ra ≠ sa := Blk.ne_ h.reached h.stacks (by decide)
    have hrg : ra ≠ g := Blk.ne_ h.reached h.wkr.blk (by decide)
    have hsg : sa ≠ g := Blk.ne_ h.stacks h.wkr.blk (by decide)
    obtain ⟨W1, hW1⟩ : ∃ W1, W1 = w.setCell ⟨ra, b, none⟩ (.bool true) := ⟨_, rfl⟩
    have HW1 := Lib.hid hW1
    have hz1 : W1.heap.size = w.heap.size := by rw [hW1]; simp [World.setCell]
    have HZ1 := Lib.hid hz1
    have HG1 : Hid (Blk W1 g 107 (WkC A n c r (.slice (some ⟨ra, 0, none⟩) m m) (.slice (some ⟨sa, 0, none⟩) m m) (.slice WA wk wcap))) := Lib.hid (by rw [hW1]; exact h.wkr.blk.far (p := ⟨ra, b, none⟩) hrg.symm _)
    have HS1 : Hid (Blk W1 sa 44 vs.toArray) := Lib.hid (by rw [hW1]; exact h.stacks.far (p := ⟨ra, b, none⟩) hrs.symm _)
    have HO1 : Hid (W1.ownsRow B0 47 1 (.slice SA sn sc) sn (u8c s)) := Lib.hid (by rw [hW1]; exact own_far HS.out h.reached (by decide) b _)
    have hvl := h.vlen
    clear h hq ho hx hv d0 d1 d2 d3 d4 d8 c1 hz1
    go_enter Try.func62, Try.ntmps62
    go_upto_region 6 with fail
    rw [← HW1.out]
    have y7 : W1.cell? ⟨g, 7, none⟩ = some (.slice (some ⟨sa, 0, none⟩) m m) := HG1.out.cell 7
    have y8 : W1.cell? ⟨sa, b, none⟩ = some (.slice a q k) := by rw [HW1.out]; exact (World.cell?_setCell_other w _ ⟨sa, b, none⟩ _ (by intro e; injection e with e; exact hrs e)).trans e1
    have y9 : W1.frozen? ⟨sa, b, none⟩ = false := HS1.out.frozen b
    have HBW : Hid (∀ w2, Below W1.drew.heap.size W1.drew w2 → Below w.heap.size W1 w2) := Lib.hid fun w2 h2 => by
      have h3 : Below W1.heap.size W1 w2 := ((Below.refl _ _).drew).trans h2
      rw [HZ1.out] at h3
      exact h3
    have HOW : Hid (∀ (w2 : World) v xs q, w2.ownsRow W1.drew.heap.size 47 1 v q xs → w2.ownsRow w.heap.size 47 1 v q xs) := Lib.hid fun w2 v xs q h2 => by
      have h3 : w2.ownsRow W1.heap.size 47 1 v q xs := h2
      rw [HZ1.out] at h3
      exact h3
    clear d5 d6 d7 e0 e1 f0 hW1
    go_cut [] (fun wx => Hid (∃ vs', WS wx B g ra sa A n c rs r m (l.set b (some s)) wl vs' WA wk wcap ∧ Kp w wx (fun i => i = ra ∨ i = sa)))
    case first =>
      go_region_law (first
        | (go_simp; go_at_call 75; refine (clone_any B0 sn (.slice SA sn sc) s W1.drew HO1.out (by omega)).mono ?_; rintro e w2 ⟨A2, q2, c2, rfl, hq2, ho2, hb2⟩; have HQ2 := Lib.hid hq2; have hb2' := HBW.out w2 hb2; have z7 : w2.cell? ⟨g, 7, none⟩ = some (.slice (some ⟨sa, 0, none⟩) m m) := (hb2'.cell (p := ⟨g, 7, none⟩) hg).trans y7; have z8 : w2.cell? ⟨sa, b, none⟩ = some (.slice a q k) := (hb2'.cell (p := ⟨sa, b, none⟩) hsa).trans y8; have z9 : w2.frozen? ⟨sa, b, none⟩ = false := (hb2'.frozen (p := ⟨sa, b, none⟩) hsa).trans y9; have HO2 := Lib.hid (HOW.out _ _ _ _ ho2); have HB2 := Lib.hid hb2'; clear hq2 ho2 hb2 hb2'))
      all_goals
        go_wp2
        go_meet
      all_goals
        exact Lib.hid ⟨_, H.out.put HX.out (by rw [← HW1.out]; exact HB2.out) HQ2.out HO2.out⟩
    case rest =>
      obtain ⟨vs', hw, hkp⟩ := hcut.out
      have hgc := hw.wkr.blk.lt
      have v8 : wc.cell? ⟨g, 8, none⟩ = some (.slice WA wk wcap) := hw.wkr.cells.2.2.2.2.2.2.2.2
      have hle : B ≤ wc.heap.size := hw.wkr.le
      have HW := Lib.hid hw
      have HKP := Lib.hid hkp
      have HWA := Lib.hid (own_al hw.wait (.cells #[.int .i64 (b : Int)] 3))
      have HRD := Lib.hid (one_reads wc 3 [.int .i64 (b : Int)] 1 rfl)
      clear hw hkp hcut
      go_wp2_with (at_builtin; refine app_int rfl _ _ rfl B (.slice WA wk wcap) wk (intc wl) rfl HWA.out (wc.heap.size + 1) (some ⟨wc.heap.size, 0, none⟩) 1 1 [.int .i64 (b : Int)] rfl HRD.out (by simp [Value.oneCell']) (by omega) (by simp; omega) ?_; intro v' w8 hown hgr hor; obtain ⟨WA8, c8, rfl, p8, f8, hw8, hk8, hor8⟩ := HW.out.push _ hown hgr hor; have HW8 := Lib.hid hw8; have HK8 := Lib.hid hk8; have HOR := Lib.hid hor8; clear hown hgr hor hw8 hk8 hor8; refine Hid.out ?_)
      clear v8
      refine Lib.hid ?_
      go_wp2
      go_ret
      refine ⟨true, rfl, (HKP.out.wider (fun i _ hx => hx.elim (fun e => .inr (.inl e)) fun e => .inr (.inr (.inl e)))).trans HK8.out (fun _ _ h => h), .inr ⟨rfl, _, _, vs', WA8, wk + 1, c8, HW8.out, ?_, .inr ⟨HX.out, rfl, rfl⟩⟩⟩
      rcases HOR.out with ho | ⟨j, hj, hjs⟩
      · exact .inl ho
      · exact .inr ⟨j, hj, by have := HKP.out.size; omega⟩
end Go.Proofs.Ytdoabcmfblmklaa

/-
  Package kinds: goOn.
-/
namespace Go.Proofs.Ytdoabcmfblmklaa
set_option linter.unusedVariables false
open Go.ChangeShapes Go.WideShapes Go.ChangeAt Go.RowKit

theorem reads_block {w w' : World} {B size n : Nat} {A : Option Addr} {xs : List Value} (h : Reads w B size A n xs) (hk : 0 < n → ∀ ad, A = some ad → w'.heap[ad.block]? = w.heap[ad.block]?) : Reads w' B size A n xs :=
  ⟨h.1, fun hn => by
    obtain ⟨ad, hA, hb, hc⟩ := h.2 hn
    refine ⟨ad, hA, hb, fun j u hu => ?_⟩
    rw [← hc j u hu]
    exact World.cell?_of_block (by rw [block_of_add]; exact hk hn ad hA)⟩
theorem keep_set {l : List (Option Stk)} {b c : Nat} {t : Stk} {x : Option Stk} (hb : l[b]? = some none) (hc : l[c]? = some (some t)) : (l.set b x)[c]? = some (some t) := by
  rw [List.getElem?_set_ne (by rintro rfl; rw [hb] at hc; cases hc)]; exact hc
theorem succ_le {a m b : Nat} {fs : List Fn} {f : Fn} {i : Ins} (hb : b ∈ succK a i) (ha : a < m) (hm : m ≤ 256) (hi : insRef fs f i = true) (hc : f.code.length = m) (h0 : 0 ≤ i.arg) : b ≤ 1000 := by
  have ht : i.op = 21 ∨ i.op = 22 → i.arg.toNat ≤ 256 := fun ho => by
    unfold insRef at hi
    rw [if_neg (by omega), if_neg (by omega), if_pos ho] at hi
    have : i.arg < f.code.length := by simpa using hi
    omega
  unfold succK at hb
  split at hb
  · have := ht (.inl ‹_›); simp at hb; omega
  split at hb
  · have := ht (.inr ‹_›); simp at hb; omega
  split at hb
  · cases hb
  · simp at hb; omega

/-- going on from one instruction to its successors -/
structure GI (w w4 : World) (B g ra sa n c m : Nat) (A : Option Addr) (rs : List Raw) (r : Raw) (l : List (Option Stk)) (wl : List Nat) (wv : Value) (a : Nat) (i : Ins) (s s' : Stk) (SU : Option Addr) (sm : Nat) (S5 : Option Addr) (q5 c5 j : Nat) (wr : World) (l' : List (Option Stk)) (wl' : List Nat) (vs' : List Value) (WA' : Option Addr) (wk' wcap' : Nat) : Prop where
  ws : WS wr B g ra sa A n c rs r m l' wl' vs' WA' wk' wcap'
  inv : Inv (fns rs) r.fn l' (a :: wl')
  at_ : l'[a]? = some (some s)
  done : ∀ b ∈ (succK a i).take j, l'[b]? = some (some s')
  cnt_ : cnt l' ≤ cnt l
  meas : 2 * cnt l' + wl'.length ≤ 2 * cnt l + wl.length
  wait : (Value.slice WA' wk' wcap').ownBlock = wv.ownBlock ∨ ∃ q, (Value.slice WA' wk' wcap').ownBlock = some q ∧ w4.heap.size ≤ q
  kp : Kp w wr (Ex g ra sa wv)
  su : Reads wr w4.heap.size 1 SU sm (intc (succK a i))
  st : wr.ownsRow w.heap.size 47 1 (.slice S5 q5 c5) q5 (u8c s')
  size : w4.heap.size ≤ wr.heap.size
/-- what stays the same of it -/
structure GC (w w4 : World) (B g ra sa : Nat) (rs : List Raw) (r : Raw) (l : List (Option Stk)) (wv : Value) (a : Nat) (i : Ins) (s s' : Stk) (SU : Option Addr) (sm : Nat) : Prop where
  code : r.fn.code[a]? = some i
  after : afterK (fns rs) r.fn i s = some s'
  lt4 : w.heap.size ≤ w4.heap.size
  gl : g < w.heap.size
  rl : ra < w.heap.size
  sl : sa < w.heap.size
  wvl : ∀ q, wv.ownBlock = some q → q < w.heap.size
  sul : 0 < sm → ∀ ad, SU = some ad → w.heap.size ≤ ad.block ∧ ad.block < w4.heap.size
  short : s'.length + 2 * cnt l ≤ 2 * l.length
section
variable {w w4 wr w2 : World} {B g ra sa n c m a sm q5 c5 j b wk' wcap' : Nat} {A SU S5 WA' : Option Addr} {rs : List Raw} {r : Raw} {l l' : List (Option Stk)} {wl wl' : List Nat} {vs' : List Value} {wv : Value} {i : Ins} {s s' : Stk}
theorem GI.exle (h : GI w w4 B g ra sa n c m A rs r l wl wv a i s s' SU sm S5 q5 c5 j wr l' wl' vs' WA' wk' wcap') (hc : GC w w4 B g ra sa rs r l wv a i s s' SU sm) : ∀ q, q < w4.heap.size → Ex g ra sa (.slice WA' wk' wcap') q → Ex g ra sa wv q := by
  rintro q hq (rfl | rfl | rfl | hx)
  · exact .inl rfl
  · exact .inr (.inl rfl)
  · exact .inr (.inr (.inl rfl))
  · rcases h.wait with hw | ⟨q', hq', hz⟩
    · rw [hw] at hx; exact .inr (.inr (.inr hx))
    · rw [hx] at hq'; injection hq' with hq'; omega
theorem GI.next (h : GI w w4 B g ra sa n c m A rs r l wl wv a i s s' SU sm S5 q5 c5 j wr l' wl' vs' WA' wk' wcap') (hc : GC w w4 B g ra sa rs r l wv a i s s' SU sm) (hll : l'.length = l.length)
    (hj : (succK a i)[j]? = some b) (hk : Kp wr w2 (Ex g ra sa (.slice WA' wk' wcap'))) (hy : ArrYes wr B g ra sa A n c rs r m l' wl' WA' wk' wcap' b s' w2) :
    ∃ l2 wl2 vs2 WA2 wk2 wcap2, GI w w4 B g ra sa n c m A rs r l wl wv a i s s' SU sm S5 q5 c5 (j + 1) w2 l2 wl2 vs2 WA2 wk2 wcap2 := by
  obtain ⟨l2, wl2, vs2, WA2, wk2, wcap2, hws, hwt, hcase⟩ := hy
  have hmem : b ∈ succK a i := List.mem_of_getElem? hj
  have hrch : Reach (fns rs) r.fn b s' := h.inv.step h.at_ hc.code hc.after hmem
  have hwait : (Value.slice WA2 wk2 wcap2).ownBlock = wv.ownBlock ∨ ∃ q, (Value.slice WA2 wk2 wcap2).ownBlock = some q ∧ w4.heap.size ≤ q := by
    rcases hwt with ht | ⟨q, hq, hz⟩
    · rw [ht]; exact h.wait
    · exact .inr ⟨q, hq, by have := h.size; omega⟩
  have hkp : Kp w w2 (Ex g ra sa wv) := h.kp.trans hk fun q hq hx => h.exle hc q (by have := hc.lt4; omega) hx
  have hsu : Reads w2 w4.heap.size 1 SU sm (intc (succK a i)) := reads_block h.su fun hp ad had => by
    obtain ⟨h1, h2⟩ := hc.sul hp ad had
    refine hk.block _ (by have := h.size; omega) fun hx => ?_
    rcases h.exle hc _ h2 hx with hx | hx | hx | hx
    · have := hc.gl; omega
    · have := hc.rl; omega
    · have := hc.sl; omega
    · have := hc.wvl _ hx; omega
  have hst : w2.ownsRow w.heap.size 47 1 (.slice S5 q5 c5) q5 (u8c s') := hk.own h.st (kind_ne h.ws h.st)
  have hsz : w4.heap.size ≤ w2.heap.size := Nat.le_trans h.size hk.size
  have htake : (succK a i).take (j + 1) = (succK a i).take j ++ [b] := by rw [List.take_add_one, hj]; rfl
  rcases hcase with ⟨hb, rfl, rfl⟩ | ⟨hb, rfl, rfl⟩
  · refine ⟨_, _, vs2, WA2, wk2, wcap2, ⟨hws, h.inv, h.at_, fun x hx => ?_, h.cnt_, h.meas, hwait, hkp, hsu, hst, hsz⟩⟩
    rw [htake] at hx
    rcases List.mem_append.1 hx with hx | hx
    · exact h.done x hx
    · obtain rfl : x = b := by simpa using hx
      exact hb
  · have hcs := cnt_set hb s'
    have hself : (l'.set b (some s'))[b]? = some (some s') := by
      rw [List.getElem?_set]; simp [(List.getElem?_eq_some_iff.1 hb).1]
    refine ⟨_, _, vs2, WA2, wk2, wcap2, ⟨hws, ?_, keep_set hb h.at_, fun x hx => ?_, by have := h.cnt_; omega, ?_, hwait, hkp, hsu, hst, hsz⟩⟩
    · have := h.inv.reach hb hrch (by have := hc.short; have := h.cnt_; omega)
      exact this
    · rw [htake] at hx
      rcases List.mem_append.1 hx with hx | hx
      · exact keep_set hb (h.done x hx)
      · obtain rfl : x = b := by simpa using hx
        exact hself
    · have := h.meas; rw [List.length_append]; simp; omega
end
end Go.Proofs.Ytdoabcmfblmklaa

/-
  Package kinds: the rules that ask nothing of a stack.
-/
namespace Go.Proofs.Ytdoabcmfblmklaa
set_option linter.unusedVariables false
open Go.ChangeShapes Go.WideShapes Go.ChangeAt Go.RowKit

set_option maxRecDepth 100000 in
set_option maxHeartbeats 1600000 in
theorem isNumber_any (B : Nat) (r : Raw) (x : Int) (w : World) (h : RdF w B r) (hw : WfF r.fn) (hB : B ≤ w.heap.size) (h0 : 0 ≤ x) (h1 : x ≤ 9223372036854775807) :
    Calls Try.prog 60 #[.agg #[.int .i64 r.fn.params, .slice r.lo r.fn.locals.length r.lc, .bool r.fn.result, .int .i64 r.fn.keep, .slice r.co r.fn.code.length r.cc], .int .i64 x] w fun e w' => e = .returned (.bool (numL r.fn x)) ∧ Below w.heap.size w w' := by
  have HB : ∀ o : Obj, Hid (Below w.heap.size w (w.alloc o)) := fun o => (Below.refl _ _).alloc (Nat.le_refl _) o
  have wl := hw.ll
  have hL := h.locals
  obtain ⟨⟨p, ls, fl, kp, is⟩, lo, lc, co, cc⟩ := r
  simp only at wl hL ⊢
  unfold numL
  simp only
  clear h hw
  obtain ⟨k, rfl⟩ : ∃ k : Nat, x = (k : Int) := ⟨x.toNat, by omega⟩
  obtain ⟨nl, HNL⟩ : ∃ n, Hid (n = ls.length) := ⟨_, Lib.hid rfl⟩
  rw [← HNL.out] at wl hL ⊢
  by_cases c1 : k < nl
  · obtain ⟨b, off, y, rfl, hb, HX, x0⟩ := hL.byte c1
    have hbw : b < w.heap.size := by omega
    have g1 : decide (k < nl) = true := by simpa using c1
    have HR : Hid ((decide ((k : Int) < (nl : Int)) && decide (ls.getD (k : Int).toNat 0 = 0)) = decide (y = 0)) := Lib.hid (by
      rw [decide_eq_true (by omega : (k : Int) < (nl : Int)), Int.toNat_natCast, List.getD_eq_getElem?_getD, HX.out]; rfl)
    rw [HR.out]
    by_cases c2 : y = 0
    · have g2 : (y == 0) = true := by simpa using c2
      have HD : Hid (decide (y = 0) = true) := Lib.hid (by simpa using c2)
      rw [HD.out]
      clear c2
      go_enter Try.func60, Try.ntmps60
      go_wp2
      go_ret
      exact ⟨rfl, (HB _).out⟩
    · have g2 : (y == 0) = false := by simpa using c2
      have HD : Hid (decide (y = 0) = false) := Lib.hid (by simpa using c2)
      rw [HD.out]
      clear c2
      go_enter Try.func60, Try.ntmps60
      go_wp2
      go_ret
      exact ⟨rfl, (HB _).out⟩
  · have g1 : decide (k < nl) = false := by simpa using c1
    have HR : Hid ((decide ((k : Int) < (nl : Int)) && decide (ls.getD (k : Int).toNat 0 = 0)) = false) := Lib.hid (by
      rw [decide_eq_false (by omega : ¬ (k : Int) < (nl : Int))]; rfl)
    rw [HR.out]
    go_enter Try.func60, Try.ntmps60
    go_wp2
    go_ret
    exact ⟨rfl, (HB _).out⟩
theorem isDef1 (i : Ins) (b : Bool) (w : World) (hb : decide (i.op = 25) = b) : Calls Try.prog 73 #[.agg #[.int .u8 i.op, .int .i64 i.arg, .int .u64 i.imm]] w fun e w' => e = .returned (.bool b) ∧ Below w.heap.size w w' := by
  have HB : ∀ o : Obj, Hid (Below w.heap.size w (w.alloc o)) := fun o => (Below.refl _ _).alloc (Nat.le_refl _) o
  obtain ⟨op, arg, imm⟩ := i
  simp only at hb ⊢
  have g : (op == 25) = b := by rw [← hb]; rfl
  clear hb
  go_enter Try.func73, Try.ntmps73
  go_wp2
  go_ret
  exact ⟨rfl, (HB _).out⟩
def IdxPost (w : World) (yes : Bool) (e : Ending) (w' : World) : Prop := ∃ x : Int, e = .returned (.int .i64 x) ∧ decide (x ≥ 0) = yes ∧ Below w.heap.size w w'
set_option maxRecDepth 100000 in
set_option maxHeartbeats 1600000 in
theorem index_any (B : Nat) (A : Option Addr) (n c : Nat) (is : List Ins) (w : World) (h : Reads w B 3 A n (insc is)) (hB : B ≤ w.heap.size) (hl : is.length = n) (hn : n ≤ 140737488351232) :
    Calls Try.prog 82 #[.slice A n c, .func (.func 73) #[] #[]] w (IdxPost w (is.any fun i => decide (i.op = 25))) := by
  have H := Lib.hid h
  have HL := Lib.hid hl
  clear h hl
  go_enter Try.func82, Try.ntmps82
  go_wp2
  go_loopw [8] (fun i wr => ∃ k : Nat, k ≤ n ∧ i = .int .i64 k ∧ Hid (((is.take k).any fun i => decide (i.op = 25)) = false) ∧ Hid (Below w.heap.size w wr)) (fun i _ => n - (intOf i).toNat)
  case atStart => exact ⟨0, Nat.zero_le _, rfl, rfl, Below.refl _ _⟩
  case round =>
    obtain ⟨k, hk, rfl, HT, HB⟩ := hrel
    by_cases hlt : k < n
    · obtain ⟨b, off, i, rfl, hb, HX, x0, x1, x2⟩ := (H.out.below (HB.out.mono hB)).ins hlt
      have hz := HB.out.size
      cases hp : decide (i.op = 25) with
      | true =>
        have HA : Hid ((is.any fun i => decide (i.op = 25)) = true) := Lib.hid (List.any_eq_true.2 ⟨i, List.mem_of_getElem? HX.out, hp⟩)
        have HP := Lib.hid hp
        clear hp
        go_wp2_with (go_at_call 73; refine (isDef1 i true _ HP.out).mono ?_; rintro e w2 ⟨rfl, hb2⟩; refine Hid.out ?_)
        have HB3 := Lib.hid (HB.out.trans (hb2.mono hz))
        clear hb2
        refine Lib.hid ?_
        go_wp2
        go_ret
        exact ⟨_, rfl, by rw [HA.out]; simp, HB3.out⟩
      | false =>
        have HT1 : Hid (((is.take (k + 1)).any fun i => decide (i.op = 25)) = false) := Lib.hid (by rw [List.take_add_one, HX.out, List.any_append, HT.out]; simp [hp])
        have HP := Lib.hid hp
        clear hp
        go_wp2_with (go_at_call 73; refine (isDef1 i false _ HP.out).mono ?_; rintro e w2 ⟨rfl, hb2⟩; refine Hid.out ?_)
        have HB3 := Lib.hid (HB.out.trans (hb2.mono hz))
        clear hb2
        refine Lib.hid ?_
        go_wp2
        go_roundw
        case rel => exact ⟨k + 1, by omega, by go_num, HT1, HB3⟩
        case measure => simp [intOf]; omega
    · obtain rfl : n = k := by omega
      clear hlt hk
      have HA : Hid ((is.any fun i => decide (i.op = 25)) = false) := Lib.hid (by
        have h := HT.out
        rw [List.take_of_length_le (by rw [HL.out]; omega)] at h
        exact h)
      go_wp2
      go_ret
      exact ⟨_, rfl, by rw [HA.out]; rfl, HB.out⟩
set_option maxRecDepth 100000 in
set_option maxHeartbeats 1600000 in
theorem contains_any (B : Nat) (A : Option Addr) (n c : Nat) (is : List Ins) (w : World) (h : Reads w B 3 A n (insc is)) (hB : B ≤ w.heap.size) (hl : is.length = n) (hn : n ≤ 140737488351232) :
    Calls Try.prog 72 #[.slice A n c, .func (.func 73) #[] #[]] w fun e w' => e = .returned (.bool (is.any fun i => decide (i.op = 25))) ∧ Below w.heap.size w w' := by
  obtain ⟨b, HB⟩ : ∃ b, Hid (b = is.any fun i => decide (i.op = 25)) := ⟨_, Lib.hid rfl⟩
  have HI := Lib.hid (index_any B A n c is w h hB hl hn)
  rw [← HB.out] at HI ⊢
  clear h hl
  go_enter Try.func72, Try.ntmps72
  go_wp2_with (go_at_call 82; refine HI.out.mono ?_; rintro e w2 ⟨x, rfl, hx, hb2⟩; refine Hid.out ?_)
  have HX := Lib.hid hb2
  clear hb2
  have g : decide (0 ≤ x) = b := hx
  refine Lib.hid ?_
  go_wp2
  go_ret
  exact ⟨by first | rfl | rw [← hx], HX.out⟩
set_option maxRecDepth 100000 in
set_option maxHeartbeats 1600000 in
theorem hasDefer_any (B : Nat) (r : Raw) (w : World) (h : RdF w B r) (hw : WfF r.fn) (hB : B ≤ w.heap.size) :
    Calls Try.prog 59 #[.agg #[.int .i64 r.fn.params, .slice r.lo r.fn.locals.length r.lc, .bool r.fn.result, .int .i64 r.fn.keep, .slice r.co r.fn.code.length r.cc]] w fun e w' => e = .returned (.bool (hasDef r.fn)) ∧ Below w.heap.size w w' := by
  have HB : ∀ o : Obj, Hid (Below w.heap.size w (w.alloc o)) := fun o => (Below.refl _ _).alloc (Nat.le_refl _) o
  have H : Hid (∀ o : Obj, Reads (w.alloc o) B 3 r.co r.fn.code.length (insc r.fn.code)) := Lib.hid fun o => h.code.alloc hB o
  have wc : r.fn.code.length ≤ 140737488351232 := by have := hw.cl; omega
  unfold hasDef
  clear h hw
  obtain ⟨⟨p, ls, fl, kp, is⟩, lo, lc, co, cc⟩ := r
  simp only at wc H ⊢
  go_enter Try.func59, Try.ntmps59
  go_wp2_with (go_at_call 72; refine (contains_any B co is.length cc is _ (H.out _) (by simp; omega) rfl wc).mono ?_; rintro e w2 ⟨rfl, hb2⟩; refine Hid.out ?_)
  have HX := Lib.hid ((HB (.cells #[.int .i64 p, .slice lo ls.length lc, .bool fl, .int .i64 kp, .slice co is.length cc] 46)).out.trans (hb2.mono (by simp)))
  clear hb2
  refine Lib.hid ?_
  go_wp2
  go_ret
  exact ⟨rfl, HX.out⟩
end Go.Proofs.Ytdoabcmfblmklaa

/-
  Package kinds: refersWell.
-/
namespace Go.Proofs.Ytdoabcmfblmklaa
set_option linter.unusedVariables false
open Go.ChangeShapes Go.WideShapes Go.ChangeAt Go.RowKit

theorem isNumber_is (B : Nat) (r : Raw) (x : Int) (b : Bool) (w : World) (h : RdF w B r) (hw : WfF r.fn) (hB : B ≤ w.heap.size) (h0 : 0 ≤ x) (h1 : x ≤ 9223372036854775807) (hb : numL r.fn x = b) :
    Calls Try.prog 60 #[.agg #[.int .i64 r.fn.params, .slice r.lo r.fn.locals.length r.lc, .bool r.fn.result, .int .i64 r.fn.keep, .slice r.co r.fn.code.length r.cc], .int .i64 x] w fun e w' => e = .returned (.bool b) ∧ Below w.heap.size w w' := by
  rw [← hb]; exact isNumber_any B r x w h hw hB h0 h1
theorem hasDefer_is (B : Nat) (r : Raw) (b : Bool) (w : World) (h : RdF w B r) (hw : WfF r.fn) (hB : B ≤ w.heap.size) (hb : hasDef r.fn = b) :
    Calls Try.prog 59 #[.agg #[.int .i64 r.fn.params, .slice r.lo r.fn.locals.length r.lc, .bool r.fn.result, .int .i64 r.fn.keep, .slice r.co r.fn.code.length r.cc]] w fun e w' => e = .returned (.bool b) ∧ Below w.heap.size w w' := by
  rw [← hb]; exact hasDefer_any B r w h hw hB
set_option maxRecDepth 100000 in
set_option maxHeartbeats 1600000 in
theorem keepsWell_any (B : Nat) (r : Raw) (w : World) (h : RdF w B r) (hw : WfF r.fn) (hB : B ≤ w.heap.size) (hk : -1 ≤ r.fn.keep) :
    Calls Try.prog 33 #[.agg #[.int .i64 r.fn.params, .slice r.lo r.fn.locals.length r.lc, .bool r.fn.result, .int .i64 r.fn.keep, .slice r.co r.fn.code.length r.cc]] w fun e w' => e = .returned (.bool (keepsB r.fn)) ∧ Below w.heap.size w w' := by
  have HB : ∀ o : Obj, Hid (Below w.heap.size w (w.alloc o)) := fun o => (Below.refl _ _).alloc (Nat.le_refl _) o
  have H : Hid (∀ o : Obj, RdF (w.alloc o) B r) := Lib.hid fun o => h.keep fun p hp => World.cell?_alloc_lt w o p (by omega)
  have HW := Lib.hid hw
  have hk1 := hw.k1
  clear h hw
  unfold keepsB
  by_cases c1 : r.fn.keep = -1
  · rw [if_pos c1]
    cases hr : r.fn.result with
    | false =>
      obtain ⟨⟨p, ls, fl, kp, is⟩, lo, lc, co, cc⟩ := r
      simp only at c1 hr H HW hk1 ⊢
      subst c1 hr
      go_enter Try.func33, Try.ntmps33
      go_wp2
      go_ret
      exact ⟨rfl, (HB _).out⟩
    | true =>
      obtain ⟨d, HD⟩ : ∃ d, Hid (hasDef r.fn = d) := ⟨_, Lib.hid rfl⟩
      rw [HD.out]
      obtain ⟨⟨p, ls, fl, kp, is⟩, lo, lc, co, cc⟩ := r
      simp only at c1 hr H HW HD hk1 ⊢
      subst c1 hr
      have HC := fun o => Lib.hid (hasDefer_is B ⟨⟨p, ls, true, -1, is⟩, lo, lc, co, cc⟩ d (w.alloc o) (H.out o) HW.out (by simp; omega) HD.out)
      go_enter Try.func33, Try.ntmps33
      go_wp2_with (go_at_call 59; refine (HC _).out.mono ?_; rintro e w2 ⟨rfl, hb2⟩; refine Hid.out ?_)
      have HX := Lib.hid ((HB (.cells #[.int .i64 p, .slice lo ls.length lc, .bool true, .int .i64 (-1), .slice co is.length cc] 46)).out.trans (hb2.mono (by simp)))
      clear hb2
      refine Lib.hid ?_
      go_wp2
      go_ret
      exact ⟨rfl, HX.out⟩
  · rw [if_neg c1]
    have h0 : 0 ≤ r.fn.keep := by omega
    obtain ⟨d, HD⟩ : ∃ d, Hid (numL r.fn r.fn.keep = d) := ⟨_, Lib.hid rfl⟩
    rw [HD.out]
    have g1 : (r.fn.keep == -1) = false := by simpa using c1
    obtain ⟨⟨p, ls, fl, kp, is⟩, lo, lc, co, cc⟩ := r
    simp only at g1 h0 H HW HD hk1 ⊢
    clear c1 hk
    have HC := fun o => Lib.hid (isNumber_is B ⟨⟨p, ls, fl, kp, is⟩, lo, lc, co, cc⟩ kp d (w.alloc o) (H.out o) HW.out (by simp; omega) h0 hk1 HD.out)
    go_enter Try.func33, Try.ntmps33
    go_wp2_with (go_at_call 60; refine (HC _).out.mono ?_; rintro e w2 ⟨rfl, hb2⟩; refine Hid.out ?_)
    have HX := Lib.hid ((HB (.cells #[.int .i64 p, .slice lo ls.length lc, .bool fl, .int .i64 kp, .slice co is.length cc] 46)).out.trans (hb2.mono (by simp)))
    clear hb2
    refine Lib.hid ?_
    go_wp2
    go_ret
    exact ⟨rfl, HX.out⟩

theorem below_2 (w : World) (t u : TypeId) (cs ds : Array Value) : Below w.heap.size w ((w.alloc (.cells cs t)).alloc (.cells ds u)) := ((Below.refl _ _).alloc (Nat.le_refl _) _).alloc (by simp) _
set_option maxRecDepth 100000 in
set_option maxHeartbeats 3200000 in
theorem instrRef_any (B : Nat) (r : Raw) (i : Ins) (fs : List Fn) (m : Nat) (w : World) (h : RdF w B r) (hw : WfF r.fn) (hB : B ≤ w.heap.size) (hm : fs.length = m) (hm1 : m ≤ 255) (h0 : 0 ≤ i.arg) (h1 : i.arg ≤ 9223372036854775807) :
    Calls Try.prog 61 #[.agg #[.int .u8 i.op, .int .i64 i.arg, .int .u64 i.imm], .agg #[.int .i64 r.fn.params, .slice r.lo r.fn.locals.length r.lc, .bool r.fn.result, .int .i64 r.fn.keep, .slice r.co r.fn.code.length r.cc], .int .i64 m] w fun e w' => e = .returned (.bool (insRef fs r.fn i)) ∧ Below w.heap.size w w' := by
  have wl := hw.ll
  have wc : r.fn.code.length ≤ 140737488351232 := by have := hw.cl; omega
  have H : Hid (∀ o o' : Obj, RdF ((w.alloc o).alloc o') B r) := Lib.hid fun o o' => (h.keep fun p hp => World.cell?_alloc_lt w o p (by omega)).keep fun p hp => World.cell?_alloc_lt _ o' p (by simp; omega)
  have HW := Lib.hid hw
  clear h hw
  obtain ⟨op, arg, imm⟩ := i
  simp only at h0 h1 ⊢
  obtain ⟨a, rfl⟩ : ∃ a : Nat, arg = (a : Int) := ⟨arg.toNat, by omega⟩
  unfold insRef
  simp only
  by_cases c1 : op = 2 ∨ op = 3
  · rw [if_pos c1]
    obtain ⟨⟨p, ls, fl, kp, is⟩, lo, lc, co, cc⟩ := r
    simp only at wl wc H HW ⊢
    obtain ⟨nl, HNL⟩ : ∃ n, Hid (n = ls.length) := ⟨_, Lib.hid rfl⟩
    rw [← HNL.out] at wl ⊢
    obtain ⟨d, hd⟩ : ∃ d, decide ((a : Int) < (nl : Int)) = d := ⟨_, rfl⟩
    have hd2 : decide (a < nl) = d := by rw [← hd]; simp
    rw [hd]
    clear hd
    rcases c1 with rfl | rfl
    all_goals
      go_enter Try.func61, Try.ntmps61
      go_wp2
      go_ret
      exact ⟨rfl, below_2 _ _ _ _ _⟩
  rw [if_neg c1]
  by_cases c2 : op = 4
  · rw [if_pos c2]
    subst c2
    obtain ⟨d, HD⟩ : ∃ d, Hid (numL r.fn (a : Int) = d) := ⟨_, Lib.hid rfl⟩
    rw [HD.out]
    have HC := fun o o' => Lib.hid (isNumber_is B r (a : Int) d ((w.alloc o).alloc o') (H.out o o') HW.out (by simp; omega) h0 h1 HD.out)
    obtain ⟨⟨p, ls, fl, kp, is⟩, lo, lc, co, cc⟩ := r
    simp only at HC ⊢
    go_enter Try.func61, Try.ntmps61
    go_wp2_with (go_at_call 60; refine (HC _ _).out.mono ?_; rintro e w2 ⟨rfl, hb2⟩; refine Hid.out ?_)
    have HX := Lib.hid ((below_2 w _ _ _ _).trans (hb2.mono (by simp; omega)))
    clear hb2
    refine Lib.hid ?_
    go_wp2
    go_ret
    exact ⟨rfl, HX.out⟩
  rw [if_neg c2]
  by_cases c3 : op = 21 ∨ op = 22
  · rw [if_pos c3]
    obtain ⟨⟨p, ls, fl, kp, is⟩, lo, lc, co, cc⟩ := r
    simp only at wl wc H HW ⊢
    obtain ⟨nl, HNL⟩ : ∃ n, Hid (n = is.length) := ⟨_, Lib.hid rfl⟩
    rw [← HNL.out] at wc ⊢
    obtain ⟨d, hd⟩ : ∃ d, decide ((a : Int) < (nl : Int)) = d := ⟨_, rfl⟩
    have hd2 : decide (a < nl) = d := by rw [← hd]; simp
    rw [hd]
    clear hd c1 c2
    rcases c3 with rfl | rfl
    all_goals
      go_enter Try.func61, Try.ntmps61
      go_wp2
      go_ret
      exact ⟨rfl, below_2 _ _ _ _ _⟩
  rw [if_neg c3]
  by_cases c4 : op = 23 ∨ op = 25
  · rw [if_pos c4, hm]
    obtain ⟨⟨p, ls, fl, kp, is⟩, lo, lc, co, cc⟩ := r
    simp only at wl wc H HW ⊢
    obtain ⟨d, hd⟩ : ∃ d, decide ((a : Int) < (m : Int)) = d := ⟨_, rfl⟩
    have hd2 : decide (a < m) = d := by rw [← hd]; simp
    rw [hd]
    clear hd c1 c2 c3 hm
    rcases c4 with rfl | rfl
    all_goals
      go_enter Try.func61, Try.ntmps61
      go_wp2
      go_ret
      exact ⟨rfl, below_2 _ _ _ _ _⟩
  rw [if_neg c4]
  obtain ⟨⟨p, ls, fl, kp, is⟩, lo, lc, co, cc⟩ := r
  simp only at wl wc H HW ⊢
  have g1 : (op == 2) = false := by simp; omega
  have g2 : (op == 3) = false := by simp; omega
  have g3 : (op == 4) = false := by simp; omega
  have g4 : (op == 21) = false := by simp; omega
  have g5 : (op == 22) = false := by simp; omega
  have g6 : (op == 23) = false := by simp; omega
  have g7 : (op == 25) = false := by simp; omega
  clear c1 c2 c3 c4 hm
  go_enter Try.func61, Try.ntmps61
  go_wp2
  go_ret
  exact ⟨rfl, below_2 _ _ _ _ _⟩
theorem instrRef_is (B : Nat) (r : Raw) (i : Ins) (b : Bool) (fs : List Fn) (m : Nat) (w : World) (h : RdF w B r) (hw : WfF r.fn) (hB : B ≤ w.heap.size) (hm : fs.length = m) (hm1 : m ≤ 255) (h0 : 0 ≤ i.arg) (h1 : i.arg ≤ 9223372036854775807) (hb : insRef fs r.fn i = b) :
    Calls Try.prog 61 #[.agg #[.int .u8 i.op, .int .i64 i.arg, .int .u64 i.imm], .agg #[.int .i64 r.fn.params, .slice r.lo r.fn.locals.length r.lc, .bool r.fn.result, .int .i64 r.fn.keep, .slice r.co r.fn.code.length r.cc], .int .i64 m] w fun e w' => e = .returned (.bool b) ∧ Below w.heap.size w w' := by
  rw [← hb]; exact instrRef_any B r i fs m w h hw hB hm hm1 h0 h1
end Go.Proofs.Ytdoabcmfblmklaa

/-
  Package kinds: codeRefersWell, refersWell.
-/
namespace Go.Proofs.Ytdoabcmfblmklaa
set_option linter.unusedVariables false
open Go.ChangeShapes Go.WideShapes Go.ChangeAt Go.RowKit

set_option maxRecDepth 100000 in
set_option maxHeartbeats 3200000 in
theorem codeRef_any (B : Nat) (r : Raw) (fs : List Fn) (m : Nat) (w : World) (h : RdF w B r) (hw : WfF r.fn) (hB : B ≤ w.heap.size) (hm : fs.length = m) (hm1 : m ≤ 255) (h0 : ∀ i ∈ r.fn.code, 0 ≤ i.arg) :
    Calls Try.prog 34 #[.agg #[.int .i64 r.fn.params, .slice r.lo r.fn.locals.length r.lc, .bool r.fn.result, .int .i64 r.fn.keep, .slice r.co r.fn.code.length r.cc], .int .i64 m] w fun e w' => e = .returned (.bool (r.fn.code.all (insRef fs r.fn))) ∧ Below w.heap.size w w' := by
  have H := Lib.hid h
  have HW := Lib.hid hw
  have HM := Lib.hid hm
  have H0 := Lib.hid h0
  have wl := hw.ll
  have wc : r.fn.code.length ≤ 140737488351232 := by have := hw.cl; omega
  clear h hw hm h0
  obtain ⟨b, HBV⟩ : ∃ b, Hid (b = r.fn.code.all (insRef fs r.fn)) := ⟨_, Lib.hid rfl⟩
  rw [← HBV.out]
  obtain ⟨⟨p, ls, fl, kp, is⟩, lo, lc, co, cc⟩ := r
  simp only at wl wc ⊢
  obtain ⟨n, HN⟩ : ∃ n, Hid (n = is.length) := ⟨_, Lib.hid rfl⟩
  obtain ⟨nl, HNL⟩ : ∃ n, Hid (n = ls.length) := ⟨_, Lib.hid rfl⟩
  rw [← HN.out] at wc ⊢
  rw [← HNL.out] at wl ⊢
  have HC := Lib.hid H.out.code
  simp only at HC
  rw [← HN.out] at HC
  have HX0 : Hid (Blk (w.alloc (.cells #[.int .i64 p, .slice lo nl lc, .bool fl, .int .i64 kp, .slice co n cc] 46)) w.heap.size 46 #[.int .i64 p, .slice lo nl lc, .bool fl, .int .i64 kp, .slice co n cc]) := Lib.hid (Blk.new w _ _)
  have HB0 : Hid (Below w.heap.size w (w.alloc (.cells #[.int .i64 p, .slice lo nl lc, .bool fl, .int .i64 kp, .slice co n cc] 46))) := Lib.hid ((Below.refl _ _).alloc (Nat.le_refl _) _)
  go_enter Try.func34, Try.ntmps34
  go_wp2
  go_loopw [10] (fun i wr => ∃ k : Nat, k ≤ n ∧ i = .int .i64 k ∧ Hid ((is.take k).all (insRef fs ⟨p, ls, fl, kp, is⟩) = true) ∧ Hid (Below w.heap.size w wr) ∧ Hid (Blk wr w.heap.size 46 #[.int .i64 p, .slice lo nl lc, .bool fl, .int .i64 kp, .slice co n cc])) (fun i _ => n - (intOf i).toNat)
  case atStart => exact ⟨0, Nat.zero_le _, rfl, rfl, HB0, HX0⟩
  case round =>
    clear HX0 HB0
    obtain ⟨k, hk, rfl, HT, HB, HX⟩ := hrel
    have hz := HX.out.lt
    by_cases hlt : k < n
    · obtain ⟨b1, off, i, rfl, hb, HI, x0, x1, x2⟩ := (HC.out.below (HB.out.mono hB)).ins hlt
      have hbr : b1 < wr.heap.size := by omega
      have hmem : i ∈ is := List.mem_of_getElem? HI.out
      have HWI := Lib.hid (HW.out.code i hmem)
      have HA0 := Lib.hid (H0.out i hmem)
      have HX1 := HX.out.alloc (.cells #[.int .u8 i.op, .int .i64 i.arg, .int .u64 i.imm] 43)
      have d0 := HX1.cell 0
      have d1 := HX1.cell 1
      have d2 := HX1.cell 2
      have d3 := HX1.cell 3
      have d4 := HX1.cell 4
      have HX1 := Lib.hid HX1
      have HB1 : Hid (Below w.heap.size w (wr.alloc (.cells #[.int .u8 i.op, .int .i64 i.arg, .int .u64 i.imm] 43))) := Lib.hid (HB.out.alloc (by omega) _)
      have HR1 : Hid (RdF (wr.alloc (.cells #[.int .u8 i.op, .int .i64 i.arg, .int .u64 i.imm] 43)) B ⟨⟨p, ls, fl, kp, is⟩, lo, lc, some ⟨b1, off, none⟩, cc⟩) := Lib.hid (H.out.below (HB1.out.mono hB))
      cases hp : insRef fs ⟨p, ls, fl, kp, is⟩ i with
      | true =>
        have HT1 : Hid ((is.take (k + 1)).all (insRef fs ⟨p, ls, fl, kp, is⟩) = true) := Lib.hid (by rw [List.take_add_one, HI.out, List.all_append, HT.out]; simp [hp])
        have HC1 := Lib.hid (instrRef_is B ⟨⟨p, ls, fl, kp, is⟩, lo, lc, some ⟨b1, off, none⟩, cc⟩ i true fs m _ HR1.out HW.out (by simp; omega) HM.out hm1 HA0.out HWI.out.a1 hp)
        simp only at HC1
        rw [← HN.out, ← HNL.out] at HC1
        clear hp
        go_wp2_with (go_at_call 61; refine HC1.out.mono ?_; rintro e w2 ⟨rfl, hb2⟩; refine Hid.out ?_)
        have HB3 := Lib.hid (HB1.out.trans (hb2.mono (by simp; omega)))
        have HX3 := Lib.hid (HX1.out.below hb2 (by simp; omega))
        clear hb2 d0 d1 d2 d3 d4
        refine Lib.hid ?_
        go_wp2
        go_roundw
        case rel => exact ⟨k + 1, by omega, by go_num, HT1, HB3, HX3⟩
        case measure => simp [intOf]; omega
      | false =>
        have HA : Hid (b = false) := Lib.hid (by
          rw [HBV.out, List.all_eq_false]
          exact ⟨i, hmem, by simp [hp]⟩)
        have HC1 := Lib.hid (instrRef_is B ⟨⟨p, ls, fl, kp, is⟩, lo, lc, some ⟨b1, off, none⟩, cc⟩ i false fs m _ HR1.out HW.out (by simp; omega) HM.out hm1 HA0.out HWI.out.a1 hp)
        simp only at HC1
        rw [← HN.out, ← HNL.out] at HC1
        clear hp
        go_wp2_with (go_at_call 61; refine HC1.out.mono ?_; rintro e w2 ⟨rfl, hb2⟩; refine Hid.out ?_)
        have HB3 := Lib.hid (HB1.out.trans (hb2.mono (by simp; omega)))
        clear hb2 d0 d1 d2 d3 d4
        refine Lib.hid ?_
        go_wp2
        go_ret
        exact ⟨by rw [HA.out]; rfl, HB3.out⟩
    · obtain rfl : n = k := by omega
      clear hlt hk
      have HA : Hid (b = true) := Lib.hid (by
        have h := HT.out
        rw [List.take_of_length_le (by rw [← HN.out]; omega)] at h
        rw [HBV.out]
        exact h)
      go_wp2
      go_ret
      exact ⟨by rw [HA.out]; rfl, HB.out⟩
theorem codeRef_is (B : Nat) (r : Raw) (b : Bool) (fs : List Fn) (m : Nat) (w : World) (h : RdF w B r) (hw : WfF r.fn) (hB : B ≤ w.heap.size) (hm : fs.length = m) (hm1 : m ≤ 255) (h0 : ∀ i ∈ r.fn.code, 0 ≤ i.arg) (hb : r.fn.code.all (insRef fs r.fn) = b) :
    Calls Try.prog 34 #[.agg #[.int .i64 r.fn.params, .slice r.lo r.fn.locals.length r.lc, .bool r.fn.result, .int .i64 r.fn.keep, .slice r.co r.fn.code.length r.cc], .int .i64 m] w fun e w' => e = .returned (.bool b) ∧ Below w.heap.size w w' := by
  rw [← hb]; exact codeRef_any B r fs m w h hw hB hm hm1 h0
theorem keepsWell_is (B : Nat) (r : Raw) (b : Bool) (w : World) (h : RdF w B r) (hw : WfF r.fn) (hB : B ≤ w.heap.size) (hk : -1 ≤ r.fn.keep) (hb : keepsB r.fn = b) :
    Calls Try.prog 33 #[.agg #[.int .i64 r.fn.params, .slice r.lo r.fn.locals.length r.lc, .bool r.fn.result, .int .i64 r.fn.keep, .slice r.co r.fn.code.length r.cc]] w fun e w' => e = .returned (.bool b) ∧ Below w.heap.size w w' := by
  rw [← hb]; exact keepsWell_any B r w h hw hB hk
theorem okI_arg {i : Ins} (h : okI i = true) : 0 ≤ i.arg := (fitB_iff.1 (okI_iff.1 h).2.1).1

set_option maxRecDepth 100000 in
set_option maxHeartbeats 3200000 in
theorem refers_any (B : Nat) (A : Option Addr) (n c : Nat) (rs : List Raw) (w : World) (h : RdP w B A n rs) (hB : B ≤ w.heap.size) (hok : okP (fns rs) = true) :
    Calls Try.prog 20 #[.agg #[.slice A n c]] w fun e w' => e = .returned (.bool (refB (fns rs))) ∧ Below w.heap.size w w' := by
  have H := Lib.hid h
  obtain ⟨l0, l1, HOK⟩ := okP_iff.1 hok
  rw [length_fns, h.len] at l0 l1
  have HOK := Lib.hid HOK
  have HN : Hid ((fns rs).length = n) := Lib.hid (by rw [length_fns, h.len])
  clear h hok
  obtain ⟨b, HBV⟩ : ∃ b, Hid (b = refB (fns rs)) := ⟨_, Lib.hid rfl⟩
  rw [← HBV.out]
  obtain ⟨ba, off, r, rfl, hba, HX, HRF, HWF, y0, y1, y2, y3, y4⟩ := H.out.fn (k := 0) l0
  simp only [Nat.zero_mul, Nat.add_zero] at y0 y1 y2 y3 y4
  have hbw : ba < w.heap.size := by omega
  have HX0 : Hid (Blk ((w.alloc (.cells #[.slice (some ⟨ba, off, none⟩) n c] 24)).alloc (.cells #[.int .i64 r.fn.params, .slice r.lo r.fn.locals.length r.lc, .bool r.fn.result, .int .i64 r.fn.keep, .slice r.co r.fn.code.length r.cc] 46)) w.heap.size 24 #[.slice (some ⟨ba, off, none⟩) n c]) := Lib.hid ((Blk.new w _ _).alloc _)
  have HB0 : Hid (Below w.heap.size w ((w.alloc (.cells #[.slice (some ⟨ba, off, none⟩) n c] 24)).alloc (.cells #[.int .i64 r.fn.params, .slice r.lo r.fn.locals.length r.lc, .bool r.fn.result, .int .i64 r.fn.keep, .slice r.co r.fn.code.length r.cc] 46))) := Lib.hid (below_2 _ _ _ _ _)
  obtain ⟨f0, fs', HFS⟩ : ∃ f0 fs', Hid (fns rs = f0 :: fs' ∧ f0 = r.fn) := by
    have hq : (fns rs)[0]? = some r.fn := by unfold fns; rw [List.getElem?_map, HX.out]; rfl
    cases hf : fns rs with
    | nil => rw [hf] at hq; cases hq
    | cons f0 fs' => rw [hf] at hq; exact ⟨f0, fs', rfl, by simpa using hq⟩
  have HMB : Hid (mainB (fns rs) = (decide (r.fn.params ≤ 0) && !r.fn.result)) := Lib.hid (by rw [HFS.out.1]; unfold mainB; rw [HFS.out.2])
  by_cases c1 : 0 < r.fn.params
  · have g1 : decide (0 < r.fn.params) = true := by simpa using c1
    have HA : Hid (b = false) := Lib.hid (by rw [HBV.out]; unfold refB; rw [HMB.out, decide_eq_false (by omega)]; rfl)
    go_enter Try.func20, Try.ntmps20
    go_wp2
    go_ret
    exact ⟨by rw [HA.out]; rfl, HB0.out⟩
  have g1 : decide (0 < r.fn.params) = false := by simpa using c1
  cases hres : r.fn.result with
  | true =>
    rw [hres] at y2 HX0 HB0
    have HA : Hid (b = false) := Lib.hid (by rw [HBV.out]; unfold refB; rw [HMB.out, hres]; simp)
    clear hres
    go_enter Try.func20, Try.ntmps20
    go_wp2
    go_ret
    exact ⟨by rw [HA.out]; rfl, HB0.out⟩
  | false =>
    rw [hres] at y2 HX0 HB0
    have HMT : Hid (mainB (fns rs) = true) := Lib.hid (by rw [HMB.out, hres, decide_eq_true (by omega)]; rfl)
    clear hres
    go_enter Try.func20, Try.ntmps20
    go_wp2
    go_loopw [20] (fun i wr => ∃ k : Nat, k ≤ n ∧ i = .int .i64 k ∧ Hid (((fns rs).take k).all (fnRef (fns rs)) = true) ∧ Hid (Below w.heap.size w wr) ∧ Hid (Blk wr w.heap.size 24 #[.slice (some ⟨ba, off, none⟩) n c])) (fun i _ => n - (intOf i).toNat)
    case atStart => exact ⟨0, Nat.zero_le _, rfl, rfl, HB0, HX0⟩
    case round =>
      clear HX0 HB0 y0 y1 y2 y3 y4
      obtain ⟨k, hk, rfl, HT, HB, HXP⟩ := hrel
      have hz := HXP.out.lt
      by_cases hlt : k < n
      · obtain ⟨ba', off', s, hA', hb', HS, HSF, HSW, x0, x1, x2, x3, x4⟩ := (H.out.below (HB.out.mono hB)).fn hlt
        obtain ⟨rfl, rfl⟩ : ba = ba' ∧ off = off' := by injection hA' with hA'; injection hA' with h1 h2; exact ⟨h1, h2⟩
        clear hA' hb'
        have hbr : ba < wr.heap.size := by omega
        have HFN : Hid ((fns rs)[k]? = some s.fn) := Lib.hid (by unfold fns; rw [List.getElem?_map, HS.out]; rfl)
        have HOF := Lib.hid (HOK.out s.fn (List.mem_of_getElem? HFN.out))
        have hkp : -1 ≤ s.fn.keep := (okF_iff.1 HOF.out).2.2.2.2.1
        have HX1 := HXP.out.alloc (.cells #[.int .i64 s.fn.params, .slice s.lo s.fn.locals.length s.lc, .bool s.fn.result, .int .i64 s.fn.keep, .slice s.co s.fn.code.length s.cc] 46)
        have HX1 := Lib.hid HX1
        have HB1 : Hid (Below w.heap.size w (wr.alloc (.cells #[.int .i64 s.fn.params, .slice s.lo s.fn.locals.length s.lc, .bool s.fn.result, .int .i64 s.fn.keep, .slice s.co s.fn.code.length s.cc] 46))) := Lib.hid (HB.out.alloc (by omega) _)
        have HF1 : Hid (RdF (wr.alloc (.cells #[.int .i64 s.fn.params, .slice s.lo s.fn.locals.length s.lc, .bool s.fn.result, .int .i64 s.fn.keep, .slice s.co s.fn.code.length s.cc] 46)) B s) := Lib.hid (HSF.out.keep fun p hp => World.cell?_alloc_lt wr _ p (by omega))
        have HY1 := Lib.hid (Blk.new wr 46 #[.int .i64 s.fn.params, .slice s.lo s.fn.locals.length s.lc, .bool s.fn.result, .int .i64 s.fn.keep, .slice s.co s.fn.code.length s.cc])
        cases hp1 : keepsB s.fn with
        | false =>
          have HA : Hid (b = false) := Lib.hid (by
            rw [HBV.out]; unfold refB
            rw [HMT.out, Bool.true_and, List.all_eq_false]
            exact ⟨s.fn, List.mem_of_getElem? HFN.out, by unfold fnRef; simp [hp1]⟩)
          have HC1 := Lib.hid (keepsWell_is B s false _ HF1.out HSW.out (by simp; omega) hkp hp1)
          clear hp1
          go_wp2_with (go_at_call 33; refine HC1.out.mono ?_; rintro e w2 ⟨rfl, hb2⟩; refine Hid.out ?_)
          have HB3 := Lib.hid (HB1.out.trans (hb2.mono (by simp; omega)))
          clear hb2
          refine Lib.hid ?_
          go_wp2
          go_ret
          exact ⟨by rw [HA.out]; rfl, HB3.out⟩
        | true =>
          have HC1 := Lib.hid (keepsWell_is B s true _ HF1.out HSW.out (by simp; omega) hkp hp1)
          have HKP := Lib.hid hp1
          clear hp1
          go_wp2_with (go_at_call 33; refine HC1.out.mono ?_; rintro e w2 ⟨rfl, hb2⟩; refine Hid.out ?_)
          have hz2 := hb2.size
          have hz2' : wr.heap.size < w2.heap.size := by simp at hz2; omega
          have HB2 := Lib.hid (HB1.out.trans (hb2.mono (by simp; omega)))
          have HX2 := HX1.out.below hb2 (by simp; omega)
          have HY2 := HY1.out.below hb2 (by simp)
          have HF2 := Lib.hid (HF1.out.below (hb2.mono (by simp; omega)))
          have e0 : w2.cell? ⟨w.heap.size, 0, none⟩ = some (.slice (some ⟨ba, off, none⟩) n c) := HX2.cell 0
          have d0 : w2.cell? ⟨wr.heap.size, 0, none⟩ = some (.int .i64 s.fn.params) := HY2.cell 0
          have d1 : w2.cell? ⟨wr.heap.size, 1, none⟩ = some (.slice s.lo s.fn.locals.length s.lc) := HY2.cell 1
          have d2 : w2.cell? ⟨wr.heap.size, 2, none⟩ = some (.bool s.fn.result) := HY2.cell 2
          have d3 : w2.cell? ⟨wr.heap.size, 3, none⟩ = some (.int .i64 s.fn.keep) := HY2.cell 3
          have d4 : w2.cell? ⟨wr.heap.size, 4, none⟩ = some (.slice s.co s.fn.code.length s.cc) := HY2.cell 4
          have HX2 := Lib.hid HX2
          clear hb2 HY2
          obtain ⟨q, HQ⟩ : ∃ q, Hid (s.fn.code.all (insRef (fns rs) s.fn) = q) := ⟨_, Lib.hid rfl⟩
          have HC2 := Lib.hid (codeRef_is B s q (fns rs) n w2 HF2.out HSW.out (by omega) HN.out l1 (fun i hi => okI_arg ((okF_iff.1 HOF.out).2.2.2.2.2.2.2 i hi)) HQ.out)
          cases q with
          | false =>
            have HA : Hid (b = false) := Lib.hid (by
              rw [HBV.out]; unfold refB
              rw [HMT.out, Bool.true_and, List.all_eq_false]
              exact ⟨s.fn, List.mem_of_getElem? HFN.out, by unfold fnRef; rw [HQ.out]; simp⟩)
            refine Lib.hid ?_
            go_wp2_with (go_at_call 34; refine HC2.out.mono ?_; rintro e w3 ⟨rfl, hb3⟩; refine Hid.out ?_)
            have HB3 := Lib.hid (HB2.out.trans (hb3.mono (by omega)))
            clear hb3 d0 d1 d2 d3 d4 e0
            refine Lib.hid ?_
            go_wp2
            go_ret
            exact ⟨by rw [HA.out]; rfl, HB3.out⟩
          | true =>
            have HT1 : Hid (((fns rs).take (k + 1)).all (fnRef (fns rs)) = true) := Lib.hid (by
              rw [List.take_add_one, HFN.out, List.all_append, HT.out]
              simp only [Option.toList_some, List.all_cons, List.all_nil, Bool.and_true, Bool.true_and]
              unfold fnRef; rw [HKP.out, HQ.out]; rfl)
            refine Lib.hid ?_
            go_wp2_with (go_at_call 34; refine HC2.out.mono ?_; rintro e w3 ⟨rfl, hb3⟩; refine Hid.out ?_)
            have HB3 := Lib.hid (HB2.out.trans (hb3.mono (by omega)))
            have HX3 := Lib.hid (HX2.out.below hb3 (by omega))
            clear hb3 d0 d1 d2 d3 d4 e0
            refine Lib.hid ?_
            go_wp2
            go_roundw
            case rel => exact ⟨k + 1, by omega, by go_num, HT1, HB3, HX3⟩
            case measure => simp [intOf]; omega
      · obtain rfl : n = k := by omega
        clear hlt hk
        have HA : Hid (b = true) := Lib.hid (by
          have h := HT.out
          rw [List.take_of_length_le (by rw [HN.out]; omega)] at h
          rw [HBV.out]; unfold refB; rw [HMT.out, h]; rfl)
        go_wp2
        go_ret
        exact ⟨by rw [HA.out]; rfl, HB.out⟩
end Go.Proofs.Ytdoabcmfblmklaa
