/-
  Package kinds: takes, leaves.
-/
import Derived.Test.YtcgoanfhabjpfaaKTak
import Derived.RegionTactic
import Derived.Deep.RegionLaw
namespace Go.Proofs.Ytcgoanfhabjpfaa
set_option linter.unusedVariables false
open Go.ChangeShapes Go.WideShapes Go.ChangeAt Go.RowKit

theorem insRef_loc {fs : List Fn} {f : Fn} {i : Ins} (h : insRef fs f i = true) (ho : i.op = 2 ∨ i.op = 3) : i.arg < f.locals.length := by
  unfold insRef at h; rw [if_pos ho] at h; simpa using h
theorem insRef_fn {fs : List Fn} {f : Fn} {i : Ins} (h : insRef fs f i = true) (ho : i.op = 23 ∨ i.op = 25) : i.arg < fs.length := by
  unfold insRef at h; rw [if_neg (by omega), if_neg (by omega), if_neg (by omega), if_pos ho] at h; simpa using h
theorem okF_par {f : Fn} (h : okF f = true) : 0 ≤ f.params ∧ f.params ≤ f.locals.length ∧ f.locals.length ≤ 255 := by
  obtain ⟨h1, _, h3, h4, _⟩ := okF_iff.1 h
  exact ⟨h3, h4, h1⟩
theorem pre_reads {w : World} {B n k : Nat} {A : Option Addr} {xs : List Int} (h : Reads w B 1 A n (u8c xs)) (hk : k ≤ n) : Reads w B 1 A k (u8c (xs.take k)) := by
  refine ⟨by have := h.1; rw [length_u8c] at this ⊢; rw [List.length_take]; omega, fun hp => ?_⟩
  obtain ⟨ad, hA, hb, hc⟩ := h.2 (by omega)
  refine ⟨ad, hA, hb, fun j u hj => hc j u ?_⟩
  unfold u8c at hj ⊢
  rw [List.map_take, List.getElem?_take] at hj
  split at hj
  · exact hj
  · cases hj

set_option maxRecDepth 100000 in
set_option maxHeartbeats 3200000 in
theorem takes_any (B g n c : Nat) (A : Option Addr) (rs : List Raw) (r : Raw) (rv sv wv : Value) (i : Ins) (top : Int) (w : World) (h : Wk w B g A n c rs r rv sv wv) (hin : insRef (fns rs) r.fn i = true) (h0 : 0 ≤ i.arg) :
    Calls Try.prog 61 #[.pointer (some ⟨g, 0, none⟩), .agg #[.int .u8 i.op, .int .i64 i.arg, .int .u64 i.imm], .int .u8 top] w (RdK w (takesK (fns rs) r.fn i top)) := by
  have hg := h.blk.lt
  obtain ⟨d0, d1, d2, d3, d4, d5, d6, d7, d8⟩ := h.cells
  have HB : ∀ o : Obj, Hid (Below w.heap.size w (w.alloc o)) := fun o => (Below.refl _ _).alloc (Nat.le_refl _) o
  have H := Lib.hid h
  have HIN := Lib.hid hin
  have hle := h.le
  clear h hin
  obtain ⟨op, arg, imm⟩ := i
  simp only at h0 ⊢
  obtain ⟨a, rfl⟩ : ∃ a : Nat, arg = (a : Int) := ⟨arg.toNat, by omega⟩

  by_cases c3 : op = 3
  · subst c3
    have hlt := insRef_loc HIN.out (.inr rfl)
    simp only at hlt
    obtain ⟨b, off, x, hA, hb, HX, x0⟩ := H.out.fn.locals.byte (k := a) (by omega)
    rw [show takesK (fns rs) r.fn ⟨3, (a : Int), imm⟩ top = [x] by simp [takesK, locK, List.getD_eq_getElem?_getD, HX.out]]
    rw [hA] at d2
    obtain ⟨nl, hnl⟩ : ∃ nl, nl = r.fn.locals.length := ⟨_, rfl⟩
    rw [← hnl] at d2 hlt
    have hlt' : a < nl := by omega
    have hbw : b < w.heap.size := by omega
    clear hnl hlt d0 d1 d3 d4 d5 d6 d7 d8 HX
    go_enter Try.func61, Try.ntmps61
    go_wp2
    go_region
    all_goals
      go_wp2
      go_ret
      have hn := rdK_at [x] 1 rfl (by omega) (HB (.cells #[.int .u8 3, .int .i64 (a : Int), .int .u64 imm] 51)).out.drew
      rw [show ((w.alloc (.cells #[.int .u8 3, .int .i64 (a : Int), .int .u64 imm] 51)).drew).heap.size = w.heap.size + 1 by simp] at hn
      exact hn
  by_cases c5 : op = 5
  · subst c5
    all_goals
      rw [show takesK (fns rs) r.fn ⟨_, (a : Int), imm⟩ top = [1] by simp [takesK]]
      clear d0 d1 d2 d3 d4 d5 d6 d7 d8
      go_enter Try.func61, Try.ntmps61
      go_wp2
      go_ret
      first
        | (have hn := rdK_at [1] 1 rfl (by omega) (HB (.cells #[.int .u8 5, .int .i64 (a : Int), .int .u64 imm] 51)).out; rw [World.size_alloc] at hn; exact hn)
  by_cases c6 : op = 6
  · subst c6
    all_goals
      rw [show takesK (fns rs) r.fn ⟨_, (a : Int), imm⟩ top = [1, 0] by simp [takesK]]
      clear d0 d1 d2 d3 d4 d5 d6 d7 d8
      go_enter Try.func61, Try.ntmps61
      go_wp2
      go_ret
      first
        | (have hn := rdK_at [1, 0] 2 rfl (by omega) (HB (.cells #[.int .u8 6, .int .i64 (a : Int), .int .u64 imm] 51)).out; rw [World.size_alloc] at hn; exact hn)
  by_cases c22 : op = 22 ∨ op = 26 ∨ op = 29 ∨ op = 30
  · rcases c22 with rfl | rfl | rfl | rfl
    all_goals
      rw [show takesK (fns rs) r.fn ⟨_, (a : Int), imm⟩ top = [0] by simp [takesK]]
      clear d0 d1 d2 d3 d4 d5 d6 d7 d8
      go_enter Try.func61, Try.ntmps61
      go_wp2
      go_ret
      first
        | (have hn := rdK_at [0] 1 rfl (by omega) (HB (.cells #[.int .u8 22, .int .i64 (a : Int), .int .u64 imm] 51)).out; rw [World.size_alloc] at hn; exact hn)
        | (have hn := rdK_at [0] 1 rfl (by omega) (HB (.cells #[.int .u8 26, .int .i64 (a : Int), .int .u64 imm] 51)).out; rw [World.size_alloc] at hn; exact hn)
        | (have hn := rdK_at [0] 1 rfl (by omega) (HB (.cells #[.int .u8 29, .int .i64 (a : Int), .int .u64 imm] 51)).out; rw [World.size_alloc] at hn; exact hn)
        | (have hn := rdK_at [0] 1 rfl (by omega) (HB (.cells #[.int .u8 30, .int .i64 (a : Int), .int .u64 imm] 51)).out; rw [World.size_alloc] at hn; exact hn)
  by_cases c23 : op = 23 ∨ op = 25
  · have hlt := insRef_fn HIN.out c23
    simp only at hlt
    have hlen := H.out.prog.len
    rw [length_fns, hlen] at hlt
    obtain ⟨b, off, s, hA, hb, HS, HSF, HSW, x0, x1, x2, x3, x4⟩ := H.out.prog.fn (k := a) (by omega)
    have HFN : Hid ((fns rs)[a]? = some s.fn) := Lib.hid (by unfold fns; rw [List.getElem?_map, HS.out]; rfl)
    have hokf := okF_par ((okP_iff.1 H.out.ok).2.2 s.fn (List.mem_of_getElem? HFN.out))
    have hcap := HSF.out.cap
    obtain ⟨p, hp⟩ : ∃ p : Nat, s.fn.params = (p : Int) := ⟨s.fn.params.toNat, by omega⟩
    rw [show takesK (fns rs) r.fn ⟨op, (a : Int), imm⟩ top = s.fn.locals.take p by
      unfold takesK parK
      simp only [Int.toNat_natCast, HFN.out, hp]
      rw [if_neg (by omega), if_neg (by omega), if_neg (by omega), if_neg (by omega), if_pos c23]]
    have HRD : Hid (∀ W, Below w.heap.size w W → RdK w (s.fn.locals.take p) (.returned (.slice s.lo p s.lc)) W) := Lib.hid fun W hW => by
      have hz := hW.size
      exact ⟨s.lo, p, s.lc, rfl, by rw [List.length_take]; omega, by omega, pre_reads ((HSF.out.locals.below (hW.mono hle)).more (by omega)) (by omega), hW⟩
    rw [hp] at x0 hokf
    subst hA
    obtain ⟨nl, hnl⟩ : ∃ nl, nl = s.fn.locals.length := ⟨_, rfl⟩
    rw [← hnl] at x1 hcap hokf
    have hlt' : a < n := by omega
    have hbw : b < w.heap.size := by omega
    have hpl : p ≤ s.lc := by omega
    have hp0 : (0 : Int) ≤ (p : Int) := by omega
    have hlc : p ≤ 255 := by omega
    clear hnl hlt hp hokf hcap hlen d1 d2 d3 d4 d5 d6 d7 d8 HFN HS HSW
    rcases c23 with rfl | rfl
    all_goals
      go_enter Try.func61, Try.ntmps61
      go_wp2
      go_region
      all_goals
        go_wp2
        go_ret
        exact HRD.out _ (((HB _).out.drew).alloc (by simp) _)
  by_cases c24 : op = 24
  · subst c24
    rw [show takesK (fns rs) r.fn ⟨24, (a : Int), imm⟩ top = resOf r.fn by simp [takesK]]
    clear d0 d6 d7 d8
    go_enter Try.func61, Try.ntmps61
    go_wp2_with (go_at_call 64; refine (resultOf_any r _).mono ?_; rintro e w2 ⟨A2, m2, c2, rfl, hm2, ho2, hb2⟩; have HM2 := Lib.hid hm2; clear hm2; refine Hid.out ?_)
    have HB2 := Lib.hid ((HB (.cells #[.int .u8 24, .int .i64 (a : Int), .int .u64 imm] 51)).out.trans (hb2.mono (by simp)))
    have HO2 := Lib.hid ho2
    clear hb2 ho2
    refine Lib.hid ?_
    go_wp2
    go_ret
    exact ⟨A2, m2, c2, rfl, HM2.out, own_cap HO2.out, Reads.of_own HO2.out, HB2.out⟩
  by_cases c31 : op = 31 ∨ op = 32
  · rcases c31 with rfl | rfl
    all_goals
      rw [show takesK (fns rs) r.fn ⟨_, (a : Int), imm⟩ top = [top] by simp [takesK]]
      clear d0 d1 d2 d3 d4 d5 d6 d7 d8
      go_enter Try.func61, Try.ntmps61
      go_wp2
      go_ret
      first
        | (have hn := rdK_at [top] 1 rfl (by omega) (HB (.cells #[.int .u8 31, .int .i64 (a : Int), .int .u64 imm] 51)).out; rw [World.size_alloc] at hn; exact hn)
        | (have hn := rdK_at [top] 1 rfl (by omega) (HB (.cells #[.int .u8 32, .int .i64 (a : Int), .int .u64 imm] 51)).out; rw [World.size_alloc] at hn; exact hn)
  have g3 : (op == 3) = false := by simp; omega
  have g5 : (op == 5) = false := by simp; omega
  have g6 : (op == 6) = false := by simp; omega
  have g22 : (op == 22) = false := by simp; omega
  have g26 : (op == 26) = false := by simp; omega
  have g29 : (op == 29) = false := by simp; omega
  have g30 : (op == 30) = false := by simp; omega
  have g23 : (op == 23) = false := by simp; omega
  have g25 : (op == 25) = false := by simp; omega
  have g24 : (op == 24) = false := by simp; omega
  have g31 : (op == 31) = false := by simp; omega
  have g32 : (op == 32) = false := by simp; omega
  by_cases c7 : 7 ≤ op ∧ op ≤ 20
  · rw [show takesK (fns rs) r.fn ⟨op, (a : Int), imm⟩ top = [0, 0] by
      unfold takesK
      simp only
      rw [if_neg (by omega), if_neg (by omega), if_neg (by omega), if_neg (by omega), if_neg (by omega), if_neg (by omega), if_neg (by omega), if_pos c7]]
    obtain ⟨l7, l20⟩ := c7
    clear c3 c5 c6 c22 c23 c24 c31 d0 d1 d2 d3 d4 d5 d6 d7 d8
    go_enter Try.func61, Try.ntmps61
    go_wp2
    go_ret
    have hn := rdK_at [0, 0] 2 rfl (by omega) (HB (.cells #[.int .u8 op, .int .i64 (a : Int), .int .u64 imm] 51)).out
    rw [World.size_alloc] at hn
    exact hn
  · rw [show takesK (fns rs) r.fn ⟨op, (a : Int), imm⟩ top = [] by
      unfold takesK
      simp only
      rw [if_neg (by omega), if_neg (by omega), if_neg (by omega), if_neg (by omega), if_neg (by omega), if_neg (by omega), if_neg (by omega), if_neg c7]]
    by_cases l7 : 7 ≤ op
    · have l20 : ¬ op ≤ 20 := fun hh => c7 ⟨l7, hh⟩
      clear c3 c5 c6 c22 c23 c24 c31 c7 d0 d1 d2 d3 d4 d5 d6 d7 d8
      go_enter Try.func61, Try.ntmps61
      go_wp2
      go_ret
      exact rdK_nil (HB _).out
    · clear c3 c5 c6 c22 c23 c24 c31 c7 d0 d1 d2 d3 d4 d5 d6 d7 d8
      go_enter Try.func61, Try.ntmps61
      go_wp2
      go_ret
      exact rdK_nil (HB _).out

set_option maxRecDepth 100000 in
set_option maxHeartbeats 3200000 in
theorem leaves_any (B g n c : Nat) (A : Option Addr) (rs : List Raw) (r : Raw) (rv sv wv : Value) (i : Ins) (top : Int) (w : World) (h : Wk w B g A n c rs r rv sv wv) (hin : insRef (fns rs) r.fn i = true) (h0 : 0 ≤ i.arg) :
    Calls Try.prog 63 #[.pointer (some ⟨g, 0, none⟩), .agg #[.int .u8 i.op, .int .i64 i.arg, .int .u64 i.imm], .int .u8 top] w (RdK w (leavesK (fns rs) r.fn i top)) := by
  have hg := h.blk.lt
  obtain ⟨d0, d1, d2, d3, d4, d5, d6, d7, d8⟩ := h.cells
  have HB : ∀ o : Obj, Hid (Below w.heap.size w (w.alloc o)) := fun o => (Below.refl _ _).alloc (Nat.le_refl _) o
  have H := Lib.hid h
  have HIN := Lib.hid hin
  have hle := h.le
  clear h hin
  obtain ⟨op, arg, imm⟩ := i
  simp only at h0 ⊢
  obtain ⟨a, rfl⟩ : ∃ a : Nat, arg = (a : Int) := ⟨arg.toNat, by omega⟩

  by_cases c1 : op = 1 ∨ op = 28 ∨ op = 5
  · rcases c1 with rfl | rfl | rfl
    all_goals
      rw [show leavesK (fns rs) r.fn ⟨_, (a : Int), imm⟩ top = [0] by simp [leavesK]]
      clear d0 d1 d2 d3 d4 d5 d6 d7 d8
      go_enter Try.func63, Try.ntmps63
      go_wp2
      go_ret
      first
        | (have hn := rdK_at [0] 1 rfl (by omega) (HB (.cells #[.int .u8 1, .int .i64 (a : Int), .int .u64 imm] 51)).out; rw [World.size_alloc] at hn; exact hn)
        | (have hn := rdK_at [0] 1 rfl (by omega) (HB (.cells #[.int .u8 28, .int .i64 (a : Int), .int .u64 imm] 51)).out; rw [World.size_alloc] at hn; exact hn)
        | (have hn := rdK_at [0] 1 rfl (by omega) (HB (.cells #[.int .u8 5, .int .i64 (a : Int), .int .u64 imm] 51)).out; rw [World.size_alloc] at hn; exact hn)
  by_cases c2 : op = 2
  · subst c2
    have hlt := insRef_loc HIN.out (.inl rfl)
    simp only at hlt
    obtain ⟨b, off, x, hA, hb, HX, x0⟩ := H.out.fn.locals.byte (k := a) (by omega)
    rw [show leavesK (fns rs) r.fn ⟨2, (a : Int), imm⟩ top = [x] by simp [leavesK, locK, List.getD_eq_getElem?_getD, HX.out]]
    rw [hA] at d2
    obtain ⟨nl, hnl⟩ : ∃ nl, nl = r.fn.locals.length := ⟨_, rfl⟩
    rw [← hnl] at d2 hlt
    have hlt' : a < nl := by omega
    have hbw : b < w.heap.size := by omega
    clear hnl hlt d0 d1 d3 d4 d5 d6 d7 d8 HX
    go_enter Try.func63, Try.ntmps63
    go_wp2
    go_region
    all_goals
      go_wp2
      go_ret
      have hn := rdK_at [x] 1 rfl (by omega) (HB (.cells #[.int .u8 2, .int .i64 (a : Int), .int .u64 imm] 51)).out.drew
      rw [show ((w.alloc (.cells #[.int .u8 2, .int .i64 (a : Int), .int .u64 imm] 51)).drew).heap.size = w.heap.size + 1 by simp] at hn
      exact hn
  by_cases c4 : op = 4
  · subst c4
    all_goals
      rw [show leavesK (fns rs) r.fn ⟨_, (a : Int), imm⟩ top = [1] by simp [leavesK]]
      clear d0 d1 d2 d3 d4 d5 d6 d7 d8
      go_enter Try.func63, Try.ntmps63
      go_wp2
      go_ret
      first
        | (have hn := rdK_at [1] 1 rfl (by omega) (HB (.cells #[.int .u8 4, .int .i64 (a : Int), .int .u64 imm] 51)).out; rw [World.size_alloc] at hn; exact hn)
  by_cases c23 : op = 23
  · subst c23
    have hlt := insRef_fn HIN.out (.inl rfl)
    simp only at hlt
    have hlen := H.out.prog.len
    rw [length_fns, hlen] at hlt
    obtain ⟨b, off, s, hA, hb, HS, HSF, HSW, x0, x1, x2, x3, x4⟩ := H.out.prog.fn (k := a) (by omega)
    have HFN : Hid ((fns rs)[a]? = some s.fn) := Lib.hid (by unfold fns; rw [List.getElem?_map, HS.out]; rfl)
    rw [show leavesK (fns rs) r.fn ⟨23, (a : Int), imm⟩ top = resOf s.fn by simp [leavesK, resK, HFN.out]]
    subst hA
    have hlt' : a < n := by omega
    have hbw : b < w.heap.size := by omega
    clear hlt hlen d1 d2 d3 d4 d5 d6 d7 d8 HFN HS HSW
    go_enter Try.func63, Try.ntmps63
    go_wp2
    go_region_with (go_at_call 64; refine (resultOf_any s _).mono ?_; rintro e w2 ⟨A2, m2, c2, rfl, hm2, ho2, hb2⟩; have HB2 := Lib.hid (((HB (.cells #[.int .u8 23, .int .i64 (a : Int), .int .u64 imm] 51)).out.drew).trans (hb2.mono (by simp))); have HO2 := Lib.hid ho2; have HM2 := Lib.hid hm2; clear hb2 ho2 hm2)
    all_goals
      go_wp2
      go_ret
      exact ⟨A2, m2, c2, rfl, HM2.out, own_cap HO2.out, Reads.of_own HO2.out, HB2.out⟩
  by_cases c27 : op = 27
  · subst c27
    all_goals
      rw [show leavesK (fns rs) r.fn ⟨_, (a : Int), imm⟩ top = [0, 0] by simp [leavesK]]
      clear d0 d1 d2 d3 d4 d5 d6 d7 d8
      go_enter Try.func63, Try.ntmps63
      go_wp2
      go_ret
      first
        | (have hn := rdK_at [0, 0] 2 rfl (by omega) (HB (.cells #[.int .u8 27, .int .i64 (a : Int), .int .u64 imm] 51)).out; rw [World.size_alloc] at hn; exact hn)
  by_cases c32 : op = 32
  · subst c32
    all_goals
      rw [show leavesK (fns rs) r.fn ⟨_, (a : Int), imm⟩ top = [top, top] by simp [leavesK]]
      clear d0 d1 d2 d3 d4 d5 d6 d7 d8
      go_enter Try.func63, Try.ntmps63
      go_wp2
      go_ret
      first
        | (have hn := rdK_at [top, top] 2 rfl (by omega) (HB (.cells #[.int .u8 32, .int .i64 (a : Int), .int .u64 imm] 51)).out; rw [World.size_alloc] at hn; exact hn)
  have g1 : (op == 1) = false := by simp; omega
  have g28 : (op == 28) = false := by simp; omega
  have g5 : (op == 5) = false := by simp; omega
  have g2 : (op == 2) = false := by simp; omega
  have g4 : (op == 4) = false := by simp; omega
  have g23 : (op == 23) = false := by simp; omega
  have g27 : (op == 27) = false := by simp; omega
  have g32 : (op == 32) = false := by simp; omega
  by_cases c7 : 7 ≤ op ∧ op ≤ 20
  · rw [show leavesK (fns rs) r.fn ⟨op, (a : Int), imm⟩ top = [0] by
      unfold leavesK
      simp only
      rw [if_neg (by omega), if_neg (by omega), if_neg (by omega), if_neg (by omega), if_neg (by omega), if_neg (by omega), if_pos c7]]
    obtain ⟨l7, l20⟩ := c7
    clear c1 c2 c4 c23 c27 c32 d0 d1 d2 d3 d4 d5 d6 d7 d8
    go_enter Try.func63, Try.ntmps63
    go_wp2
    go_ret
    have hn := rdK_at [0] 1 rfl (by omega) (HB (.cells #[.int .u8 op, .int .i64 (a : Int), .int .u64 imm] 51)).out
    rw [World.size_alloc] at hn
    exact hn
  · rw [show leavesK (fns rs) r.fn ⟨op, (a : Int), imm⟩ top = [] by
      unfold leavesK
      simp only
      rw [if_neg (by omega), if_neg (by omega), if_neg (by omega), if_neg (by omega), if_neg (by omega), if_neg (by omega), if_neg c7]]
    by_cases l7 : 7 ≤ op
    · have l20 : ¬ op ≤ 20 := fun hh => c7 ⟨l7, hh⟩
      clear c1 c2 c4 c23 c27 c32 c7 d0 d1 d2 d3 d4 d5 d6 d7 d8
      go_enter Try.func63, Try.ntmps63
      go_wp2
      go_ret
      exact rdK_nil (HB _).out
    · clear c1 c2 c4 c23 c27 c32 c7 d0 d1 d2 d3 d4 d5 d6 d7 d8
      go_enter Try.func63, Try.ntmps63
      go_wp2
      go_ret
      exact rdK_nil (HB _).out
end Go.Proofs.Ytcgoanfhabjpfaa
