/-
  The row's own package: After, walked.
-/
import Derived.Test.YtcgoanfhabjpfaaKAft
import Derived.Test.YtcgoanfhabjpfaaKBeh
namespace Go.Proofs.Ytcgoanfhabjpfaa
set_option linter.unusedVariables false
set_option linter.unusedSimpArgs false
open Go.ChangeShapes Go.WideShapes Go.ChangeAt Go.RowKit

theorem drop_top {s : Stk} {n : Nat} (h : n + 1 = s.length) : s.drop n = [topK s] := by
  rcases List.eq_nil_or_concat s with rfl | ⟨l, x, rfl⟩
  · simp at h
  · have : n = l.length := by simp at h; omega
    subst this
    simp [topK]

set_option maxRecDepth 100000 in
set_option maxHeartbeats 6400000 in
theorem after_any (B n c : Nat) (A : Option Addr) (rs : List Raw) (r : Raw) (i : Ins) (s : Stk) (w : World) (hp : RdP w B A n rs) (hf : RdF w B r) (hB : B ≤ w.heap.size) (hok : okP (fns rs) = true) (hokf : okF r.fn = true) (hin : insRef (fns rs) r.fn i = true) (hio : okI i = true) (hk01 : k01 s) (hs : s.length ≤ 100000) :
    Calls Try.prog 35 #[.agg #[.slice A n c], .agg #[.int .i64 r.fn.params, .slice r.lo r.fn.locals.length r.lc, .bool r.fn.result, .int .i64 r.fn.keep, .slice r.co r.fn.code.length r.cc], .agg #[.int .u8 i.op, .int .i64 i.arg, .int .u64 i.imm], .string (str (ltr s))] w fun e w' => e = .returned (.string (str (aftS (fns rs) r.fn i s))) ∧ Below w.heap.size w w' := by
  obtain ⟨sn, hsn⟩ : ∃ sn, sn = s.length := ⟨_, rfl⟩
  obtain ⟨t, HT⟩ : ∃ t, Hid (t = takesK (fns rs) r.fn i (topK s)) := ⟨_, Lib.hid rfl⟩
  obtain ⟨lv, HL⟩ : ∃ t, Hid (t = leavesK (fns rs) r.fn i (topK s)) := ⟨_, Lib.hid rfl⟩
  obtain ⟨k, HK⟩ : ∃ k, Hid (k = t.length) := ⟨_, Lib.hid rfl⟩
  have HAF : Hid (afterK (fns rs) r.fn i s = if k ≤ sn ∧ s.drop (sn - k) = t ∧ ¬(i.op = 24 ∧ k < sn) then some (s.take (sn - k) ++ lv) else none) := Lib.hid (by
    unfold afterK; rw [← HT.out, ← HL.out, ← HK.out, ← hsn])
  have hk : k ≤ 255 := by rw [HK.out, HT.out]; exact takesK_len hok
  have hlvl : lv.length ≤ 2 := by rw [HL.out]; exact leavesK_len _ _ _ _
  have HT01 : Hid (k01 t) := Lib.hid (by rw [HT.out]; exact takesK_01 hok hokf i (topK_01 hk01))
  have HS01 := Lib.hid hk01
  have hop := opB_iff.1 (okI_iff.1 hio).1
  obtain ⟨op, arg, imm⟩ := i
  have h0 := (fitB_iff.1 (okI_iff.1 hio).2.1).1
  simp only at h0 hop
  obtain ⟨a, rfl⟩ : ∃ a : Nat, arg = (a : Int) := ⟨arg.toNat, by omega⟩
  have HP := Lib.hid hp
  have HF := Lib.hid hf
  have HIN := Lib.hid hin
  have HOK := Lib.hid hok
  have HOKF := Lib.hid hokf
  have HSN := Lib.hid hsn
  obtain ⟨S, HS⟩ : ∃ S, Hid (S = str (ltr s)) := ⟨_, rfl⟩
  have hss : S.size = sn := by rw [HS.out, str_size, length_ltr, ← HSN.out]
  have hs' : sn ≤ 100000 := by omega
  obtain ⟨nl, HNL⟩ : ∃ nl, Hid (nl = r.fn.locals.length) := ⟨_, rfl⟩
  obtain ⟨nc, HNC⟩ : ∃ nc, Hid (nc = r.fn.code.length) := ⟨_, rfl⟩
  have hBB : B ≤ w.heap.size := hB
  simp only
  rw [← HS.out, ← HNL.out, ← HNC.out]
  obtain ⟨OP, HOP⟩ : ∃ o, o = Obj.cells #[.slice A n c] 24 := ⟨_, rfl⟩
  clear hp hf hin hio hok hokf hk01 hs hsn hB HOP OP
  go_enter Try.func35, Try.ntmps35
  go_upto_block 0 with fail
  go_cut [1, 9, 10] (fun x1 x9 x10 wx => x1 = .agg #[.int .i64 r.fn.params, .slice r.lo nl r.lc, .bool r.fn.result, .int .i64 r.fn.keep, .slice r.co nc r.cc] ∧ x9 = .string (str (ltr t)) ∧ x10 = .string (str (ltr lv)) ∧ Hid (Below w.heap.size w wx) ∧ ¬(op = 24 ∧ k < sn))
  case first =>
    have HBW : Hid (∀ o1 o2 o3 : Obj, Below w.heap.size w (((w.alloc o1).alloc o2).alloc o3)) := Lib.hid fun o1 o2 o3 => (((Below.refl _ _).alloc (Nat.le_refl _) o1).alloc (by simp) o2).alloc (by simp; omega) o3
    clear hlvl hk
    by_cases c1 : op = 1 ∨ op = 28
    · have ht : t = [] := by rw [HT.out]; rcases c1 with rfl | rfl <;> simp [takesK]
      have hl : lv = [0] := by rw [HL.out]; rcases c1 with rfl | rfl <;> simp [leavesK]
      have HT1 := Lib.hid ht; have HL1 := Lib.hid hl; clear ht hl
      rcases c1 with rfl | rfl
      all_goals
        go_wp2_with fail
        go_meet
        exact ⟨rfl, by rw [HT1.out]; rfl, by rw [HL1.out]; rfl, HBW.out _ _ _, by omega⟩
    by_cases c2 : op = 2
    · subst c2
      have hlt := insRef_loc HIN.out (.inl rfl)
      simp only at hlt
      obtain ⟨b, off, x, hA, hb, HX, x0⟩ := HF.out.locals.byte (k := a) (by omega)
      have HT1 : Hid (t = []) := Lib.hid (by rw [HT.out]; simp [takesK, locK, List.getD_eq_getElem?_getD, HX.out])
      have HL1 : Hid (lv = [x]) := Lib.hid (by rw [HL.out]; simp [leavesK, locK, List.getD_eq_getElem?_getD, HX.out])
      rw [← HNL.out] at hlt
      have hlt' : a < nl := by omega
      have hbw : b < w.heap.size := by omega
      rw [hA]
      have x0' : ∀ o1 o2 o3 : Obj, (((w.alloc o1).alloc o2).alloc o3).cell? ⟨b, off + a, none⟩ = some (.int .u8 x) := fun o1 o2 o3 => by rw [World.cell?_alloc_lt _ _ _ (by simp; omega), World.cell?_alloc_lt _ _ _ (by simp; omega), World.cell?_alloc_lt _ _ _ hbw]; exact x0
      have HA := Lib.hid hA
      clear hlt hA HX x0
      go_wp2_with (go_at_call 37; refine (letter_any x _).mono ?_; rintro e w2 ⟨rfl, rfl⟩)
      all_goals
        go_meet
        exact ⟨by rw [HA.out], by rw [HT1.out]; rfl, by rw [HL1.out]; rfl, HBW.out _ _ _, by omega⟩
    by_cases c3 : op = 3
    · subst c3
      have hlt := insRef_loc HIN.out (.inr rfl)
      simp only at hlt
      obtain ⟨b, off, x, hA, hb, HX, x0⟩ := HF.out.locals.byte (k := a) (by omega)
      have HT1 : Hid (t = [x]) := Lib.hid (by rw [HT.out]; simp [takesK, locK, List.getD_eq_getElem?_getD, HX.out])
      have HL1 : Hid (lv = []) := Lib.hid (by rw [HL.out]; simp [leavesK, locK, List.getD_eq_getElem?_getD, HX.out])
      rw [← HNL.out] at hlt
      have hlt' : a < nl := by omega
      have hbw : b < w.heap.size := by omega
      rw [hA]
      have x0' : ∀ o1 o2 o3 : Obj, (((w.alloc o1).alloc o2).alloc o3).cell? ⟨b, off + a, none⟩ = some (.int .u8 x) := fun o1 o2 o3 => by rw [World.cell?_alloc_lt _ _ _ (by simp; omega), World.cell?_alloc_lt _ _ _ (by simp; omega), World.cell?_alloc_lt _ _ _ hbw]; exact x0
      have HA := Lib.hid hA
      clear hlt hA HX x0
      go_wp2_with (go_at_call 37; refine (letter_any x _).mono ?_; rintro e w2 ⟨rfl, rfl⟩)
      all_goals
        go_meet
        exact ⟨by rw [HA.out], by rw [HT1.out]; rfl, by rw [HL1.out]; rfl, HBW.out _ _ _, by omega⟩
    by_cases c4 : op = 4
    · have ht : t = [] := by rw [HT.out, c4]; simp [takesK]
      have hl : lv = [1] := by rw [HL.out, c4]; simp [leavesK]
      have HT1 := Lib.hid ht; have HL1 := Lib.hid hl; clear ht hl
      subst c4
      all_goals
        go_wp2_with fail
        go_meet
        exact ⟨rfl, by rw [HT1.out]; rfl, by rw [HL1.out]; rfl, HBW.out _ _ _, by omega⟩
    by_cases c5 : op = 5
    · have ht : t = [1] := by rw [HT.out, c5]; simp [takesK]
      have hl : lv = [0] := by rw [HL.out, c5]; simp [leavesK]
      have HT1 := Lib.hid ht; have HL1 := Lib.hid hl; clear ht hl
      subst c5
      all_goals
        go_wp2_with fail
        go_meet
        exact ⟨rfl, by rw [HT1.out]; rfl, by rw [HL1.out]; rfl, HBW.out _ _ _, by omega⟩
    by_cases c6 : op = 6
    · have ht : t = [1, 0] := by rw [HT.out, c6]; simp [takesK]
      have hl : lv = [] := by rw [HL.out, c6]; simp [leavesK]
      have HT1 := Lib.hid ht; have HL1 := Lib.hid hl; clear ht hl
      subst c6
      all_goals
        go_wp2_with fail
        go_meet
        exact ⟨rfl, by rw [HT1.out]; rfl, by rw [HL1.out]; rfl, HBW.out _ _ _, by omega⟩
    by_cases c7 : op = 7 ∨ op = 8 ∨ op = 9 ∨ op = 10 ∨ op = 11 ∨ op = 12 ∨ op = 13 ∨ op = 14 ∨ op = 15 ∨ op = 16 ∨ op = 17 ∨ op = 18 ∨ op = 19 ∨ op = 20
    · have ht : t = [0, 0] := by rw [HT.out]; rcases c7 with rfl | rfl | rfl | rfl | rfl | rfl | rfl | rfl | rfl | rfl | rfl | rfl | rfl | rfl <;> simp [takesK]
      have hl : lv = [0] := by rw [HL.out]; rcases c7 with rfl | rfl | rfl | rfl | rfl | rfl | rfl | rfl | rfl | rfl | rfl | rfl | rfl | rfl <;> simp [leavesK]
      have HT1 := Lib.hid ht; have HL1 := Lib.hid hl; clear ht hl
      rcases c7 with rfl | rfl | rfl | rfl | rfl | rfl | rfl | rfl | rfl | rfl | rfl | rfl | rfl | rfl
      all_goals
        go_wp2_with fail
        go_meet
        exact ⟨rfl, by rw [HT1.out]; rfl, by rw [HL1.out]; rfl, HBW.out _ _ _, by omega⟩
    by_cases c21 : op = 21
    · have ht : t = [] := by rw [HT.out, c21]; simp [takesK]
      have hl : lv = [] := by rw [HL.out, c21]; simp [leavesK]
      have HT1 := Lib.hid ht; have HL1 := Lib.hid hl; clear ht hl
      subst c21
      all_goals
        go_wp2_with fail
        go_meet
        exact ⟨rfl, by rw [HT1.out]; rfl, by rw [HL1.out]; rfl, HBW.out _ _ _, by omega⟩
    by_cases c22 : op = 22 ∨ op = 26 ∨ op = 29 ∨ op = 30
    · have ht : t = [0] := by rw [HT.out]; rcases c22 with rfl | rfl | rfl | rfl <;> simp [takesK]
      have hl : lv = [] := by rw [HL.out]; rcases c22 with rfl | rfl | rfl | rfl <;> simp [leavesK]
      have HT1 := Lib.hid ht; have HL1 := Lib.hid hl; clear ht hl
      rcases c22 with rfl | rfl | rfl | rfl
      all_goals
        go_wp2_with fail
        go_meet
        exact ⟨rfl, by rw [HT1.out]; rfl, by rw [HL1.out]; rfl, HBW.out _ _ _, by omega⟩
    by_cases c27 : op = 27
    · have ht : t = [] := by rw [HT.out, c27]; simp [takesK]
      have hl : lv = [0, 0] := by rw [HL.out, c27]; simp [leavesK]
      have HT1 := Lib.hid ht; have HL1 := Lib.hid hl; clear ht hl
      subst c27
      all_goals
        go_wp2_with fail
        go_meet
        exact ⟨rfl, by rw [HT1.out]; rfl, by rw [HL1.out]; rfl, HBW.out _ _ _, by omega⟩
    by_cases c24 : op = 24
    · subst c24
      have HT1 : Hid (t = resOf r.fn) := Lib.hid (by rw [HT.out]; simp [takesK])
      have HL1 : Hid (lv = []) := Lib.hid (by rw [HL.out]; simp [leavesK])
      have HSL : Hid (S.toList = ltr s) := Lib.hid (by rw [HS.out, str_toList])
      have HNO : s ≠ t → Hid (aftS (fns rs) r.fn ⟨24, a, imm⟩ s = [33]) := fun hne => Lib.hid (aftS_none (by
        rw [HAF.out, if_neg]
        rintro ⟨h1, h2, h3⟩
        have h4 : ¬((24 : Int) = 24 ∧ k < sn) := h3
        have : sn = k := by omega
        rw [this, Nat.sub_self, List.drop_zero] at h2
        exact hne h2))
      have HYE : s = t → ¬((24 : Int) = 24 ∧ k < sn) := fun he => by
        have := HSN.out; rw [he, ← HK.out] at this; omega
      have ht2 : ∀ q, r.fn.result = q → str (ltr t) = if q then ⟨#[110]⟩ else ⟨#[]⟩ := fun q hq => by
        rw [HT1.out]; unfold resOf; rw [hq]; cases q <;> rfl
      cases hr : r.fn.result with
      | false =>
        have h2 := ht2 _ hr
        simp only [Bool.false_eq_true, if_false] at h2
        have HH2 := Lib.hid h2
        clear h2 ht2
        have HT0 : Hid (t = []) := Lib.hid (by rw [HT1.out]; unfold resOf; rw [hr]; rfl)
        have HR := Lib.hid hr
        clear hr
        go_wp2_with fail
        · rename_i hh _
          go_ret
          have hne : s ≠ t := by
            intro he
            rw [HSL.out, he, HT0.out] at hh
            revert hh
            decide
          exact ⟨by rw [(HNO hne).out]; rfl, HBW.out _ _ _⟩
        · rename_i hh _
          go_meet
          have he : s = t := by
            rw [HSL.out] at hh
            have h6 : ltr s = [] := by simpa using hh
            exact ltr_inj HS01.out HT01.out (by rw [h6, HT0.out]; rfl)
          exact ⟨by rw [HR.out], by rw [HH2.out], by rw [HL1.out]; rfl, HBW.out _ _ _, HYE he⟩
      | true =>
        have h2 := ht2 _ hr
        simp only [if_true] at h2
        have HH2 := Lib.hid h2
        clear h2 ht2
        have HT0 : Hid (t = [0]) := Lib.hid (by rw [HT1.out]; unfold resOf; rw [hr]; rfl)
        have HR := Lib.hid hr
        clear hr
        go_wp2_with fail
        · rename_i hh _
          go_ret
          have hne : s ≠ t := by
            intro he
            rw [HSL.out, he, HT0.out] at hh
            revert hh
            decide
          exact ⟨by rw [(HNO hne).out]; rfl, HBW.out _ _ _⟩
        · rename_i hh _
          go_meet
          have he : s = t := by
            rw [HSL.out] at hh
            have h6 : ltr s = [110] := by simpa using hh
            exact ltr_inj HS01.out HT01.out (by rw [h6, HT0.out]; rfl)
          exact ⟨by rw [HR.out], by rw [HH2.out], by rw [HL1.out]; rfl, HBW.out _ _ _, HYE he⟩
    by_cases c23 : op = 23 ∨ op = 25
    · have hlt := insRef_fn HIN.out c23
      simp only at hlt
      have hlen := HP.out.len
      rw [length_fns, hlen] at hlt
      obtain ⟨b, off, g, hA, hb, HG, HGF, HGW, x0, x1, x2, x3, x4⟩ := HP.out.fn (k := a) (by omega)
      have HFN : Hid ((fns rs)[a]? = some g.fn) := Lib.hid (by unfold fns; rw [List.getElem?_map, HG.out]; rfl)
      have hokf := okF_par ((okP_iff.1 HOK.out).2.2 g.fn (List.mem_of_getElem? HFN.out))
      have hcap := HGF.out.cap
      obtain ⟨p, hp⟩ : ∃ p : Nat, g.fn.params = (p : Int) := ⟨g.fn.params.toNat, by omega⟩
      have HT1 : Hid (t = g.fn.locals.take p) := Lib.hid (by
        rw [HT.out]
        unfold takesK parK
        simp only [Int.toNat_natCast, HFN.out, hp]
        rw [if_neg (by omega), if_neg (by omega), if_neg (by omega), if_neg (by omega), if_pos c23])
      have HL23 : Hid (op = 23 → lv = resOf g.fn) := Lib.hid (by
        intro h; rw [HL.out, h]
        simp [leavesK, resK, HFN.out])
      have HL25 : Hid (op = 25 → lv = []) := Lib.hid (by
        intro h; rw [HL.out, h]
        simp [leavesK])
      have HRD : Hid (∀ W, Below w.heap.size w W → Calls Try.prog 23 #[.slice g.lo p g.lc] W fun e w' => e = .returned (.string (str (ltr t))) ∧ W = w') := Lib.hid fun W hW => by
        rw [HT1.out]
        exact letters_any B g.lo p g.lc _ W (pre_reads (HGF.out.locals.below (hW.mono (by omega))) (by omega)) (by omega)
      have HBX : Hid (∀ o1 o2 o3 o4 : Obj, Below w.heap.size w ((((w.alloc o1).alloc o2).alloc o3).alloc o4)) := Lib.hid fun o1 o2 o3 o4 => (HBW.out o1 o2 o3).alloc (by simp; omega) o4
      rw [hp] at x0 hokf
      subst hA
      obtain ⟨gl, hgl⟩ : ∃ nl, nl = g.fn.locals.length := ⟨_, rfl⟩
      rw [← hgl] at x1 hcap hokf
      have hbw : b < w.heap.size := by omega
      have X : ∀ (o1 o2 o3 : Obj) (j : Nat), (((w.alloc o1).alloc o2).alloc o3).cell? ⟨b, j, none⟩ = w.cell? ⟨b, j, none⟩ := fun o1 o2 o3 j => by rw [World.cell?_alloc_lt _ _ _ (by simp; omega), World.cell?_alloc_lt _ _ _ (by simp; omega), World.cell?_alloc_lt _ _ _ hbw]
      have y0 : ∀ o1 o2 o3 : Obj, (((w.alloc o1).alloc o2).alloc o3).cell? ⟨b, off + a * 5, none⟩ = some (.int .i64 p) := fun o1 o2 o3 => (X o1 o2 o3 _).trans x0
      have y1 : ∀ o1 o2 o3 : Obj, (((w.alloc o1).alloc o2).alloc o3).cell? ⟨b, off + a * 5 + 1, none⟩ = some (.slice g.lo gl g.lc) := fun o1 o2 o3 => (X o1 o2 o3 _).trans x1
      have y3 : ∀ o1 o2 o3 : Obj, (((w.alloc o1).alloc o2).alloc o3).cell? ⟨b, off + a * 5 + 3, none⟩ = some (.int .i64 g.fn.keep) := fun o1 o2 o3 => (X o1 o2 o3 _).trans x3
      have y4 : ∀ o1 o2 o3 : Obj, (((w.alloc o1).alloc o2).alloc o3).cell? ⟨b, off + a * 5 + 4, none⟩ = some (.slice g.co g.fn.code.length g.cc) := fun o1 o2 o3 => (X o1 o2 o3 _).trans x4
      have hlt' : a < n := by omega
      have hpl : p ≤ g.lc := by omega
      have hp0 : (0 : Int) ≤ (p : Int) := by omega
      have hlc : p ≤ 255 := by omega
      have hlg : p ≤ gl := by omega
      cases hres : g.fn.result with
      | false =>
        rw [hres] at x2
        have y2 : ∀ o1 o2 o3 : Obj, (((w.alloc o1).alloc o2).alloc o3).cell? ⟨b, off + a * 5 + 2, none⟩ = some (.bool false) := fun o1 o2 o3 => (X o1 o2 o3 _).trans x2
        have HR0 : Hid (lv = []) := Lib.hid (by
          rcases c23 with h | h
          · rw [HL23.out h]; unfold resOf; rw [hres]; rfl
          · exact HL25.out h)
        clear hgl hlt hp hokf hcap hlen HFN HG HGW x0 x1 x2 x3 x4 X hres
        rcases c23 with rfl | rfl
        all_goals
          go_wp2_with (go_at_call 23; refine (HRD.out _ (HBX.out _ _ _ _)).mono ?_; rintro e w2 ⟨rfl, rfl⟩)
          go_meet
          exact ⟨rfl, rfl, by rw [HR0.out]; rfl, HBX.out _ _ _ _, by omega⟩
      | true =>
        rw [hres] at x2
        have y2 : ∀ o1 o2 o3 : Obj, (((w.alloc o1).alloc o2).alloc o3).cell? ⟨b, off + a * 5 + 2, none⟩ = some (.bool true) := fun o1 o2 o3 => (X o1 o2 o3 _).trans x2
        have HR23 : Hid (op = 23 → lv = [0]) := Lib.hid fun h => by
          rw [HL23.out h]; unfold resOf; rw [hres]; rfl
        clear hgl hlt hp hokf hcap hlen HFN HG HGW x0 x1 x2 x3 x4 X hres
        rcases c23 with rfl | rfl
        · have HQ1 := Lib.hid (HR23.out rfl)
          clear HR23 HL23 HL25
          go_wp2_with (go_at_call 23; refine (HRD.out _ (HBX.out _ _ _ _)).mono ?_; rintro e w2 ⟨rfl, rfl⟩)
          go_meet
          exact ⟨rfl, rfl, by rw [HQ1.out]; rfl, HBX.out _ _ _ _, by omega⟩
        · have HQ1 := Lib.hid (HL25.out rfl)
          clear HR23 HL23 HL25
          go_wp2_with (go_at_call 23; refine (HRD.out _ (HBX.out _ _ _ _)).mono ?_; rintro e w2 ⟨rfl, rfl⟩)
          go_meet
          exact ⟨rfl, rfl, by rw [HQ1.out]; rfl, HBX.out _ _ _ _, by omega⟩
    have h31 : op = 31 ∨ op = 32 := by omega
    rcases Nat.eq_zero_or_pos sn with hz | hz
    · have HNO : Hid (aftS (fns rs) r.fn ⟨op, a, imm⟩ s = [33]) := Lib.hid (aftS_none (by
        rw [HAF.out, if_neg]
        rintro ⟨h1, h2, h3⟩
        have : k = 1 := by rw [HK.out, HT.out]; rcases h31 with rfl | rfl <;> simp [takesK]
        omega))
      have HSE : Hid (S = ⟨#[]⟩) := Lib.hid (by
        rw [HS.out]
        have : s = [] := List.eq_nil_of_length_eq_zero (by rw [← HSN.out, hz])
        rw [this]; rfl)
      rw [HSE.out]
      clear HNL hss
      rcases h31 with rfl | rfl
      all_goals
        go_wp2_with fail
        go_ret
        exact ⟨by rw [HNO.out]; rfl, HBW.out _ _ _⟩
    · obtain ⟨s1, hs1⟩ : ∃ s1 : Nat, (sn : Int) - 1 = (s1 : Int) := ⟨sn - 1, by omega⟩
      have hs1n : s1 + 1 = sn := by omega
      have HS1 := Lib.hid hs1n
      have HTK : Hid (s.drop s1 = [topK s]) := Lib.hid (by
        have h1 : s1 + 1 = s.length := by have := HSN.out; omega
        exact drop_top h1)
      have HT1 : Hid (t = [topK s]) := Lib.hid (by rw [HT.out]; rcases h31 with rfl | rfl <;> simp [takesK])
      have HTS : Hid (S.extract s1 sn = str (ltr t)) := Lib.hid (by
        rw [HS.out, str_extract, ltr_drop, HTK.out, HT1.out]
        rw [List.take_of_length_le (by rw [length_ltr]; simp; omega)])
      obtain ⟨T, hT⟩ : ∃ T, S.extract s1 sn = T := ⟨_, rfl⟩
      have HTT : Hid (T = str (ltr t)) := Lib.hid (by rw [← hT]; exact HTS.out)
      have hts : T.size = 1 := by rw [HTT.out, str_size, length_ltr, HT1.out]; rfl
      have hne0 : S.toList.isEmpty = false := by
        rw [HS.out, str_toList]
        have := HSN.out
        cases s with
        | nil => simp at this; omega
        | cons x s => rfl
      have hs1b : s1 ≤ sn := by omega
      clear hz HNL
      rcases h31 with rfl | rfl
      · have HL1 : Hid (lv = []) := Lib.hid (by rw [HL.out]; simp [leavesK])
        go_wp2_with fail
        go_meet
        exact ⟨rfl, by rw [HTT.out], by rw [HL1.out]; rfl, HBW.out _ _ _, by omega⟩
      · have HL1 : Hid (str (ltr lv) = T ++ T) := Lib.hid (by rw [HL.out, HTT.out, str_append, HT1.out]; simp [leavesK, ltr])
        go_wp2_with fail
        go_meet
        exact ⟨rfl, by rw [HTT.out], by rw [HL1.out], HBW.out _ _ _, by omega⟩
  case rest =>
    obtain ⟨rfl, rfl, rfl, HW, h24⟩ := hcut
    obtain ⟨T, HTT⟩ : ∃ T, Hid (T = str (ltr t)) := ⟨_, rfl⟩
    have hts : T.size = k := by rw [HTT.out, str_size, length_ltr, ← HK.out]
    obtain ⟨V, HVV⟩ : ∃ T, Hid (T = str (ltr lv)) := ⟨_, rfl⟩
    have hvs : V.size ≤ 2 := by rw [HVV.out, str_size, length_ltr]; exact hlvl
    rw [← HTT.out, ← HVV.out]
    clear hlvl
    by_cases c1 : sn < k
    · have HN : Hid (aftS (fns rs) r.fn ⟨op, a, imm⟩ s = [33]) := Lib.hid (aftS_none (by rw [HAF.out, if_neg (by omega)]))
      have g1 : decide ((sn : Int) < (k : Int)) = true := by simp; omega
      go_wp2
      go_ret
      exact ⟨by rw [HN.out]; rfl, HW.out⟩
    · obtain ⟨bel, hbel⟩ : ∃ bel, bel = sn - k := ⟨_, rfl⟩
      have hsub : (sn : Int) - (k : Int) = (bel : Int) := by omega
      have g1 : decide ((sn : Int) < (k : Int)) = false := by simp; omega
      have hb0 : (0 : Int) ≤ (bel : Int) := by omega
      have hbn : bel ≤ sn := by omega
      have hbs : bel ≤ S.size := by omega
      have HBL := Lib.hid hbel
      have HX : Hid (S.extract bel sn = str (ltr (s.drop bel))) := Lib.hid (by
        rw [HS.out, str_extract, ltr_drop, List.take_of_length_le (by rw [length_ltr, List.length_drop, ← HSN.out]; omega)])
      have HY : Hid (S.extract 0 bel ++ V = str (ltr (s.take bel ++ lv))) := Lib.hid (by
        rw [HS.out, HVV.out, str_extract, str_append, ltr_append, List.drop_zero, Nat.sub_zero, ltr_take])
      obtain ⟨X, hX⟩ : ∃ X, S.extract bel sn = X := ⟨_, rfl⟩
      obtain ⟨Y, hY⟩ : ∃ X, S.extract 0 bel = X := ⟨_, rfl⟩
      have hys : Y.size = bel := by rw [← hY, HS.out, str_extract, str_size, List.drop_zero, List.length_take, length_ltr, ← HSN.out]; omega
      rw [hX] at HX
      rw [hY] at HY
      have HHX := Lib.hid hX
      have HHY := Lib.hid hY
      by_cases c2 : s.drop bel = t
      · have HN : Hid (aftS (fns rs) r.fn ⟨op, a, imm⟩ s = ltr (s.take bel ++ lv)) := Lib.hid (by
          rw [← hbel] at HAF
          exact aftS_some (by rw [HAF.out, if_pos ⟨by omega, c2, h24⟩]))
        have hxt : X = T := by rw [HX.out, HTT.out, c2]
        have HHXT := Lib.hid hxt
        have hxe : (X.toList == T.toList) = true := by rw [hxt]; simp
        have HXE := Lib.hid hxe
        clear hbel c2 hxt hxe
        go_wp2
        · rename_i hh
          simp [HXE.out] at hh
        · go_ret
          exact ⟨by rw [HN.out, ← HY.out]; rfl, HW.out⟩
      · have HN : Hid (aftS (fns rs) r.fn ⟨op, a, imm⟩ s = [33]) := Lib.hid (aftS_none (by
          rw [← hbel] at HAF
          rw [HAF.out, if_neg (by intro h; exact c2 h.2.1)]))
        have hxt : X ≠ T := by
          rw [HX.out, HTT.out]
          intro h
          exact c2 (ltr_inj (k01_drop HS01.out _) HT01.out (str_inj h))
        have HHXT := Lib.hid hxt
        have hxe : (X.toList == T.toList) = false := by
          rw [Bool.eq_false_iff]
          intro h
          have h := eq_of_beq h
          rw [ByteArray.toList_eq, ByteArray.toList_eq] at h
          exact hxt (ByteArray.ext (by rw [← Array.toList_inj]; exact h))
        have HXE := Lib.hid hxe
        clear hbel c2 hxt hxe
        go_wp2
        · go_ret
          exact ⟨by rw [HN.out]; rfl, HW.out⟩
        · rename_i hh
          simp [HXE.out] at hh
end Go.Proofs.Ytcgoanfhabjpfaa
