/-
  Texts of one seat, one behind the other: IRunT, IOne, ISumM, ISumV, ISumR.
-/
import Derived.Laws.EntriesVeiled
import Derived.StillTailTactics
import Derived.Deep.RegionLaw
import Derived.LoopTactic
import Derived.Deep.LoopGhost
import Derived.Test.YtlnccpojldiogaaMDb
import Derived.Test.YtlnccpojldiogaaMAj
import Derived.Test.YtlnccpojldiogaaMEc
import Derived.Test.YtlnccpojldiogaaMDd

/-
  Package irun: Run, read bound.
-/
namespace Go.Proofs.Ytlnccpojldiogaa
set_option linter.unusedVariables false
set_option linter.unusedSimpArgs false
open Go.ChangeShapes Go.WideShapes Go.ChangeAt Go.RowKit

set_option maxRecDepth 100000 in
set_option maxHeartbeats 12800000 in
theorem run_okT (HRES : ResumeOK true) (B fa fo n c : Nat) (rs : List RG) (ta : Option Addr) (nt ct : Nat) (tape : List Int) (fuel : Nat) (stF : IMc) (w : World) (h : RdP w B (some ⟨fa, fo, none⟩) n rs) (hB : B ≤ w.heap.size) (ht : Reads w B 1 ta nt (u64c tape)) (hnt : nt * 8 ≤ 140737488351232) (hfu : fuel ≤ 1048576) (hv : valid (grs rs) true)
    (hR : RunB rs true fuel (startI (grs rs) true tape) stF) (stE : IMc) (hE : stE = if stF.doing = 3 then stF else stF.over 3 0) :
    Calls Try.prog 10 #[.agg #[.slice (some ⟨fa, fo, none⟩) n c], .bool true, .slice ta nt ct, .int .i64 fuel] w (IRunR w stE) := by
  have HB0 : Hid (Below w.heap.size w ((w.alloc (.cells #[.slice (some ⟨fa, fo, none⟩) n c] 24)).alloc (.cells #[.slice none 0 0, .int .i64 0, .int .u64 0, .int .i64 0, .int .i64 0, .int .i64 0, .int .i64 0] 34))) := ((Below.refl _ _).alloc (Nat.le_refl _) _).alloc (by simp) _
  have HX0 : Hid (Blk ((w.alloc (.cells #[.slice (some ⟨fa, fo, none⟩) n c] 24)).alloc (.cells #[.slice none 0 0, .int .i64 0, .int .u64 0, .int .i64 0, .int .i64 0, .int .i64 0, .int .i64 0] 34)) w.heap.size 24 #[.slice (some ⟨fa, fo, none⟩) n c]) := Lib.hid ((Blk.new w _ _).alloc _)
  have HZ0 : Hid (Blk ((w.alloc (.cells #[.slice (some ⟨fa, fo, none⟩) n c] 24)).alloc (.cells #[.slice none 0 0, .int .i64 0, .int .u64 0, .int .i64 0, .int .i64 0, .int .i64 0, .int .i64 0] 34)) (w.heap.size + 1) 34 #[.slice none 0 0, .int .i64 0, .int .u64 0, .int .i64 0, .int .i64 0, .int .i64 0, .int .i64 0]) := Lib.hid (by
    have := Blk.new (w.alloc (.cells #[.slice (some ⟨fa, fo, none⟩) n c] 24)) 34 #[.slice none 0 0, .int .i64 0, .int .u64 0, .int .i64 0, .int .i64 0, .int .i64 0, .int .i64 0]
    rwa [show (w.alloc (.cells #[.slice (some ⟨fa, fo, none⟩) n c] 24)).heap.size = w.heap.size + 1 by simp] at this)
  have H := Lib.hid h
  have HT := Lib.hid ht
  have hC := check_any B (some ⟨fa, fo, none⟩) n c rs true _ (h.below (HB0.out.mono hB)) (by simp; omega)
  rw [if_pos hv] at hC
  have HC := Lib.hid hC
  have HV := Lib.hid hv
  have HRB := Lib.hid hR
  have HRES := Lib.hid HRES
  have hf0 : decide ((fuel : Int) < 0) = false := by simp
  have hf1 : decide ((fuel : Int) > 1048576) = false := by simp; omega
  have HE := Lib.hid hE
  clear h ht hv hR hE hC
  go_enter Try.func10, Try.ntmps10
  go_wp2_with (first | (go_at_call 21; refine HC.out.mono ?_; rintro e w2 ⟨rfl, hb2⟩; have HX2 := Lib.hid (HX0.out.below hb2 HX0.out.lt); have HZ2 := Lib.hid (HZ0.out.below hb2 HZ0.out.lt); have HB2 := Lib.hid (HB0.out.trans (hb2.mono (by simp; omega))); have x2 : w2.cell? ⟨w.heap.size, 0, none⟩ = some (.slice (some ⟨fa, fo, none⟩) n c) := HX2.out.cell 0; have hz2 : w.heap.size + 1 < w2.heap.size := HZ2.out.lt; clear hb2))
  have hbv : Below w2.heap.size w2 w2.drew := (Below.refl _ _).drew
  have HX3 := Lib.hid (HX2.out.below hbv HX2.out.lt)
  have HZ3 := Lib.hid (HZ2.out.below hbv HZ2.out.lt)
  have HB3 := Lib.hid (HB2.out.trans (hbv.mono (by omega)))
  have HN : Hid (Calls Try.prog 23 #[.slice ta nt ct] w2.drew fun e w4 => ∃ tg v', e = .returned (.pointer (some ⟨tg, 0, none⟩)) ∧ w2.heap.size ≤ w4.heap.size ∧ w4.cell? ⟨w.heap.size, 0, none⟩ = some (.slice (some ⟨fa, fo, none⟩) n c) ∧ Hid (IRunX w2.drew true w4.heap.size tg fa fo n c rs (mcI0 true tape) [] (w4.heap.size + 1) ((w4.alloc (.cells #[.slice (some ⟨fa, fo, none⟩) n c, .func (.func 24) #[.pointer (some ⟨w4.heap.size + 1, 0, none⟩)] #[], ptrI tg, .slice none 0 0, .int .u64 0, .slice none 0 0, .int .i64 0, .int .i64 0, .slice none 0 0, .int .i64 0, .int .u64 0, .int .i64 0, .int .i64 0, .int .i64 0, .int .i64 0] 91)).alloc (.cells #[.int .u64 0, .int .u64 0, .int .u64 0, .int .u64 0, .int .u64 0, .int .u64 0, .int .u64 0, .int .u64 0, .int .u64 0, .int .u64 0, .int .u64 0, .int .u64 0, .int .u64 0, .int .u64 0, .int .u64 0, .int .u64 0] 94))) ∧ Hid (Below w2.heap.size w2 w4)) := Lib.hid ((new_any B ta nt ct tape w2.drew (HT.out.below (HB3.out.mono hB)) (by show B ≤ w2.heap.size; omega) (by omega)).mono fun e w4 ⟨tg, v', he, htg, hown, htb, hb4⟩ => by
    refine ⟨tg, v', he, hb4.size, (HX3.out.below hb4 HX3.out.lt).cell 0, Lib.hid ?_, Lib.hid (hbv.trans hb4)⟩
    have hw24 : w2.drew.heap.size ≤ w4.heap.size := hb4.size
    have hZ : Below w2.drew.heap.size w2.drew ((w4.alloc (.cells #[.slice (some ⟨fa, fo, none⟩) n c, .func (.func 24) #[.pointer (some ⟨w4.heap.size + 1, 0, none⟩)] #[], ptrI tg, .slice none 0 0, .int .u64 0, .slice none 0 0, .int .i64 0, .int .i64 0, .slice none 0 0, .int .i64 0, .int .u64 0, .int .i64 0, .int .i64 0, .int .i64 0, .int .i64 0] 91)).alloc (.cells #[.int .u64 0, .int .u64 0, .int .u64 0, .int .u64 0, .int .u64 0, .int .u64 0, .int .u64 0, .int .u64 0, .int .u64 0, .int .u64 0, .int .u64 0, .int .u64 0, .int .u64 0, .int .u64 0, .int .u64 0, .int .u64 0] 94)) := (hb4.alloc hw24 _).alloc (by simp; exact Nat.le_succ_of_le hw24) _
    have hG0 : Blk ((w4.alloc (.cells #[.slice (some ⟨fa, fo, none⟩) n c, .func (.func 24) #[.pointer (some ⟨w4.heap.size + 1, 0, none⟩)] #[], ptrI tg, .slice none 0 0, .int .u64 0, .slice none 0 0, .int .i64 0, .int .i64 0, .slice none 0 0, .int .i64 0, .int .u64 0, .int .i64 0, .int .i64 0, .int .i64 0, .int .i64 0] 91)).alloc (.cells #[.int .u64 0, .int .u64 0, .int .u64 0, .int .u64 0, .int .u64 0, .int .u64 0, .int .u64 0, .int .u64 0, .int .u64 0, .int .u64 0, .int .u64 0, .int .u64 0, .int .u64 0, .int .u64 0, .int .u64 0, .int .u64 0] 94)) (w4.heap.size + 1) 94 #[.int .u64 0, .int .u64 0, .int .u64 0, .int .u64 0, .int .u64 0, .int .u64 0, .int .u64 0, .int .u64 0, .int .u64 0, .int .u64 0, .int .u64 0, .int .u64 0, .int .u64 0, .int .u64 0, .int .u64 0, .int .u64 0] := by
      have h1 := Blk.new (w4.alloc (.cells #[.slice (some ⟨fa, fo, none⟩) n c, .func (.func 24) #[.pointer (some ⟨w4.heap.size + 1, 0, none⟩)] #[], ptrI tg, .slice none 0 0, .int .u64 0, .slice none 0 0, .int .i64 0, .int .i64 0, .slice none 0 0, .int .i64 0, .int .u64 0, .int .i64 0, .int .i64 0, .int .i64 0, .int .i64 0] 91)) 94 #[.int .u64 0, .int .u64 0, .int .u64 0, .int .u64 0, .int .u64 0, .int .u64 0, .int .u64 0, .int .u64 0, .int .u64 0, .int .u64 0, .int .u64 0, .int .u64 0, .int .u64 0, .int .u64 0, .int .u64 0, .int .u64 0]
      rwa [show (w4.alloc (.cells #[.slice (some ⟨fa, fo, none⟩) n c, .func (.func 24) #[.pointer (some ⟨w4.heap.size + 1, 0, none⟩)] #[], ptrI tg, .slice none 0 0, .int .u64 0, .slice none 0 0, .int .i64 0, .int .i64 0, .slice none 0 0, .int .i64 0, .int .u64 0, .int .i64 0, .int .i64 0, .int .i64 0, .int .i64 0] 91)).heap.size = w4.heap.size + 1 by simp] at h1
    exact IRunX.start hZ (((H.out.below (HB3.out.mono hB)).more (show B ≤ w2.drew.heap.size by show B ≤ w2.heap.size; omega)).below hZ) HV.out ((htb.alloc _).alloc _) ((hown.alloc _).alloc _) htg hw24 ((Blk.new w4 _ _).alloc _) (fun _ => ⟨Nat.le_succ_of_le hw24, hG0⟩))
  clear hbv
  go_region_law (go_simp; go_at_call 23; refine HN.out.mono ?_; rintro e w4 ⟨tg, v', rfl, hz4, x4, HRX, HB4⟩)
  all_goals
    have HBG : Hid (∀ w5 rgb, IRunX w2.drew true w4.heap.size tg fa fo n c rs (mcI0 true tape) [] rgb w5 → Calls Try.prog 25 #[.pointer (some ⟨w4.heap.size, 0, none⟩), .int .i64 0, .agg #[.int .i64 0, .slice none 0 0]] w5 fun e w' => e = .returned (.tuple #[]) ∧ ∃ fb, IRunX w2.drew true w4.heap.size tg fa fo n c rs (startI (grs rs) true tape) [fb] rgb w') := Lib.hid fun w5 rgb h5 => begin_first h5
    obtain ⟨rb, hrb⟩ : ∃ x, x = w4.heap.size := ⟨_, rfl⟩
    go_wp2_with (first
      | (go_at_call 25; refine (HBG.out _ _ (by first | exact HRX.out | exact HRX.out.on (Below.refl _ _).drew)).mono ?_; rintro e w6 ⟨rfl, fb6, h6⟩; have H6 := Lib.hid h6; clear h6))
    obtain ⟨rgb, hrgb⟩ : ∃ x, x = w4.heap.size + 1 := ⟨_, rfl⟩
    rw [← hrgb] at H6
    clear hrgb
    rw [← hrb] at H6 ⊢
    clear hrb HBG HRX x4 HB4
    go_loopg [] fuel (fun kz wr => ∃ (k : Nat) (st : IMc) (gl : List Nat), Hid (IRunX w2.drew true rb tg fa fo n c rs st gl rgb wr) ∧ Hid (RunB rs true k st stF) ∧ Hid (k + st.steps = fuel) ∧ Hid (st.evs.length ≤ 1048577) ∧ Hid (k = kz))
    case atStart => exact ⟨fuel, _, _, H6, HRB, Lib.hid (by show fuel + 0 = fuel; omega), Lib.hid (by show 0 ≤ _; omega), Lib.hid rfl⟩
    case round =>
      clear H6 HRB
      obtain ⟨k, st, gl, HX, HRB, HK, HEVL, hkz⟩ := hrel
      obtain ⟨hrz, c6, c10, _, _⟩ := HX.out.cells8
      by_cases hd3 : st.doing = 3
      · have HF := Lib.hid (HRB.out.over hd3)
        have HDO := Lib.hid hd3
        have HFIN := Lib.hid (fin_any HX.out hd3 HZ3.out (HB3.out) (by show w.heap.size ≤ w2.heap.size; omega))
        rw [hd3] at c6
        clear hd3
        obtain ⟨AE, cE, r7, r8, r9, r10, r11, r12, r13, hzb, hzz, hrbz, hev, hbw⟩ := HFIN.out
        have HZB := Lib.hid hzb
        have HEV := Lib.hid hev
        have HBW := Lib.hid hbw
        have z0 : wr.cell? ⟨w.heap.size + 1, 0, none⟩ = some (.slice none 0 0) := hzb.cell 0
        have z1 : wr.cell? ⟨w.heap.size + 1, 1, none⟩ = some (.int .i64 0) := hzb.cell 1
        have z2 : wr.cell? ⟨w.heap.size + 1, 2, none⟩ = some (.int .u64 0) := hzb.cell 2
        have z3 : wr.cell? ⟨w.heap.size + 1, 3, none⟩ = some (.int .i64 0) := hzb.cell 3
        have z4 : wr.cell? ⟨w.heap.size + 1, 4, none⟩ = some (.int .i64 0) := hzb.cell 4
        have z5 : wr.cell? ⟨w.heap.size + 1, 5, none⟩ = some (.int .i64 0) := hzb.cell 5
        have z6 : wr.cell? ⟨w.heap.size + 1, 6, none⟩ = some (.int .i64 0) := hzb.cell 6
        have zf : ∀ i, wr.frozen? ⟨w.heap.size + 1, i, none⟩ = false := fun i => hzb.frozen i
        clear hzb hev hbw
        go_wp2
        obtain ⟨hfb, hfe, hfw⟩ := fin_set st HZB.out (by omega) HEV.out HBW.out
        obtain ⟨Wf, hWf⟩ : ∃ W, W = (((((((wr.setCell ⟨w.heap.size + 1, 0, none⟩ (.slice AE st.evs.length cE)).setCell ⟨w.heap.size + 1, 1, none⟩ (.int .i64 st.endk)).setCell ⟨w.heap.size + 1, 2, none⟩ (.int .u64 st.endv)).setCell ⟨w.heap.size + 1, 3, none⟩ (.int .i64 st.steps)).setCell ⟨w.heap.size + 1, 4, none⟩ (.int .i64 st.depth)).setCell ⟨w.heap.size + 1, 5, none⟩ (.int .i64 st.defers)).setCell ⟨w.heap.size + 1, 6, none⟩ (.int .i64 st.maxp)) := ⟨_, rfl⟩
        rw [← hWf] at hfb hfe hfw ⊢
        clear hWf
        have e0 := hfb.cell 0
        have e1 := hfb.cell 1
        have e2 := hfb.cell 2
        have e3 := hfb.cell 3
        have e4 := hfb.cell 4
        have e5 := hfb.cell 5
        have e6 := hfb.cell 6
        simp only [List.getElem?_toArray, List.getElem?_cons_succ, List.getElem?_cons_zero] at e0 e1 e2 e3 e4 e5 e6
        refine bodyPost_ret (v := .tuple #[.agg #[.slice AE st.evs.length cE, .int .i64 st.endk, .int .u64 st.endv, .int .i64 st.steps, .int .i64 st.depth, .int .i64 st.defers, .int .i64 st.maxp], .int .i64 0]) (by simp [results, Try.results10, go_sem, e0, e1, e2, e3, e4, e5, e6]) rfl ?_
        rw [HE.out, HF.out, if_pos HDO.out]
        exact ⟨_, rfl, hfe, hfw⟩
      · cases k with
        | zero =>
          have hst : st.steps = fuel := by have := HK.out; omega
          have HF : Hid (stF = st) := Lib.hid HRB.out
          have HD3 := Lib.hid hd3
          have hg : (st.doing != 3) = true := by simpa using hd3
          rw [hst] at c10
          have HEN := Lib.hid (end_any 3 0 HX.out hd3 HEVL.out)
          clear hd3 hst
          obtain ⟨sv, hsv⟩ : ∃ x, x = st.over 3 0 := ⟨_, rfl⟩
          have HSV := Lib.hid hsv
          rw [← hsv] at HEN
          clear hsv
          go_wp2_with (first | (go_at_call 27; refine HEN.out.mono ?_; rintro e w8 ⟨rfl, h8⟩; refine Hid.out ?_))
          obtain ⟨AE, cE, r7, r8, r9, r10, r11, r12, r13, hzb, hzz, hrbz, hev, hbw⟩ := fin_any h8 (by rw [HSV.out]; rfl) HZ3.out (HB3.out) (by show w.heap.size ≤ w2.heap.size; omega)
          have HZB := Lib.hid hzb
          have HEV := Lib.hid hev
          have HBW := Lib.hid hbw
          have z0 : w8.cell? ⟨w.heap.size + 1, 0, none⟩ = some (.slice none 0 0) := hzb.cell 0
          have z1 : w8.cell? ⟨w.heap.size + 1, 1, none⟩ = some (.int .i64 0) := hzb.cell 1
          have z2 : w8.cell? ⟨w.heap.size + 1, 2, none⟩ = some (.int .u64 0) := hzb.cell 2
          have z3 : w8.cell? ⟨w.heap.size + 1, 3, none⟩ = some (.int .i64 0) := hzb.cell 3
          have z4 : w8.cell? ⟨w.heap.size + 1, 4, none⟩ = some (.int .i64 0) := hzb.cell 4
          have z5 : w8.cell? ⟨w.heap.size + 1, 5, none⟩ = some (.int .i64 0) := hzb.cell 5
          have z6 : w8.cell? ⟨w.heap.size + 1, 6, none⟩ = some (.int .i64 0) := hzb.cell 6
          have zf : ∀ i, w8.frozen? ⟨w.heap.size + 1, i, none⟩ = false := fun i => hzb.frozen i
          clear hzb hev hbw h8
          refine Lib.hid ?_
          go_wp2
          obtain ⟨hfb, hfe, hfw⟩ := fin_set sv HZB.out (by omega) HEV.out HBW.out
          obtain ⟨Wf, hWf⟩ : ∃ W, W = (((((((w8.setCell ⟨w.heap.size + 1, 0, none⟩ (.slice AE sv.evs.length cE)).setCell ⟨w.heap.size + 1, 1, none⟩ (.int .i64 sv.endk)).setCell ⟨w.heap.size + 1, 2, none⟩ (.int .u64 sv.endv)).setCell ⟨w.heap.size + 1, 3, none⟩ (.int .i64 sv.steps)).setCell ⟨w.heap.size + 1, 4, none⟩ (.int .i64 sv.depth)).setCell ⟨w.heap.size + 1, 5, none⟩ (.int .i64 sv.defers)).setCell ⟨w.heap.size + 1, 6, none⟩ (.int .i64 sv.maxp)) := ⟨_, rfl⟩
          rw [← hWf] at hfb hfe hfw ⊢
          clear hWf
          have e0 := hfb.cell 0
          have e1 := hfb.cell 1
          have e2 := hfb.cell 2
          have e3 := hfb.cell 3
          have e4 := hfb.cell 4
          have e5 := hfb.cell 5
          have e6 := hfb.cell 6
          simp only [List.getElem?_toArray, List.getElem?_cons_succ, List.getElem?_cons_zero] at e0 e1 e2 e3 e4 e5 e6
          refine bodyPost_ret (v := .tuple #[.agg #[.slice AE sv.evs.length cE, .int .i64 sv.endk, .int .u64 sv.endv, .int .i64 sv.steps, .int .i64 sv.depth, .int .i64 sv.defers, .int .i64 sv.maxp], .int .i64 0]) (by simp [results, Try.results10, go_sem, e0, e1, e2, e3, e4, e5, e6]) rfl ?_
          rw [HE.out, HF.out, if_neg HD3.out, ← HSV.out]
          exact ⟨_, rfl, hfe, hfw⟩
        | succ k =>
          have hst : st.steps < fuel := by have := HK.out; omega
          have hg : (st.doing != 3) = true := by simpa using hd3
          obtain ⟨st2, hsb, hrb2⟩ : ∃ st2, StepB rs true st st2 ∧ RunB rs true k st2 stF := by have h1 := HRB.out; unfold RunB at h1; rw [if_neg hd3] at h1; exact h1
          have HST := Lib.hid (stepB_any HRES.out HX.out hsb)
          obtain ⟨s, hs⟩ : ∃ s, s = st.steps := ⟨_, rfl⟩
          have HK2 : Hid (k + st2.steps = fuel) := Lib.hid (by obtain ⟨_, _, _, _, _, _, _, _, _, _, _, _, _, _, _, _, _, _, h1, _⟩ := hsb; have := HK.out; omega)
          have HEV2 : Hid (st2.evs.length ≤ 1048577) := Lib.hid (by obtain ⟨_, _, _, _, _, _, _, _, _, _, _, _, _, _, _, _, _, _, _, h1⟩ := hsb; exact h1)
          have HRB2 := Lib.hid hrb2
          rw [← hs] at c10 hst
          clear hsb hrb2 hs hd3
          go_wp2_with (first | (go_at_call 26; refine HST.out.mono ?_; rintro e w7 ⟨rfl, gl2, h7⟩; have H7 := Lib.hid h7; clear h7))
          go_roundg k
          case measure => have := hkz.out; omega
          case rel => exact ⟨k, st2, gl2, H7, HRB2, HK2, HEV2, Lib.hid rfl⟩
end Go.Proofs.Ytlnccpojldiogaa

/-
  Package irun: a run of one frame, step by step: both ways of reading.
-/
namespace Go.Proofs.Ytlnccpojldiogaa
set_option linter.unusedVariables false
set_option linter.unusedSimpArgs false

section
variable {rs : List RG} {bd : Bool} {st st1 : IMc} {t t1 : IFr} {r : RG} {nd : RN} {x : Nat}
/-- one frame, and nothing put off -/
structure One (t : IFr) (st : IMc) : Prop where
  fr : st.frames = [t]
  hid : st.hidn = 0
  kb : st.kb = []
  waiting : st.waiting = 0
  pans : st.panics = []
  evs : st.evs = []
  maxp : st.maxp = 0
  defers : st.defers = 0
  depth : st.depth = 1
  begun : st.begun = 1
  defs : t.defs = []
  why : t.why = 0
  ser : t.serial = 0
  f : t.f = 0
theorem One.ibd (h : One t st) (hr : rs[0]? = some r) : IBd rs bd st := by
  have mem : ∀ y ∈ st.frames, y = t := fun y hy => by rw [h.fr] at hy; simpa using hy
  have h1 := h.waiting
  have h2 := h.maxp
  have h3 := h.defers
  have h4 := h.depth
  have h5 := h.begun
  refine ⟨h.hid, h.kb, by rw [h.fr]; simp, by omega, by omega, by omega, by omega, by rw [h.pans]; simp, by omega, by rw [h.evs]; simp, fun y hy => ?_, fun y hy => ?_, fun y hy d hd => ?_, fun _ t' b bl hf _ => ?_, ?_, fun y hy => ?_, fun y hy => ?_⟩
  · rw [mem y hy, h.f]; exact ⟨r, hr⟩
  · rw [mem y hy, h.defs]; simp
  · rw [mem y hy, h.defs] at hd; cases hd
  · rw [h.fr] at hf; cases hf
  · rw [h.fr]
    intro i j a b hi hj hij
    cases j with
    | zero => omega
    | succ j => cases hj
  · rw [mem y hy, h.why]; omega
  · rw [mem y hy, h.ser]; omega
/-- a step of a run of one frame -/
theorem One.step (HW : WaitOK bd) (hv : valid (grs rs) bd) (h : One t st) (hd : st.doing = 0) (hs : st.steps ≤ 100000) (hr : rs[0]? = some r) (hnd : r.ns[x]? = some nd) (hat : t.at_ = (x : Int)) (hop : nd.nd.op ≠ 2) (hmem : nd.nd ∈ r.gr.nodes)
    (hwd : ∀ p, PlOk r p → isW (getP (grs rs) bd st.regs { t with at_ := nd.nd.next } p))
    (hx : execI (grs rs) bd { st with steps := st.steps + 1 } { t with at_ := nd.nd.next } [] nd.nd = some st1) (h1 : One t1 st1) (hd1 : st1.doing = 0 ∨ st1.doing = 3) (hs1 : st1.steps = st.steps + 1) : StepB rs bd st st1 := by
  have hB : IBd rs bd (({ st with steps := st.steps + 1 } : IMc).top { t with at_ := nd.nd.next } []) := One.ibd (t := { t with at_ := nd.nd.next }) ⟨rfl, h.hid, h.kb, h.waiting, h.pans, h.evs, h.maxp, h.defers, h.depth, h.begun, h.defs, h.why, h.ser, h.f⟩ hr
  have hrt : rs[({ t with at_ := nd.nd.next } : IFr).f]? = some r := by show rs[t.f]? = _; rw [h.f]; exact hr
  refine ⟨t, [], r, nd, x, st1, 1, h.fr, h.hid, hrt, hnd, hat, by omega, Nat.zero_le _, join_any (fun h2 => absurd h2 hop) HW hv hrt hmem hB hd hwd hx, hx, ?_, ⟨h1.ibd hr, fun _ _ => trivial⟩, hs1, by rw [h1.evs]; simp⟩
  unfold settleI
  rw [if_neg (by omega)]
end
end Go.Proofs.Ytlnccpojldiogaa

/-
  IrunSums: the graph that goes round, reckoned, both ways of reading.
-/
namespace Go.Proofs.Ytlnccpojldiogaa
set_option linter.unusedVariables false
set_option linter.unusedSimpArgs false

def sumN (k s : Int) : List Nd := [⟨1, 0, 16, 0, 0, 0, 0, 0, k, [], 1, 0⟩, ⟨1, 0, 18, 0, 0, 0, 0, 0, s, [], 2, 0⟩, ⟨1, 0, 19, 0, 0, 0, 0, 0, 1, [], 3, 0⟩, ⟨9, 0, 0, 0, 16, 0, 0, 0, 0, [], 4, 6⟩, ⟨3, 7, 17, 0, 17, 18, 0, 0, 0, [], 5, 0⟩, ⟨3, 8, 16, 0, 16, 19, 0, 0, 0, [], 3, 0⟩, ⟨18, 0, 0, 0, 17, 0, 0, 0, 0, [], 0, 0⟩]
def sumGr (k s : Int) : Gr := ⟨[], List.replicate 20 0, 0, [], false, -1, sumN k s, 0⟩
def sumFr (a : Int) (wd : Nat → Int) : IFr := ⟨0, 0, 0, a, wd, [], 0, 0, List.replicate 16 0⟩
def sumS (bd : Bool) (a : Int) (wd : Nat → Int) (n : Nat) : IMc := ⟨[], [], [sumFr a wd], 1, [], 0, 0, 0, 0, n, 1, 0, 0, if bd = true then List.replicate 16 0 else [], 0, []⟩
def sumO (bd : Bool) (i : Nat) : Nat := if bd = true then i else 16 + i
theorem sum_start (bd : Bool) (k s : Int) : startI [sumGr k s] bd [] = sumS bd 0 (fun _ => 0) 0 := by cases bd <;> rfl
theorem sum_one (bd : Bool) (a : Int) (wd : Nat → Int) (n : Nat) : One (sumFr a wd) (sumS bd a wd n) := ⟨rfl, rfl, rfl, rfl, rfl, rfl, rfl, rfl, rfl, rfl, rfl, rfl, rfl, rfl⟩
section
variable {rs : List RG} {bd : Bool} {k s : Int} {r : RG} {wd : Nat → Int} {n : Nat}
theorem sum_own (bd : Bool) (k s : Int) (i : Nat) : ownAt [sumGr k s] bd 0 ((16 + i : Nat) : Int) = sumO bd i := by
  unfold ownAt sumO
  have e : (grOf [sumGr k s] 0).cells = 0 := rfl
  rw [e]
  cases bd <;> simp <;> omega
theorem sum_get (bd : Bool) (k s : Int) (regs : List Int) (t : IFr) (ht : t.f = 0) (i : Nat) : getP [sumGr k s] bd regs t ((16 + i : Nat) : Int) = t.words (sumO bd i) := by
  unfold getP
  rw [if_neg (by omega), ht, sum_own]
theorem sum_put (bd : Bool) (k s : Int) (a : Int) (i : Nat) (v : Int) : (sumS bd a wd n).put [sumGr k s] bd (sumFr a wd) [] ((16 + i : Nat) : Int) v = sumS bd a (put1 wd (sumO bd i) v) n := by
  unfold IMc.put putT putR
  rw [if_neg (by omega), if_neg (by omega)]
  show _ = _
  have e : ownAt [sumGr k s] bd (sumFr a wd).f ((16 + i : Nat) : Int) = sumO bd i := sum_own bd k s i
  rw [e]
  rfl
theorem sum_wd (hw : ∀ x, isW (wd x)) (a p : Int) (gs : List Gr) : isW (getP gs bd (sumS bd a wd n).regs (sumFr a wd) p) := by
  unfold getP
  split
  · next h =>
    show isW ((if bd = true then List.replicate 16 0 else []).getD p.toNat 0)
    rw [if_pos h.1, List.getD_eq_getElem?_getD, List.getElem?_replicate]
    split <;> exact ⟨by decide, by decide⟩
  · exact hw _
/-- what the places hold -/
def SumW (bd : Bool) (wd : Nat → Int) (c a s : Int) : Prop := wd (sumO bd 0) = c ∧ wd (sumO bd 1) = a ∧ wd (sumO bd 2) = s ∧ wd (sumO bd 3) = 1 ∧ ∀ x, isW (wd x)
theorem sum_step {x : Nat} {m : Nd} {st1 : IMc} {t1 : IFr} (HW : WaitOK bd) (hg : grs rs = [sumGr k s]) (hv : valid [sumGr k s] bd) (hr : rs[0]? = some r) (hns : nds r.ns = sumN k s) (hgr : r.gr = sumGr k s) (hx : (sumN k s)[x]? = some m) (hop : m.op ≠ 2) (hw : ∀ x, isW (wd x)) (hn : n ≤ 100000)
    (he : execI [sumGr k s] bd (sumS bd m.next wd (n + 1)) (sumFr m.next wd) [] m = some st1) (h1 : One t1 st1) (hd1 : st1.doing = 0 ∨ st1.doing = 3) (hs1 : st1.steps = n + 1) : StepB rs bd (sumS bd x wd n) st1 := by
  rw [← hns] at hx
  unfold nds at hx
  rw [List.getElem?_map] at hx
  obtain ⟨nd, hnd, rfl⟩ := Option.map_eq_some_iff.1 hx
  have he2 : execI [sumGr k s] bd { sumS bd x wd n with steps := (sumS bd x wd n).steps + 1 } { sumFr x wd with at_ := nd.nd.next } [] nd.nd = some st1 := by
    rw [← he]
    rfl
  refine One.step HW (by rw [hg]; exact hv) (sum_one bd x wd n) rfl hn hr hnd rfl hop ?_ (fun p _ => ?_) (by rw [hg]; exact he2) h1 hd1 hs1
  · rw [hgr]
    show nd.nd ∈ sumN k s
    rw [← hns]
    exact List.mem_map_of_mem (List.mem_of_getElem? hnd)
  · exact sum_wd (n := n) hw nd.nd.next p _
/-- what a run of it needs to know -/
structure SumE (rs : List RG) (bd : Bool) (k s : Int) (r : RG) : Prop where
  w : WaitOK bd
  g : grs rs = [sumGr k s]
  v : valid [sumGr k s] bd
  rz : rs[0]? = some r
  ns : nds r.ns = sumN k s
  gr : r.gr = sumGr k s
  ks : isW k
  ss : isW s
theorem isW_put (hw : ∀ x, isW (wd x)) (i : Nat) {v : Int} (hv : isW v) : ∀ x, isW (put1 wd i v x) := fun x => by
  unfold put1
  split
  · exact hv
  · exact hw x
theorem sumO_ne (bd : Bool) {i j : Nat} (h : i ≠ j) : sumO bd i ≠ sumO bd j := by unfold sumO; split <;> omega
theorem put1_at (i : Nat) (v : Int) : put1 wd i v i = v := by unfold put1; rw [if_pos rfl]
theorem put1_off {i j : Nat} (v : Int) (h : j ≠ i) : put1 wd i v j = wd j := by unfold put1; rw [if_neg h]
theorem runB_cons {st st2 st' : IMc} {m : Nat} (hd : st.doing = 0) (h : StepB rs bd st st2) (h2 : RunB rs bd m st2 st') : RunB rs bd (m + 1) st st' := by
  unfold RunB
  rw [if_neg (by omega)]
  exact ⟨st2, h, h2⟩
theorem sum_const {x i : Nat} {v nx : Int} (E : SumE rs bd k s r) (hx : (sumN k s)[x]? = some ⟨1, 0, ((16 + i : Nat) : Int), 0, 0, 0, 0, 0, v, [], nx, 0⟩) (hw : ∀ x, isW (wd x)) (hn : n ≤ 100000) : StepB rs bd (sumS bd x wd n) (sumS bd nx (put1 wd (sumO bd i) v) (n + 1)) :=
  sum_step (t1 := sumFr nx (put1 wd (sumO bd i) v)) E.w E.g E.v E.rz E.ns E.gr hx (show (1 : Int) ≠ 2 by decide) hw hn (congrArg some (sum_put bd k s nx i v)) (sum_one _ _ _ _) (.inl rfl) rfl
theorem sum_bin {x i j l : Nat} {op nx : Int} (E : SumE rs bd k s r) (hx : (sumN k s)[x]? = some ⟨3, op, ((16 + i : Nat) : Int), 0, ((16 + j : Nat) : Int), ((16 + l : Nat) : Int), 0, 0, 0, [], nx, 0⟩) (ho : op = 7 ∨ op = 8) (hw : ∀ x, isW (wd x)) (hn : n ≤ 100000) : StepB rs bd (sumS bd x wd n) (sumS bd nx (put1 wd (sumO bd i) (doV op (wd (sumO bd j)) (wd (sumO bd l)))) (n + 1)) := by
  refine sum_step (t1 := sumFr nx (put1 wd (sumO bd i) (doV op (wd (sumO bd j)) (wd (sumO bd l))))) E.w E.g E.v E.rz E.ns E.gr hx (show (3 : Int) ≠ 2 by decide) hw hn ?_ (sum_one _ _ _ _) (.inl rfl) rfl
  have g1 : getP [sumGr k s] bd (sumS bd nx wd (n + 1)).regs (sumFr nx wd) ((16 + j : Nat) : Int) = wd (sumO bd j) := sum_get bd k s _ _ rfl j
  have g2 : getP [sumGr k s] bd (sumS bd nx wd (n + 1)).regs (sumFr nx wd) ((16 + l : Nat) : Int) = wd (sumO bd l) := sum_get bd k s _ _ rfl l
  unfold execI
  rw [if_neg (show ¬ (3 : Int) = 1 by decide), if_neg (show ¬ (3 : Int) = 2 by decide), if_pos rfl]
  show (if doE op (getP _ _ _ _ _) = 0 then some (IMc.put _ _ _ _ _ _ (doV op (getP _ _ _ _ _) (getP _ _ _ _ _))) else _) = _
  rw [g1, g2, if_pos (by unfold doE; rw [if_neg (by omega)])]
  exact congrArg some (sum_put bd k s nx i _)
theorem sum_branch (E : SumE rs bd k s r) (hw : ∀ x, isW (wd x)) (hn : n ≤ 100000) : StepB rs bd (sumS bd 3 wd n) (sumS bd (if wd (sumO bd 0) = 0 then 6 else 4) wd (n + 1)) := by
  refine sum_step (x := 3) (m := ⟨9, 0, 0, 0, ((16 + 0 : Nat) : Int), 0, 0, 0, 0, [], 4, 6⟩) (t1 := sumFr (if wd (sumO bd 0) = 0 then 6 else 4) wd) E.w E.g E.v E.rz E.ns E.gr rfl (by decide) hw hn ?_ (sum_one _ _ _ _) (.inl rfl) rfl
  have g1 : getP [sumGr k s] bd (sumS bd 4 wd (n + 1)).regs (sumFr 4 wd) ((16 + 0 : Nat) : Int) = wd (sumO bd 0) := sum_get bd k s _ _ rfl 0
  unfold execI
  repeat rw [if_neg (by decide)]
  rw [if_pos rfl]
  show some (IMc.top _ { sumFr 4 wd with at_ := if getP _ _ _ _ _ = 0 then 6 else 4 } []) = _
  rw [g1]
  rfl
theorem sum_exit (E : SumE rs bd k s r) (hw : ∀ x, isW (wd x)) (hn : n ≤ 100000) : StepB rs bd (sumS bd 6 wd n) ((sumS bd 0 wd (n + 1)).over 1 (wd (sumO bd 1))) := by
  refine sum_step (x := 6) (m := ⟨18, 0, 0, 0, ((16 + 1 : Nat) : Int), 0, 0, 0, 0, [], 0, 0⟩) (t1 := sumFr 0 wd) E.w E.g E.v E.rz E.ns E.gr rfl (by decide) hw hn ?_ ⟨rfl, rfl, rfl, rfl, rfl, rfl, rfl, rfl, rfl, rfl, rfl, rfl, rfl, rfl⟩ (.inr rfl) rfl
  have g1 : getP [sumGr k s] bd (sumS bd 0 wd (n + 1)).regs (sumFr 0 wd) ((16 + 1 : Nat) : Int) = wd (sumO bd 1) := sum_get bd k s _ _ rfl 1
  unfold execI
  repeat rw [if_neg (by decide)]
  rw [if_pos rfl]
  show some ((IMc.top _ _ _).over 1 (getP _ _ _ _ _)) = _
  rw [g1]
  rfl
theorem sum_loop (E : SumE rs bd k s r) (m : Nat) (j : Nat) : ∀ (wd : Nat → Int) (n : Nat) (a : Int), SumW bd wd j a s → (j : Int) < 1000 → n + 3 * j ≤ 90000 →
    ∃ stF, RunB rs bd (3 * j + 2 + m) (sumS bd 3 wd n) stF ∧ stF.doing = 3 ∧ stF.endk = 1 ∧ stF.endv = (a + j * s) % 18446744073709551616 ∧ stF.steps = n + 3 * j + 2 := by
  induction j with
  | zero =>
    intro wd n a hW hj hn
    obtain ⟨w0, w1, w2, w3, hw⟩ := hW
    have h1 := sum_branch (n := n) E hw (by omega)
    rw [w0, if_pos (show ((0 : Nat) : Int) = 0 from rfl)] at h1
    have h2 := sum_exit (n := n + 1) E hw (by omega)
    refine ⟨(sumS bd 0 wd (n + 1 + 1)).over 1 (wd (sumO bd 1)), ?_, rfl, rfl, ?_, ?_⟩
    · rw [show 3 * 0 + 2 + m = m + 1 + 1 by omega]
      refine runB_cons rfl h1 (runB_cons rfl h2 ?_)
      cases m with
      | zero => rfl
      | succ m => unfold RunB; rw [if_pos (show ((sumS bd 0 wd (n + 1 + 1)).over 1 (wd (sumO bd 1))).doing = 3 from rfl)]
    · show wd (sumO bd 1) = _
      have := hw (sumO bd 1)
      rw [w1] at this ⊢
      unfold isW at this
      simp
      omega
    · show n + 1 + 1 = _
      omega
  | succ j ih =>
    intro wd n a hW hj hn
    obtain ⟨w0, w1, w2, w3, hw⟩ := hW
    have h1 := sum_branch (n := n) E hw (by omega)
    rw [w0, if_neg (by omega)] at h1
    have h2 := sum_bin (n := n + 1) (x := 4) (i := 1) (j := 1) (l := 2) (op := 7) (nx := 5) E rfl (.inl rfl) hw (by omega)
    have v1 : doV 7 (wd (sumO bd 1)) (wd (sumO bd 2)) = (a + s) % 18446744073709551616 := by
      rw [w1, w2]
      exact wrap_u64_eq _
    rw [v1] at h2
    have hw2 := isW_put (v := (a + s) % 18446744073709551616) hw (sumO bd 1) (by unfold isW; omega)
    have h3 := sum_bin (n := n + 1 + 1) (x := 5) (i := 0) (j := 0) (l := 3) (op := 8) (nx := 3) E rfl (.inr rfl) hw2 (by omega)
    have v2 : doV 8 (put1 wd (sumO bd 1) ((a + s) % 18446744073709551616) (sumO bd 0)) (put1 wd (sumO bd 1) ((a + s) % 18446744073709551616) (sumO bd 3)) = (j : Int) := by
      rw [put1_off _ (sumO_ne bd (by decide)), put1_off _ (sumO_ne bd (by decide)), w0, w3]
      show IntKind.u64.wrap _ = _
      rw [wrap_u64_eq]
      omega
    rw [v2] at h3
    obtain ⟨stF, r1, r2, r3, r4, r5⟩ := ih (put1 (put1 wd (sumO bd 1) ((a + s) % 18446744073709551616)) (sumO bd 0) j) (n + 1 + 1 + 1) ((a + s) % 18446744073709551616)
      ⟨put1_at _ _, by rw [put1_off _ (sumO_ne bd (by decide)), put1_at], by rw [put1_off _ (sumO_ne bd (by decide)), put1_off _ (sumO_ne bd (by decide)), w2], by rw [put1_off _ (sumO_ne bd (by decide)), put1_off _ (sumO_ne bd (by decide)), w3], isW_put hw2 _ (by unfold isW; omega)⟩ (by omega) (by omega)
    refine ⟨stF, ?_, r2, r3, ?_, by omega⟩
    · rw [show 3 * (j + 1) + 2 + m = (3 * j + 2 + m) + 1 + 1 + 1 by omega]
      exact runB_cons rfl h1 (runB_cons rfl h2 (runB_cons rfl h3 r1))
    · rw [r4, show a + ((j + 1 : Nat) : Int) * s = a + s + j * s by rw [show ((j + 1 : Nat) : Int) = (j : Int) + 1 by omega, Int.add_mul]; omega]
      exact Int.emod_add_emod _ _ _
/-- the whole run: k times round -/
theorem sum_all {kn : Nat} (E : SumE rs bd (kn : Int) s r) (hk : kn < 200) : ∃ stF, RunB rs bd 2000 (startI (grs rs) bd []) stF ∧ stF.doing = 3 ∧ stF.endk = 1 ∧ stF.endv = ((kn : Int) * s) % 18446744073709551616 ∧ stF.steps = 5 + 3 * kn := by
  rw [E.g, sum_start]
  have z0 : ∀ x : Nat, isW ((fun _ => 0 : Nat → Int) x) := fun _ => (show isW 0 from ⟨by decide, by decide⟩)
  have h0 := sum_const (n := 0) (x := 0) (i := 0) E rfl z0 (by omega)
  have z1 := isW_put z0 (sumO bd 0) E.ks
  have h1 := sum_const (n := 0 + 1) (x := 1) (i := 2) E rfl z1 (by omega)
  have z2 := isW_put z1 (sumO bd 2) E.ss
  have h2 := sum_const (n := 0 + 1 + 1) (x := 2) (i := 3) E rfl z2 (by omega)
  have z3 := isW_put (v := 1) z2 (sumO bd 3) ⟨by decide, by decide⟩
  obtain ⟨stF, r1, r2, r3, r4, r5⟩ := sum_loop E (1995 - 3 * kn) kn _ (0 + 1 + 1 + 1) 0 ⟨by rw [put1_off _ (sumO_ne bd (by decide)), put1_off _ (sumO_ne bd (by decide)), put1_at], by rw [put1_off _ (sumO_ne bd (by decide)), put1_off _ (sumO_ne bd (by decide)), put1_off _ (sumO_ne bd (by decide))], by rw [put1_off _ (sumO_ne bd (by decide)), put1_at], put1_at _ _, z3⟩ (by omega) (by omega)
  refine ⟨stF, ?_, r2, r3, by rw [r4]; simp, by omega⟩
  rw [show 2000 = (3 * kn + 2 + (1995 - 3 * kn)) + 1 + 1 + 1 by omega]
  exact runB_cons rfl h0 (runB_cons rfl h1 (runB_cons rfl h2 r1))
end
end Go.Proofs.Ytlnccpojldiogaa

/-
  IrunSums: the graph is valid, whatever its two words.
-/
namespace Go.Proofs.Ytlnccpojldiogaa
set_option linter.unusedVariables false
open Go.RowKit

theorem sum_validF (k s : Int) : valid [sumGr k s] false := of_decide_eq_true (by kernel_rfl)
theorem sum_validT (k s : Int) : valid [sumGr k s] true := of_decide_eq_true (by kernel_rfl)
theorem wfn_imm {m : Nd} {v : Int} (h : WfN m) (hv : isW v) : WfN { m with imm := v } := ⟨h.o0, h.o1, h.q0, h.q1, h.d, h.e, h.a, h.b, h.f, h.cell, hv.1, by have := hv.2; show v ≤ _; omega, h.args, h.next, h.els, h.al⟩
theorem sum_wfn {k s : Int} (hk : isW k) (hs : isW s) : ∀ m ∈ sumN k s, WfN m := by
  intro m hm
  simp only [sumN, List.mem_cons, List.not_mem_nil, or_false] at hm
  rcases hm with rfl | rfl | rfl | rfl | rfl | rfl | rfl
  · exact wfn_imm (m := ⟨1, 0, 16, 0, 0, 0, 0, 0, 0, [], 1, 0⟩) ⟨by decide, by decide, by decide, by decide, ⟨by decide, by decide⟩, ⟨by decide, by decide⟩, ⟨by decide, by decide⟩, ⟨by decide, by decide⟩, ⟨by decide, by decide⟩, ⟨by decide, by decide⟩, by decide, by decide, (fun x h => by cases h), ⟨by decide, by decide⟩, ⟨by decide, by decide⟩, by decide⟩ hk
  · exact wfn_imm (m := ⟨1, 0, 18, 0, 0, 0, 0, 0, 0, [], 2, 0⟩) ⟨by decide, by decide, by decide, by decide, ⟨by decide, by decide⟩, ⟨by decide, by decide⟩, ⟨by decide, by decide⟩, ⟨by decide, by decide⟩, ⟨by decide, by decide⟩, ⟨by decide, by decide⟩, by decide, by decide, (fun x h => by cases h), ⟨by decide, by decide⟩, ⟨by decide, by decide⟩, by decide⟩ hs
  all_goals exact ⟨by decide, by decide, by decide, by decide, ⟨by decide, by decide⟩, ⟨by decide, by decide⟩, ⟨by decide, by decide⟩, ⟨by decide, by decide⟩, ⟨by decide, by decide⟩, ⟨by decide, by decide⟩, by decide, by decide, (fun x h => by cases h), ⟨by decide, by decide⟩, ⟨by decide, by decide⟩, by decide⟩
theorem sum_wfg {k s : Int} (hk : isW k) (hs : isW s) : WfG (sumGr k s) := ⟨(fun x h => by cases h), (by intro b hb; simp [sumGr] at hb; subst hb; decide), ⟨by show (_ : Int) ≤ 0; decide, by show (0 : Int) ≤ _; decide⟩, (fun x h => by cases h), ⟨by show (_ : Int) ≤ -1; decide, by show (-1 : Int) ≤ _; decide⟩, sum_wfn hk hs, ⟨by show (_ : Int) ≤ 0; decide, by show (0 : Int) ≤ _; decide⟩, by simp [sumGr], by simp [sumGr], by simp [sumGr], by simp [sumGr, sumN]⟩
end Go.Proofs.Ytlnccpojldiogaa

/-
  IrunSums: the graph in memory.
-/
namespace Go.Proofs.Ytlnccpojldiogaa
set_option linter.unusedVariables false
set_option linter.unusedSimpArgs false
open Go.ChangeShapes Go.WideShapes Go.ChangeAt Go.RowKit

def rgS (k s : Int) (z : Nat) : RG := ⟨sumGr k s, none, 0, some ⟨z, 0, none⟩, 20, none, 0, some ⟨z + 1, 0, none⟩, 7, (sumN k s).map fun m => ⟨m, none, 0⟩⟩
theorem reads_blk {W : World} {b B size n : Nat} {t : TypeId} {cs : List Value} (h : Blk W b t cs.toArray) (hb : b < B) (hs : cs.length = n * size) : Reads W B size (some ⟨b, 0, none⟩) n cs :=
  ⟨hs, fun _ => ⟨_, rfl, hb, fun j u hj => by
    have ea : (⟨b, 0, none⟩ : Addr).add j = ⟨b, j, none⟩ := by simp [Addr.add]; exact Eq.symm
    rw [ea, h.cell]
    simpa using hj⟩⟩
theorem sum_rd {W : World} {z : Nat} {k s : Int} (hk : isW k) (hs : isW s) (h1 : Blk W z 67 (u8c (List.replicate 20 0)).toArray) (h2 : Blk W (z + 1) 45 (rnc (rgS k s z).ns).toArray) (h3 : Blk W (z + 3) 48 (rgc [rgS k s z]).toArray) : RdP W (z + 4) (some ⟨z + 3, 0, none⟩) 1 [rgS k s z] := by
  have k1 : Reads W (z + 4) 1 (some ⟨z, 0, none⟩) 20 (u8c (List.replicate 20 0)) := reads_blk h1 (by omega) (by simp [u8c])
  have k2 : Reads W (z + 4) 12 (some ⟨z + 1, 0, none⟩) 7 (rnc (rgS k s z).ns) := reads_blk h2 (by omega) (by rw [length_rnc]; simp [rgS, sumN])
  have k3 : Reads W (z + 4) 8 (some ⟨z + 3, 0, none⟩) 1 (rgc [rgS k s z]) := reads_blk h3 (by omega) (by rw [length_rgc]; rfl)
  clear h1 h2 h3
  refine ⟨k3, rfl, fun r hr => ?_, fun r hr => ?_, by omega⟩
  · obtain rfl : r = rgS k s z := by simpa using hr
    refine ⟨Reads.none_, k1, Reads.none_, ⟨k2, ?_, fun i hi => ?_, fun i hi => ?_⟩, ?_, Nat.le_refl _⟩
    · rfl
    · obtain ⟨m, hm, rfl⟩ := List.mem_map.1 hi
      have ha : m.args = [] := by
        simp only [sumN, List.mem_cons, List.not_mem_nil, or_false] at hm
        rcases hm with rfl | rfl | rfl | rfl | rfl | rfl | rfl <;> rfl
      refine ⟨?_, by show m.args.length ≤ _; rw [ha]; exact Nat.zero_le _⟩
      show Reads W (z + 4) 1 none m.args.length (i64c m.args)
      rw [ha]
      exact Reads.none_
    · obtain ⟨m, hm, rfl⟩ := List.mem_map.1 hi
      exact sum_wfn hk hs m hm
    · rfl
  · obtain rfl : r = rgS k s z := by simpa using hr
    exact sum_wfg hk hs
theorem sumE_free {k s : Int} (hk : isW k) (hs : isW s) (z : Nat) : SumE [rgS k s z] false k s (rgS k s z) := ⟨waitOK_free, rfl, sum_validF k s, rfl, rfl, rfl, hk, hs⟩
theorem sumE_bound {k s : Int} (hk : isW k) (hs : isW s) (z : Nat) : SumE [rgS k s z] true k s (rgS k s z) := ⟨waitOK_bound, rfl, sum_validT k s, rfl, rfl, rfl, hk, hs⟩
end Go.Proofs.Ytlnccpojldiogaa
