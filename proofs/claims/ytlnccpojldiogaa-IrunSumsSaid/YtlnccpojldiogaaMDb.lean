/-
  Texts of one seat, one behind the other: IRunW.
-/
import Derived.StillTailTactics
import Derived.Deep.RegionLaw
import Derived.LoopTactic
import Derived.Deep.LoopGhost
import Derived.Test.YtlnccpojldiogaaMDa
import Derived.Test.YtlnccpojldiogaaMAj

/-
  Package irun: Run, where the graphs are valid and the fuel is within its bounds.
-/
namespace Go.Proofs.Ytlnccpojldiogaa
set_option linter.unusedVariables false
set_option linter.unusedSimpArgs false
open Go.ChangeShapes Go.WideShapes Go.ChangeAt Go.RowKit

/-- what is read and written at a run's end -/
theorem fin_any {w w0 W : World} {bd : Bool} {rb tg fa fo n c z rgb : Nat} {rs : List RG} {st : IMc} {gl : List Nat} (h : IRunX w0 bd rb tg fa fo n c rs st gl rgb W) (hd : st.doing = 3) (hz : Blk w0 z 34 #[.slice none 0 0, .int .i64 0, .int .u64 0, .int .i64 0, .int .i64 0, .int .i64 0, .int .i64 0]) (hb : Below w.heap.size w w0) (hw : w.heap.size ≤ w0.heap.size) :
    ∃ AE cE, W.cell? ⟨rb, 8, none⟩ = some (.slice AE st.evs.length cE) ∧ W.cell? ⟨rb, 9, none⟩ = some (.int .i64 st.endk) ∧ W.cell? ⟨rb, 10, none⟩ = some (.int .u64 st.endv) ∧ W.cell? ⟨rb, 11, none⟩ = some (.int .i64 st.steps) ∧ W.cell? ⟨rb, 12, none⟩ = some (.int .i64 st.depth) ∧ W.cell? ⟨rb, 13, none⟩ = some (.int .i64 st.defers) ∧ W.cell? ⟨rb, 14, none⟩ = some (.int .i64 st.maxp) ∧
      Blk W z 34 #[.slice none 0 0, .int .i64 0, .int .u64 0, .int .i64 0, .int .i64 0, .int .i64 0, .int .i64 0] ∧ z < W.heap.size ∧ rb < W.heap.size ∧ W.ownsRow w.heap.size 79 2 (.slice AE st.evs.length cE) st.evs.length (ievc st.evs) ∧ Below w.heap.size w W := by
  obtain ⟨g, ow, hR, _⟩ := h
  have hbw := hR.below
  have hev := (hR.done hd).own
  obtain ⟨AE, cE, he⟩ := own_slice hev
  rw [he] at hev
  have hB := hR.run.blk
  have hzz := hz.below hbw hz.lt
  exact ⟨AE, cE, by rw [hB.cell, ← he]; rfl, by rw [hB.cell]; rfl, by rw [hB.cell]; rfl, by rw [hB.cell]; rfl, by rw [hB.cell]; rfl, by rw [hB.cell]; rfl, by rw [hB.cell]; rfl, hzz, hzz.lt, hB.lt, own_more hev hw, hb.trans (hbw.mono hw)⟩
theorem fin_set {w W : World} {z : Nat} {AE : Option Addr} {cE : Nat} (st : IMc) (hz : Blk W z 34 #[.slice none 0 0, .int .i64 0, .int .u64 0, .int .i64 0, .int .i64 0, .int .i64 0, .int .i64 0]) (hzw : w.heap.size ≤ z) (hev : W.ownsRow w.heap.size 79 2 (.slice AE st.evs.length cE) st.evs.length (ievc st.evs)) (hb : Below w.heap.size w W) :
    Blk (((((((W.setCell ⟨z, 0, none⟩ (.slice AE st.evs.length cE)).setCell ⟨z, 1, none⟩ (.int .i64 st.endk)).setCell ⟨z, 2, none⟩ (.int .u64 st.endv)).setCell ⟨z, 3, none⟩ (.int .i64 st.steps)).setCell ⟨z, 4, none⟩ (.int .i64 st.depth)).setCell ⟨z, 5, none⟩ (.int .i64 st.defers)).setCell ⟨z, 6, none⟩ (.int .i64 st.maxp)) z 34 #[.slice AE st.evs.length cE, .int .i64 st.endk, .int .u64 st.endv, .int .i64 st.steps, .int .i64 st.depth, .int .i64 st.defers, .int .i64 st.maxp] ∧ World.ownsRow (((((((W.setCell ⟨z, 0, none⟩ (.slice AE st.evs.length cE)).setCell ⟨z, 1, none⟩ (.int .i64 st.endk)).setCell ⟨z, 2, none⟩ (.int .u64 st.endv)).setCell ⟨z, 3, none⟩ (.int .i64 st.steps)).setCell ⟨z, 4, none⟩ (.int .i64 st.depth)).setCell ⟨z, 5, none⟩ (.int .i64 st.defers)).setCell ⟨z, 6, none⟩ (.int .i64 st.maxp)) w.heap.size 79 2 (.slice AE st.evs.length cE) st.evs.length (ievc st.evs) ∧ Below w.heap.size w (((((((W.setCell ⟨z, 0, none⟩ (.slice AE st.evs.length cE)).setCell ⟨z, 1, none⟩ (.int .i64 st.endk)).setCell ⟨z, 2, none⟩ (.int .u64 st.endv)).setCell ⟨z, 3, none⟩ (.int .i64 st.steps)).setCell ⟨z, 4, none⟩ (.int .i64 st.depth)).setCell ⟨z, 5, none⟩ (.int .i64 st.defers)).setCell ⟨z, 6, none⟩ (.int .i64 st.maxp)) := by
  have b1 := hz.set_ 0 (.slice AE st.evs.length cE)
  have b2 := b1.set_ 1 (.int .i64 st.endk)
  have b3 := b2.set_ 2 (.int .u64 st.endv)
  have b4 := b3.set_ 3 (.int .i64 st.steps)
  have b5 := b4.set_ 4 (.int .i64 st.depth)
  have b6 := b5.set_ 5 (.int .i64 st.defers)
  have b7 := b6.set_ 6 (.int .i64 st.maxp)
  refine ⟨b7, ?_, ?_⟩
  · exact own_far (own_far (own_far (own_far (own_far (own_far (own_far hev hz (by decide) _ _) b1 (by decide) _ _) b2 (by decide) _ _) b3 (by decide) _ _) b4 (by decide) _ _) b5 (by decide) _ _) b6 (by decide) _ _
  · exact ((((((hb.setCell (p := ⟨z, 0, none⟩) hzw _).setCell (p := ⟨z, 1, none⟩) hzw _).setCell (p := ⟨z, 2, none⟩) hzw _).setCell (p := ⟨z, 3, none⟩) hzw _).setCell (p := ⟨z, 4, none⟩) hzw _).setCell (p := ⟨z, 5, none⟩) hzw _).setCell (p := ⟨z, 6, none⟩) hzw _
/-- what Run answers -/
def IRunR (w : World) (st : IMc) (e : Ending) (w' : World) : Prop := ∃ ev, e = .returned (.tuple #[.agg #[ev, .int .i64 st.endk, .int .u64 st.endv, .int .i64 st.steps, .int .i64 st.depth, .int .i64 st.defers, .int .i64 st.maxp], .int .i64 0]) ∧ w'.ownsRow w.heap.size 79 2 ev st.evs.length (ievc st.evs) ∧ Below w.heap.size w w'
set_option maxRecDepth 100000 in
set_option maxHeartbeats 12800000 in
theorem run_okF (HRES : ResumeOK false) (B fa fo n c : Nat) (rs : List RG) (ta : Option Addr) (nt ct : Nat) (tape : List Int) (fuel : Nat) (stF : IMc) (w : World) (h : RdP w B (some ⟨fa, fo, none⟩) n rs) (hB : B ≤ w.heap.size) (ht : Reads w B 1 ta nt (u64c tape)) (hnt : nt * 8 ≤ 140737488351232) (hfu : fuel ≤ 1048576) (hv : valid (grs rs) false)
    (hR : RunB rs false fuel (startI (grs rs) false tape) stF) (stE : IMc) (hE : stE = if stF.doing = 3 then stF else stF.over 3 0) :
    Calls Try.prog 10 #[.agg #[.slice (some ⟨fa, fo, none⟩) n c], .bool false, .slice ta nt ct, .int .i64 fuel] w (IRunR w stE) := by
  have HB0 : Hid (Below w.heap.size w ((w.alloc (.cells #[.slice (some ⟨fa, fo, none⟩) n c] 24)).alloc (.cells #[.slice none 0 0, .int .i64 0, .int .u64 0, .int .i64 0, .int .i64 0, .int .i64 0, .int .i64 0] 34))) := ((Below.refl _ _).alloc (Nat.le_refl _) _).alloc (by simp) _
  have HX0 : Hid (Blk ((w.alloc (.cells #[.slice (some ⟨fa, fo, none⟩) n c] 24)).alloc (.cells #[.slice none 0 0, .int .i64 0, .int .u64 0, .int .i64 0, .int .i64 0, .int .i64 0, .int .i64 0] 34)) w.heap.size 24 #[.slice (some ⟨fa, fo, none⟩) n c]) := Lib.hid ((Blk.new w _ _).alloc _)
  have HZ0 : Hid (Blk ((w.alloc (.cells #[.slice (some ⟨fa, fo, none⟩) n c] 24)).alloc (.cells #[.slice none 0 0, .int .i64 0, .int .u64 0, .int .i64 0, .int .i64 0, .int .i64 0, .int .i64 0] 34)) (w.heap.size + 1) 34 #[.slice none 0 0, .int .i64 0, .int .u64 0, .int .i64 0, .int .i64 0, .int .i64 0, .int .i64 0]) := Lib.hid (by
    have := Blk.new (w.alloc (.cells #[.slice (some ⟨fa, fo, none⟩) n c] 24)) 34 #[.slice none 0 0, .int .i64 0, .int .u64 0, .int .i64 0, .int .i64 0, .int .i64 0, .int .i64 0]
    rwa [show (w.alloc (.cells #[.slice (some ⟨fa, fo, none⟩) n c] 24)).heap.size = w.heap.size + 1 by simp] at this)
  have H := Lib.hid h
  have HT := Lib.hid ht
  have hC := check_any B (some ⟨fa, fo, none⟩) n c rs false _ (h.below (HB0.out.mono hB)) (by simp; omega)
  rw [if_pos hv] at hC
  have HC := Lib.hid hC
  have HV := Lib.hid hv
  have HRB := Lib.hid hR
  have HRES := Lib.hid HRES
  have hf0 : decide ((fuel : Int) < 0) = false := by simp
  have hf1 : decide ((fuel : Int) > 1048576) = false := by simp; omega
  have HE := Lib.hid hE
  clear h ht hv hR hE hC
  go_enter Try.func10, Try.ntmps10
  go_wp2_with (first | (go_at_call 21; refine HC.out.mono ?_; rintro e w2 ⟨rfl, hb2⟩; have HX2 := Lib.hid (HX0.out.below hb2 HX0.out.lt); have HZ2 := Lib.hid (HZ0.out.below hb2 HZ0.out.lt); have HB2 := Lib.hid (HB0.out.trans (hb2.mono (by simp; omega))); have x2 : w2.cell? ⟨w.heap.size, 0, none⟩ = some (.slice (some ⟨fa, fo, none⟩) n c) := HX2.out.cell 0; have hz2 : w.heap.size + 1 < w2.heap.size := HZ2.out.lt; clear hb2))
  have hbv : Below w2.heap.size w2 w2.drew := (Below.refl _ _).drew
  have HX3 := Lib.hid (HX2.out.below hbv HX2.out.lt)
  have HZ3 := Lib.hid (HZ2.out.below hbv HZ2.out.lt)
  have HB3 := Lib.hid (HB2.out.trans (hbv.mono (by omega)))
  have HN : Hid (Calls Try.prog 23 #[.slice ta nt ct] w2.drew fun e w4 => ∃ tg v', e = .returned (.pointer (some ⟨tg, 0, none⟩)) ∧ w2.heap.size ≤ w4.heap.size ∧ w4.cell? ⟨w.heap.size, 0, none⟩ = some (.slice (some ⟨fa, fo, none⟩) n c) ∧ Hid (IRunX w2.drew false w4.heap.size tg fa fo n c rs (mcI0 false tape) [] 0 (w4.alloc (.cells #[.slice (some ⟨fa, fo, none⟩) n c, .func (.func 22) #[] #[], ptrI tg, .slice none 0 0, .int .u64 0, .slice none 0 0, .int .i64 0, .int .i64 0, .slice none 0 0, .int .i64 0, .int .u64 0, .int .i64 0, .int .i64 0, .int .i64 0, .int .i64 0] 91))) ∧ Hid (Below w2.heap.size w2 w4)) := Lib.hid ((new_any B ta nt ct tape w2.drew (HT.out.below (HB3.out.mono hB)) (by show B ≤ w2.heap.size; omega) (by omega)).mono fun e w4 ⟨tg, v', he, htg, hown, htb, hb4⟩ => by
    refine ⟨tg, v', he, hb4.size, (HX3.out.below hb4 HX3.out.lt).cell 0, Lib.hid ?_, Lib.hid (hbv.trans hb4)⟩
    exact IRunX.start (hb4.alloc hb4.size _) (((H.out.below (HB3.out.mono hB)).more (show B ≤ w2.drew.heap.size by show B ≤ w2.heap.size; omega)).below (hb4.alloc hb4.size _)) HV.out (htb.alloc _) (hown.alloc _) htg hb4.size (Blk.new w4 _ _) (fun h => by cases h))
  clear hbv
  go_region_law (go_simp; go_at_call 23; refine HN.out.mono ?_; rintro e w4 ⟨tg, v', rfl, hz4, x4, HRX, HB4⟩)
  all_goals
    have HBG : Hid (∀ w5 rgb, IRunX w2.drew false w4.heap.size tg fa fo n c rs (mcI0 false tape) [] rgb w5 → Calls Try.prog 25 #[.pointer (some ⟨w4.heap.size, 0, none⟩), .int .i64 0, .agg #[.int .i64 0, .slice none 0 0]] w5 fun e w' => e = .returned (.tuple #[]) ∧ ∃ fb, IRunX w2.drew false w4.heap.size tg fa fo n c rs (startI (grs rs) false tape) [fb] rgb w') := Lib.hid fun w5 rgb h5 => begin_first h5
    obtain ⟨rb, hrb⟩ : ∃ x, x = w4.heap.size := ⟨_, rfl⟩
    go_wp2_with (first
      | (go_at_call 25; refine (HBG.out _ _ (by first | exact HRX.out | exact HRX.out.on (Below.refl _ _).drew)).mono ?_; rintro e w6 ⟨rfl, fb6, h6⟩; have H6 := Lib.hid h6; clear h6))
    rw [← hrb] at H6 ⊢
    clear hrb HBG HRX x4 HB4
    go_loopg [] fuel (fun kz wr => ∃ (k : Nat) (st : IMc) (gl : List Nat), Hid (IRunX w2.drew false rb tg fa fo n c rs st gl 0 wr) ∧ Hid (RunB rs false k st stF) ∧ Hid (k + st.steps = fuel) ∧ Hid (st.evs.length ≤ 1048577) ∧ Hid (k = kz))
    case atStart => exact ⟨fuel, _, _, H6, HRB, Lib.hid (by show fuel + 0 = fuel; omega), Lib.hid (by show 0 ≤ _; omega), Lib.hid rfl⟩
    case round =>
      clear H6 HRB
      obtain ⟨k, st, gl, HX, HRB, HK, HEVL, hkz⟩ := hrel
      obtain ⟨hrz, c6, c10, _, _⟩ := HX.out.cells8
      by_cases hd3 : st.doing = 3
      · have HF := Lib.hid (HRB.out.over hd3)
        have HDO := Lib.hid hd3
        have HFIN := Lib.hid (fin_any HX.out hd3 HZ3.out (HB3.out) (by show w.heap.size ≤ w2.heap.size; omega))
        rw [hd3] at c6
        clear hd3
        obtain ⟨AE, cE, r7, r8, r9, r10, r11, r12, r13, hzb, hzz, hrbz, hev, hbw⟩ := HFIN.out
        have HZB := Lib.hid hzb
        have HEV := Lib.hid hev
        have HBW := Lib.hid hbw
        have z0 : wr.cell? ⟨w.heap.size + 1, 0, none⟩ = some (.slice none 0 0) := hzb.cell 0
        have z1 : wr.cell? ⟨w.heap.size + 1, 1, none⟩ = some (.int .i64 0) := hzb.cell 1
        have z2 : wr.cell? ⟨w.heap.size + 1, 2, none⟩ = some (.int .u64 0) := hzb.cell 2
        have z3 : wr.cell? ⟨w.heap.size + 1, 3, none⟩ = some (.int .i64 0) := hzb.cell 3
        have z4 : wr.cell? ⟨w.heap.size + 1, 4, none⟩ = some (.int .i64 0) := hzb.cell 4
        have z5 : wr.cell? ⟨w.heap.size + 1, 5, none⟩ = some (.int .i64 0) := hzb.cell 5
        have z6 : wr.cell? ⟨w.heap.size + 1, 6, none⟩ = some (.int .i64 0) := hzb.cell 6
        have zf : ∀ i, wr.frozen? ⟨w.heap.size + 1, i, none⟩ = false := fun i => hzb.frozen i
        clear hzb hev hbw
        go_wp2
        obtain ⟨hfb, hfe, hfw⟩ := fin_set st HZB.out (by omega) HEV.out HBW.out
        obtain ⟨Wf, hWf⟩ : ∃ W, W = (((((((wr.setCell ⟨w.heap.size + 1, 0, none⟩ (.slice AE st.evs.length cE)).setCell ⟨w.heap.size + 1, 1, none⟩ (.int .i64 st.endk)).setCell ⟨w.heap.size + 1, 2, none⟩ (.int .u64 st.endv)).setCell ⟨w.heap.size + 1, 3, none⟩ (.int .i64 st.steps)).setCell ⟨w.heap.size + 1, 4, none⟩ (.int .i64 st.depth)).setCell ⟨w.heap.size + 1, 5, none⟩ (.int .i64 st.defers)).setCell ⟨w.heap.size + 1, 6, none⟩ (.int .i64 st.maxp)) := ⟨_, rfl⟩
        rw [← hWf] at hfb hfe hfw ⊢
        clear hWf
        have e0 := hfb.cell 0
        have e1 := hfb.cell 1
        have e2 := hfb.cell 2
        have e3 := hfb.cell 3
        have e4 := hfb.cell 4
        have e5 := hfb.cell 5
        have e6 := hfb.cell 6
        simp only [List.getElem?_toArray, List.getElem?_cons_succ, List.getElem?_cons_zero] at e0 e1 e2 e3 e4 e5 e6
        refine bodyPost_ret (v := .tuple #[.agg #[.slice AE st.evs.length cE, .int .i64 st.endk, .int .u64 st.endv, .int .i64 st.steps, .int .i64 st.depth, .int .i64 st.defers, .int .i64 st.maxp], .int .i64 0]) (by simp [results, Try.results10, go_sem, e0, e1, e2, e3, e4, e5, e6]) rfl ?_
        rw [HE.out, HF.out, if_pos HDO.out]
        exact ⟨_, rfl, hfe, hfw⟩
      · cases k with
        | zero =>
          have hst : st.steps = fuel := by have := HK.out; omega
          have HF : Hid (stF = st) := Lib.hid HRB.out
          have HD3 := Lib.hid hd3
          have hg : (st.doing != 3) = true := by simpa using hd3
          rw [hst] at c10
          have HEN := Lib.hid (end_any 3 0 HX.out hd3 HEVL.out)
          clear hd3 hst
          obtain ⟨sv, hsv⟩ : ∃ x, x = st.over 3 0 := ⟨_, rfl⟩
          have HSV := Lib.hid hsv
          rw [← hsv] at HEN
          clear hsv
          go_wp2_with (first | (go_at_call 27; refine HEN.out.mono ?_; rintro e w8 ⟨rfl, h8⟩; refine Hid.out ?_))
          obtain ⟨AE, cE, r7, r8, r9, r10, r11, r12, r13, hzb, hzz, hrbz, hev, hbw⟩ := fin_any h8 (by rw [HSV.out]; rfl) HZ3.out (HB3.out) (by show w.heap.size ≤ w2.heap.size; omega)
          have HZB := Lib.hid hzb
          have HEV := Lib.hid hev
          have HBW := Lib.hid hbw
          have z0 : w8.cell? ⟨w.heap.size + 1, 0, none⟩ = some (.slice none 0 0) := hzb.cell 0
          have z1 : w8.cell? ⟨w.heap.size + 1, 1, none⟩ = some (.int .i64 0) := hzb.cell 1
          have z2 : w8.cell? ⟨w.heap.size + 1, 2, none⟩ = some (.int .u64 0) := hzb.cell 2
          have z3 : w8.cell? ⟨w.heap.size + 1, 3, none⟩ = some (.int .i64 0) := hzb.cell 3
          have z4 : w8.cell? ⟨w.heap.size + 1, 4, none⟩ = some (.int .i64 0) := hzb.cell 4
          have z5 : w8.cell? ⟨w.heap.size + 1, 5, none⟩ = some (.int .i64 0) := hzb.cell 5
          have z6 : w8.cell? ⟨w.heap.size + 1, 6, none⟩ = some (.int .i64 0) := hzb.cell 6
          have zf : ∀ i, w8.frozen? ⟨w.heap.size + 1, i, none⟩ = false := fun i => hzb.frozen i
          clear hzb hev hbw h8
          refine Lib.hid ?_
          go_wp2
          obtain ⟨hfb, hfe, hfw⟩ := fin_set sv HZB.out (by omega) HEV.out HBW.out
          obtain ⟨Wf, hWf⟩ : ∃ W, W = (((((((w8.setCell ⟨w.heap.size + 1, 0, none⟩ (.slice AE sv.evs.length cE)).setCell ⟨w.heap.size + 1, 1, none⟩ (.int .i64 sv.endk)).setCell ⟨w.heap.size + 1, 2, none⟩ (.int .u64 sv.endv)).setCell ⟨w.heap.size + 1, 3, none⟩ (.int .i64 sv.steps)).setCell ⟨w.heap.size + 1, 4, none⟩ (.int .i64 sv.depth)).setCell ⟨w.heap.size + 1, 5, none⟩ (.int .i64 sv.defers)).setCell ⟨w.heap.size + 1, 6, none⟩ (.int .i64 sv.maxp)) := ⟨_, rfl⟩
          rw [← hWf] at hfb hfe hfw ⊢
          clear hWf
          have e0 := hfb.cell 0
          have e1 := hfb.cell 1
          have e2 := hfb.cell 2
          have e3 := hfb.cell 3
          have e4 := hfb.cell 4
          have e5 := hfb.cell 5
          have e6 := hfb.cell 6
          simp only [List.getElem?_toArray, List.getElem?_cons_succ, List.getElem?_cons_zero] at e0 e1 e2 e3 e4 e5 e6
          refine bodyPost_ret (v := .tuple #[.agg #[.slice AE sv.evs.length cE, .int .i64 sv.endk, .int .u64 sv.endv, .int .i64 sv.steps, .int .i64 sv.depth, .int .i64 sv.defers, .int .i64 sv.maxp], .int .i64 0]) (by simp [results, Try.results10, go_sem, e0, e1, e2, e3, e4, e5, e6]) rfl ?_
          rw [HE.out, HF.out, if_neg HD3.out, ← HSV.out]
          exact ⟨_, rfl, hfe, hfw⟩
        | succ k =>
          have hst : st.steps < fuel := by have := HK.out; omega
          have hg : (st.doing != 3) = true := by simpa using hd3
          obtain ⟨st2, hsb, hrb2⟩ : ∃ st2, StepB rs false st st2 ∧ RunB rs false k st2 stF := by have h1 := HRB.out; unfold RunB at h1; rw [if_neg hd3] at h1; exact h1
          have HST := Lib.hid (stepB_any HRES.out HX.out hsb)
          obtain ⟨s, hs⟩ : ∃ s, s = st.steps := ⟨_, rfl⟩
          have HK2 : Hid (k + st2.steps = fuel) := Lib.hid (by obtain ⟨_, _, _, _, _, _, _, _, _, _, _, _, _, _, _, _, _, _, h1, _⟩ := hsb; have := HK.out; omega)
          have HEV2 : Hid (st2.evs.length ≤ 1048577) := Lib.hid (by obtain ⟨_, _, _, _, _, _, _, _, _, _, _, _, _, _, _, _, _, _, _, h1⟩ := hsb; exact h1)
          have HRB2 := Lib.hid hrb2
          rw [← hs] at c10 hst
          clear hsb hrb2 hs hd3
          go_wp2_with (first | (go_at_call 26; refine HST.out.mono ?_; rintro e w7 ⟨rfl, gl2, h7⟩; have H7 := Lib.hid h7; clear h7))
          go_roundg k
          case measure => have := hkz.out; omega
          case rel => exact ⟨k, st2, gl2, H7, HRB2, HK2, HEV2, Lib.hid rfl⟩
end Go.Proofs.Ytlnccpojldiogaa
