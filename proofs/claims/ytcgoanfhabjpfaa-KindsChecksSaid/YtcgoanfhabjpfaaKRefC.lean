/-
  Package kinds: codeRefersWell, refersWell.
-/
import Derived.Test.YtcgoanfhabjpfaaKRefB
namespace Go.Proofs.Ytcgoanfhabjpfaa
set_option linter.unusedVariables false
open Go.ChangeShapes Go.WideShapes Go.ChangeAt Go.RowKit

set_option maxRecDepth 100000 in
set_option maxHeartbeats 3200000 in
theorem codeRef_any (B : Nat) (r : Raw) (fs : List Fn) (m : Nat) (w : World) (h : RdF w B r) (hw : WfF r.fn) (hB : B ≤ w.heap.size) (hm : fs.length = m) (hm1 : m ≤ 255) (h0 : ∀ i ∈ r.fn.code, 0 ≤ i.arg) :
    Calls Try.prog 30 #[.agg #[.int .i64 r.fn.params, .slice r.lo r.fn.locals.length r.lc, .bool r.fn.result, .int .i64 r.fn.keep, .slice r.co r.fn.code.length r.cc], .int .i64 m] w fun e w' => e = .returned (.bool (r.fn.code.all (insRef fs r.fn))) ∧ Below w.heap.size w w' := by
  have H := Lib.hid h
  have HW := Lib.hid hw
  have HM := Lib.hid hm
  have H0 := Lib.hid h0
  have wl := hw.ll
  have wc : r.fn.code.length ≤ 140737488351232 := by have := hw.cl; omega
  clear h hw hm h0
  obtain ⟨b, HBV⟩ : ∃ b, Hid (b = r.fn.code.all (insRef fs r.fn)) := ⟨_, Lib.hid rfl⟩
  rw [← HBV.out]
  obtain ⟨⟨p, ls, fl, kp, is⟩, lo, lc, co, cc⟩ := r
  simp only at wl wc ⊢
  obtain ⟨n, HN⟩ : ∃ n, Hid (n = is.length) := ⟨_, Lib.hid rfl⟩
  obtain ⟨nl, HNL⟩ : ∃ n, Hid (n = ls.length) := ⟨_, Lib.hid rfl⟩
  rw [← HN.out] at wc ⊢
  rw [← HNL.out] at wl ⊢
  have HC := Lib.hid H.out.code
  simp only at HC
  rw [← HN.out] at HC
  have HX0 : Hid (Blk (w.alloc (.cells #[.int .i64 p, .slice lo nl lc, .bool fl, .int .i64 kp, .slice co n cc] 47)) w.heap.size 47 #[.int .i64 p, .slice lo nl lc, .bool fl, .int .i64 kp, .slice co n cc]) := Lib.hid (Blk.new w _ _)
  have HB0 : Hid (Below w.heap.size w (w.alloc (.cells #[.int .i64 p, .slice lo nl lc, .bool fl, .int .i64 kp, .slice co n cc] 47))) := Lib.hid ((Below.refl _ _).alloc (Nat.le_refl _) _)
  go_enter Try.func30, Try.ntmps30
  go_wp2
  go_loopw [10] (fun i wr => ∃ k : Nat, k ≤ n ∧ i = .int .i64 k ∧ Hid ((is.take k).all (insRef fs ⟨p, ls, fl, kp, is⟩) = true) ∧ Hid (Below w.heap.size w wr) ∧ Hid (Blk wr w.heap.size 47 #[.int .i64 p, .slice lo nl lc, .bool fl, .int .i64 kp, .slice co n cc])) (fun i _ => n - (intOf i).toNat)
  case atStart => exact ⟨0, Nat.zero_le _, rfl, rfl, HB0, HX0⟩
  case round =>
    clear HX0 HB0
    obtain ⟨k, hk, rfl, HT, HB, HX⟩ := hrel
    have hz := HX.out.lt
    by_cases hlt : k < n
    · obtain ⟨b1, off, i, rfl, hb, HI, x0, x1, x2⟩ := (HC.out.below (HB.out.mono hB)).ins hlt
      have hbr : b1 < wr.heap.size := by omega
      have hmem : i ∈ is := List.mem_of_getElem? HI.out
      have HWI := Lib.hid (HW.out.code i hmem)
      have HA0 := Lib.hid (H0.out i hmem)
      have HX1 := HX.out.alloc (.cells #[.int .u8 i.op, .int .i64 i.arg, .int .u64 i.imm] 51)
      have d0 := HX1.cell 0
      have d1 := HX1.cell 1
      have d2 := HX1.cell 2
      have d3 := HX1.cell 3
      have d4 := HX1.cell 4
      have HX1 := Lib.hid HX1
      have HB1 : Hid (Below w.heap.size w (wr.alloc (.cells #[.int .u8 i.op, .int .i64 i.arg, .int .u64 i.imm] 51))) := Lib.hid (HB.out.alloc (by omega) _)
      have HR1 : Hid (RdF (wr.alloc (.cells #[.int .u8 i.op, .int .i64 i.arg, .int .u64 i.imm] 51)) B ⟨⟨p, ls, fl, kp, is⟩, lo, lc, some ⟨b1, off, none⟩, cc⟩) := Lib.hid (H.out.below (HB1.out.mono hB))
      cases hp : insRef fs ⟨p, ls, fl, kp, is⟩ i with
      | true =>
        have HT1 : Hid ((is.take (k + 1)).all (insRef fs ⟨p, ls, fl, kp, is⟩) = true) := Lib.hid (by rw [List.take_add_one, HI.out, List.all_append, HT.out]; simp [hp])
        have HC1 := Lib.hid (instrRef_is B ⟨⟨p, ls, fl, kp, is⟩, lo, lc, some ⟨b1, off, none⟩, cc⟩ i true fs m _ HR1.out HW.out (by simp; omega) HM.out hm1 HA0.out HWI.out.a1 hp)
        simp only at HC1
        rw [← HN.out, ← HNL.out] at HC1
        clear hp
        go_wp2_with (go_at_call 45; refine HC1.out.mono ?_; rintro e w2 ⟨rfl, hb2⟩; refine Hid.out ?_)
        have HB3 := Lib.hid (HB1.out.trans (hb2.mono (by simp; omega)))
        have HX3 := Lib.hid (HX1.out.below hb2 (by simp; omega))
        clear hb2 d0 d1 d2 d3 d4
        refine Lib.hid ?_
        go_wp2
        go_roundw
        case rel => exact ⟨k + 1, by omega, by go_num, HT1, HB3, HX3⟩
        case measure => simp [intOf]; omega
      | false =>
        have HA : Hid (b = false) := Lib.hid (by
          rw [HBV.out, List.all_eq_false]
          exact ⟨i, hmem, by simp [hp]⟩)
        have HC1 := Lib.hid (instrRef_is B ⟨⟨p, ls, fl, kp, is⟩, lo, lc, some ⟨b1, off, none⟩, cc⟩ i false fs m _ HR1.out HW.out (by simp; omega) HM.out hm1 HA0.out HWI.out.a1 hp)
        simp only at HC1
        rw [← HN.out, ← HNL.out] at HC1
        clear hp
        go_wp2_with (go_at_call 45; refine HC1.out.mono ?_; rintro e w2 ⟨rfl, hb2⟩; refine Hid.out ?_)
        have HB3 := Lib.hid (HB1.out.trans (hb2.mono (by simp; omega)))
        clear hb2 d0 d1 d2 d3 d4
        refine Lib.hid ?_
        go_wp2
        go_ret
        exact ⟨by rw [HA.out]; rfl, HB3.out⟩
    · obtain rfl : n = k := by omega
      clear hlt hk
      have HA : Hid (b = true) := Lib.hid (by
        have h := HT.out
        rw [List.take_of_length_le (by rw [← HN.out]; omega)] at h
        rw [HBV.out]
        exact h)
      go_wp2
      go_ret
      exact ⟨by rw [HA.out]; rfl, HB.out⟩
theorem codeRef_is (B : Nat) (r : Raw) (b : Bool) (fs : List Fn) (m : Nat) (w : World) (h : RdF w B r) (hw : WfF r.fn) (hB : B ≤ w.heap.size) (hm : fs.length = m) (hm1 : m ≤ 255) (h0 : ∀ i ∈ r.fn.code, 0 ≤ i.arg) (hb : r.fn.code.all (insRef fs r.fn) = b) :
    Calls Try.prog 30 #[.agg #[.int .i64 r.fn.params, .slice r.lo r.fn.locals.length r.lc, .bool r.fn.result, .int .i64 r.fn.keep, .slice r.co r.fn.code.length r.cc], .int .i64 m] w fun e w' => e = .returned (.bool b) ∧ Below w.heap.size w w' := by
  rw [← hb]; exact codeRef_any B r fs m w h hw hB hm hm1 h0
theorem keepsWell_is (B : Nat) (r : Raw) (b : Bool) (w : World) (h : RdF w B r) (hw : WfF r.fn) (hB : B ≤ w.heap.size) (hk : -1 ≤ r.fn.keep) (hb : keepsB r.fn = b) :
    Calls Try.prog 29 #[.agg #[.int .i64 r.fn.params, .slice r.lo r.fn.locals.length r.lc, .bool r.fn.result, .int .i64 r.fn.keep, .slice r.co r.fn.code.length r.cc]] w fun e w' => e = .returned (.bool b) ∧ Below w.heap.size w w' := by
  rw [← hb]; exact keepsWell_any B r w h hw hB hk
theorem okI_arg {i : Ins} (h : okI i = true) : 0 ≤ i.arg := (fitB_iff.1 (okI_iff.1 h).2.1).1

set_option maxRecDepth 100000 in
set_option maxHeartbeats 3200000 in
theorem refers_any (B : Nat) (A : Option Addr) (n c : Nat) (rs : List Raw) (w : World) (h : RdP w B A n rs) (hB : B ≤ w.heap.size) (hok : okP (fns rs) = true) :
    Calls Try.prog 16 #[.agg #[.slice A n c]] w fun e w' => e = .returned (.bool (refB (fns rs))) ∧ Below w.heap.size w w' := by
  have H := Lib.hid h
  obtain ⟨l0, l1, HOK⟩ := okP_iff.1 hok
  rw [length_fns, h.len] at l0 l1
  have HOK := Lib.hid HOK
  have HN : Hid ((fns rs).length = n) := Lib.hid (by rw [length_fns, h.len])
  clear h hok
  obtain ⟨b, HBV⟩ : ∃ b, Hid (b = refB (fns rs)) := ⟨_, Lib.hid rfl⟩
  rw [← HBV.out]
  obtain ⟨ba, off, r, rfl, hba, HX, HRF, HWF, y0, y1, y2, y3, y4⟩ := H.out.fn (k := 0) l0
  simp only [Nat.zero_mul, Nat.add_zero] at y0 y1 y2 y3 y4
  have hbw : ba < w.heap.size := by omega
  have HX0 : Hid (Blk ((w.alloc (.cells #[.slice (some ⟨ba, off, none⟩) n c] 24)).alloc (.cells #[.int .i64 r.fn.params, .slice r.lo r.fn.locals.length r.lc, .bool r.fn.result, .int .i64 r.fn.keep, .slice r.co r.fn.code.length r.cc] 47)) w.heap.size 24 #[.slice (some ⟨ba, off, none⟩) n c]) := Lib.hid ((Blk.new w _ _).alloc _)
  have HB0 : Hid (Below w.heap.size w ((w.alloc (.cells #[.slice (some ⟨ba, off, none⟩) n c] 24)).alloc (.cells #[.int .i64 r.fn.params, .slice r.lo r.fn.locals.length r.lc, .bool r.fn.result, .int .i64 r.fn.keep, .slice r.co r.fn.code.length r.cc] 47))) := Lib.hid (below_2 _ _ _ _ _)
  obtain ⟨f0, fs', HFS⟩ : ∃ f0 fs', Hid (fns rs = f0 :: fs' ∧ f0 = r.fn) := by
    have hq : (fns rs)[0]? = some r.fn := by unfold fns; rw [List.getElem?_map, HX.out]; rfl
    cases hf : fns rs with
    | nil => rw [hf] at hq; cases hq
    | cons f0 fs' => rw [hf] at hq; exact ⟨f0, fs', rfl, by simpa using hq⟩
  have HMB : Hid (mainB (fns rs) = (decide (r.fn.params ≤ 0) && !r.fn.result)) := Lib.hid (by rw [HFS.out.1]; unfold mainB; rw [HFS.out.2])
  by_cases c1 : 0 < r.fn.params
  · have g1 : decide (0 < r.fn.params) = true := by simpa using c1
    have HA : Hid (b = false) := Lib.hid (by rw [HBV.out]; unfold refB; rw [HMB.out, decide_eq_false (by omega)]; rfl)
    go_enter Try.func16, Try.ntmps16
    go_wp2
    go_ret
    exact ⟨by rw [HA.out]; rfl, HB0.out⟩
  have g1 : decide (0 < r.fn.params) = false := by simpa using c1
  cases hres : r.fn.result with
  | true =>
    rw [hres] at y2 HX0 HB0
    have HA : Hid (b = false) := Lib.hid (by rw [HBV.out]; unfold refB; rw [HMB.out, hres]; simp)
    clear hres
    go_enter Try.func16, Try.ntmps16
    go_wp2
    go_ret
    exact ⟨by rw [HA.out]; rfl, HB0.out⟩
  | false =>
    rw [hres] at y2 HX0 HB0
    have HMT : Hid (mainB (fns rs) = true) := Lib.hid (by rw [HMB.out, hres, decide_eq_true (by omega)]; rfl)
    clear hres
    go_enter Try.func16, Try.ntmps16
    go_wp2
    go_loopw [20] (fun i wr => ∃ k : Nat, k ≤ n ∧ i = .int .i64 k ∧ Hid (((fns rs).take k).all (fnRef (fns rs)) = true) ∧ Hid (Below w.heap.size w wr) ∧ Hid (Blk wr w.heap.size 24 #[.slice (some ⟨ba, off, none⟩) n c])) (fun i _ => n - (intOf i).toNat)
    case atStart => exact ⟨0, Nat.zero_le _, rfl, rfl, HB0, HX0⟩
    case round =>
      clear HX0 HB0 y0 y1 y2 y3 y4
      obtain ⟨k, hk, rfl, HT, HB, HXP⟩ := hrel
      have hz := HXP.out.lt
      by_cases hlt : k < n
      · obtain ⟨ba', off', s, hA', hb', HS, HSF, HSW, x0, x1, x2, x3, x4⟩ := (H.out.below (HB.out.mono hB)).fn hlt
        obtain ⟨rfl, rfl⟩ : ba = ba' ∧ off = off' := by injection hA' with hA'; injection hA' with h1 h2; exact ⟨h1, h2⟩
        clear hA' hb'
        have hbr : ba < wr.heap.size := by omega
        have HFN : Hid ((fns rs)[k]? = some s.fn) := Lib.hid (by unfold fns; rw [List.getElem?_map, HS.out]; rfl)
        have HOF := Lib.hid (HOK.out s.fn (List.mem_of_getElem? HFN.out))
        have hkp : -1 ≤ s.fn.keep := (okF_iff.1 HOF.out).2.2.2.2.1
        have HX1 := HXP.out.alloc (.cells #[.int .i64 s.fn.params, .slice s.lo s.fn.locals.length s.lc, .bool s.fn.result, .int .i64 s.fn.keep, .slice s.co s.fn.code.length s.cc] 47)
        have HX1 := Lib.hid HX1
        have HB1 : Hid (Below w.heap.size w (wr.alloc (.cells #[.int .i64 s.fn.params, .slice s.lo s.fn.locals.length s.lc, .bool s.fn.result, .int .i64 s.fn.keep, .slice s.co s.fn.code.length s.cc] 47))) := Lib.hid (HB.out.alloc (by omega) _)
        have HF1 : Hid (RdF (wr.alloc (.cells #[.int .i64 s.fn.params, .slice s.lo s.fn.locals.length s.lc, .bool s.fn.result, .int .i64 s.fn.keep, .slice s.co s.fn.code.length s.cc] 47)) B s) := Lib.hid (HSF.out.keep fun p hp => World.cell?_alloc_lt wr _ p (by omega))
        have HY1 := Lib.hid (Blk.new wr 47 #[.int .i64 s.fn.params, .slice s.lo s.fn.locals.length s.lc, .bool s.fn.result, .int .i64 s.fn.keep, .slice s.co s.fn.code.length s.cc])
        cases hp1 : keepsB s.fn with
        | false =>
          have HA : Hid (b = false) := Lib.hid (by
            rw [HBV.out]; unfold refB
            rw [HMT.out, Bool.true_and, List.all_eq_false]
            exact ⟨s.fn, List.mem_of_getElem? HFN.out, by unfold fnRef; simp [hp1]⟩)
          have HC1 := Lib.hid (keepsWell_is B s false _ HF1.out HSW.out (by simp; omega) hkp hp1)
          clear hp1
          go_wp2_with (go_at_call 29; refine HC1.out.mono ?_; rintro e w2 ⟨rfl, hb2⟩; refine Hid.out ?_)
          have HB3 := Lib.hid (HB1.out.trans (hb2.mono (by simp; omega)))
          clear hb2
          refine Lib.hid ?_
          go_wp2
          go_ret
          exact ⟨by rw [HA.out]; rfl, HB3.out⟩
        | true =>
          have HC1 := Lib.hid (keepsWell_is B s true _ HF1.out HSW.out (by simp; omega) hkp hp1)
          have HKP := Lib.hid hp1
          clear hp1
          go_wp2_with (go_at_call 29; refine HC1.out.mono ?_; rintro e w2 ⟨rfl, hb2⟩; refine Hid.out ?_)
          have hz2 := hb2.size
          have hz2' : wr.heap.size < w2.heap.size := by simp at hz2; omega
          have HB2 := Lib.hid (HB1.out.trans (hb2.mono (by simp; omega)))
          have HX2 := HX1.out.below hb2 (by simp; omega)
          have HY2 := HY1.out.below hb2 (by simp)
          have HF2 := Lib.hid (HF1.out.below (hb2.mono (by simp; omega)))
          have e0 : w2.cell? ⟨w.heap.size, 0, none⟩ = some (.slice (some ⟨ba, off, none⟩) n c) := HX2.cell 0
          have d0 : w2.cell? ⟨wr.heap.size, 0, none⟩ = some (.int .i64 s.fn.params) := HY2.cell 0
          have d1 : w2.cell? ⟨wr.heap.size, 1, none⟩ = some (.slice s.lo s.fn.locals.length s.lc) := HY2.cell 1
          have d2 : w2.cell? ⟨wr.heap.size, 2, none⟩ = some (.bool s.fn.result) := HY2.cell 2
          have d3 : w2.cell? ⟨wr.heap.size, 3, none⟩ = some (.int .i64 s.fn.keep) := HY2.cell 3
          have d4 : w2.cell? ⟨wr.heap.size, 4, none⟩ = some (.slice s.co s.fn.code.length s.cc) := HY2.cell 4
          have HX2 := Lib.hid HX2
          clear hb2 HY2
          obtain ⟨q, HQ⟩ : ∃ q, Hid (s.fn.code.all (insRef (fns rs) s.fn) = q) := ⟨_, Lib.hid rfl⟩
          have HC2 := Lib.hid (codeRef_is B s q (fns rs) n w2 HF2.out HSW.out (by omega) HN.out l1 (fun i hi => okI_arg ((okF_iff.1 HOF.out).2.2.2.2.2.2.2 i hi)) HQ.out)
          cases q with
          | false =>
            have HA : Hid (b = false) := Lib.hid (by
              rw [HBV.out]; unfold refB
              rw [HMT.out, Bool.true_and, List.all_eq_false]
              exact ⟨s.fn, List.mem_of_getElem? HFN.out, by unfold fnRef; rw [HQ.out]; simp⟩)
            refine Lib.hid ?_
            go_wp2_with (go_at_call 30; refine HC2.out.mono ?_; rintro e w3 ⟨rfl, hb3⟩; refine Hid.out ?_)
            have HB3 := Lib.hid (HB2.out.trans (hb3.mono (by omega)))
            clear hb3 d0 d1 d2 d3 d4 e0
            refine Lib.hid ?_
            go_wp2
            go_ret
            exact ⟨by rw [HA.out]; rfl, HB3.out⟩
          | true =>
            have HT1 : Hid (((fns rs).take (k + 1)).all (fnRef (fns rs)) = true) := Lib.hid (by
              rw [List.take_add_one, HFN.out, List.all_append, HT.out]
              simp only [Option.toList_some, List.all_cons, List.all_nil, Bool.and_true, Bool.true_and]
              unfold fnRef; rw [HKP.out, HQ.out]; rfl)
            refine Lib.hid ?_
            go_wp2_with (go_at_call 30; refine HC2.out.mono ?_; rintro e w3 ⟨rfl, hb3⟩; refine Hid.out ?_)
            have HB3 := Lib.hid (HB2.out.trans (hb3.mono (by omega)))
            have HX3 := Lib.hid (HX2.out.below hb3 (by omega))
            clear hb3 d0 d1 d2 d3 d4 e0
            refine Lib.hid ?_
            go_wp2
            go_roundw
            case rel => exact ⟨k + 1, by omega, by go_num, HT1, HB3, HX3⟩
            case measure => simp [intOf]; omega
      · obtain rfl : n = k := by omega
        clear hlt hk
        have HA : Hid (b = true) := Lib.hid (by
          have h := HT.out
          rw [List.take_of_length_le (by rw [HN.out]; omega)] at h
          rw [HBV.out]; unfold refB; rw [HMT.out, h]; rfl)
        go_wp2
        go_ret
        exact ⟨by rw [HA.out]; rfl, HB.out⟩
end Go.Proofs.Ytcgoanfhabjpfaa
