/-
  KindsAhead: the walk.
-/
import Derived.Test.YtcgoanfhabjpfaaKAhd
import Derived.IntWalk
import Derived.Deep.LoopGhost
namespace Go.Proofs.Ytcgoanfhabjpfaa
set_option linter.unusedVariables false
open Go.ChangeShapes Go.WideShapes Go.ChangeAt Go.RowKit

theorem check_v (B : Nat) (A : Option Addr) (n c : Nat) (rs : List Raw) (v : Int) (w : World) (h : RdP w B A n rs) (hB : B ≤ w.heap.size) (hv : verd (fns rs) = v) :
    Calls Try.prog 10 #[.agg #[.slice A n c]] w fun e w' => ∃ p, e = .returned (.tuple #[.pointer p, .int .i64 v]) ∧ Below w.heap.size w w' := by
  refine (check_any B A n c rs w h hB).mono ?_
  rintro e w' ⟨hb, ⟨_, rfl⟩ | ⟨h0, w0, tb, ls, rvs, svs, RA, rc, SA, sc, rfl, _⟩⟩
  · rw [hv]; exact ⟨_, rfl, hb⟩
  · rw [← hv, h0]; exact ⟨_, rfl, hb⟩

set_option maxRecDepth 100000 in
set_option maxHeartbeats 16000000 in
theorem ahead_walk (A : Option Addr) (n c : Nat) (rs : List Raw) (x : Int) (w : World) (h : RdP w w.heap.size A n rs) :
    Calls Try.prog 5 #[.agg #[.slice A n c], .int .i64 x] w fun e w' => e = .returned (.bool true) ∧ Below w.heap.size w w' := by
  have hsz := h.sz
  have HLEN := Lib.hid h.len
  have HX0 : Hid (Blk (w.alloc (.cells #[.slice A n c] 24)) w.heap.size 24 #[.slice A n c]) := Lib.hid (Blk.new w _ _)
  have HB0 : Hid (Below w.heap.size w (w.alloc (.cells #[.slice A n c] 24))) := Lib.hid ((Below.refl _ _).alloc (Nat.le_refl _) _)
  have H := Lib.hid h
  clear h
  obtain ⟨y, hy, hy0, hy1⟩ : ∃ y : Int, IntKind.u64.wrap x = y ∧ 0 ≤ y ∧ y ≤ 18446744073709551615 := ⟨_, rfl, by rw [IntKind.wrap_u64]; omega, by rw [IntKind.wrap_u64]; omega⟩
  go_enter Try.func5, Try.ntmps5
  go_wp2_with (go_at_call 8; refine (first_any _).mono ?_; rintro e w1 ⟨rfl, hb1⟩; refine Hid.out ?_)
  have HB1 : Hid (Below w.heap.size w w1) := Lib.hid (HB0.out.trans (hb1.mono (by simp)))
  have HX1 := Lib.hid (HX0.out.below hb1 (by simp))
  have x1 : w1.cell? ⟨w.heap.size, 0, none⟩ = some (.slice A n c) := HX1.out.cell 0
  have hz1 : w.heap.size < w1.heap.size := HX1.out.lt
  clear hb1 HX0 HB0
  rcases Nat.eq_zero_or_pos n with hn0 | hn0
  · subst hn0
    refine Lib.hid ?_
    go_wp2
    go_ret
    exact ⟨rfl, HB1.out⟩
  · have gn : ((n : Int) == 0) = false := by simp; omega
    have gn' : (n == 0) = false := by simp; omega
    have HR1 := Lib.hid (H.out.below HB1.out)
    have HCP := Lib.hid (rcopy_any w.heap.size A n c rs w1 HR1.out (by omega))
    refine Lib.hid ?_
    go_wp2_with (go_at_call 9; refine HCP.out.mono ?_; rintro e w2 ⟨A2, c2, rs2, rfl, hcp⟩; have HCR := Lib.hid hcp; clear hcp; refine Hid.out ?_)
    have hz2 : w1.heap.size ≤ w2.heap.size := HCR.out.below.size
    have HX2 := Lib.hid (HX1.out.below HCR.out.below hz1)
    have HB2 : Hid (Below w.heap.size w w2) := Lib.hid (HB1.out.trans (HCR.out.below.mono (by omega)))
    have HL2 : Hid (rs2.length = n) := Lib.hid (by have h := congrArg List.length HCR.out.eq; rw [length_fns, length_fns, HLEN.out] at h; exact h)
    obtain ⟨j, hj, hjn⟩ : ∃ j : Nat, y % (n : Int) = (j : Int) ∧ j < n := ⟨(y % (n : Int)).toNat, by have := Int.emod_nonneg y (show (n : Int) ≠ 0 by omega); omega, by have h1 := Int.emod_nonneg y (show (n : Int) ≠ 0 by omega); have h2 := Int.emod_lt_of_pos y (show (0 : Int) < n by omega); omega⟩
    obtain ⟨gA, rfl⟩ : ∃ g, A2 = some ⟨g, 0, none⟩ := by
      rcases HCR.out.own.2 with ⟨_, h0⟩ | ⟨g, cap, cur, he, _⟩
      · omega
      · injection he with he; exact ⟨g, he⟩
    obtain ⟨r, hr⟩ : ∃ r, rs2[j]? = some r := ⟨rs2[j]'(by rw [HL2.out]; exact hjn), List.getElem?_eq_getElem _⟩
    have hcell : w2.cell? ⟨gA, j * 5 + 4, none⟩ = some (.slice r.co r.fn.code.length r.cc) := by
      have h1 := HCR.out.own.cells (g := gA) rfl _ _ (rawc_at hr).2.2.2.2
      have ea : (⟨gA, 0, none⟩ : Addr).add (j * 5 + 4) = ⟨gA, j * 5 + 4, none⟩ := by simp [Addr.add]
      rw [ea] at h1
      exact h1
    have hgA : gA < w2.heap.size := (own_lt HCR.out.own (g := gA) rfl).2
    have HRJ := Lib.hid hr
    obtain ⟨m, hm⟩ : ∃ m, m = r.fn.code.length := ⟨_, rfl⟩
    rw [← hm] at hcell
    have HM := Lib.hid hm
    have HW2 := Lib.hid (Below.alloc (HB2.out) (by have := HB2.out.size; omega) (.cells #[.slice (some ⟨gA, 0, none⟩) n c2] 24))
    have hjt : y.tmod (n : Int) = (j : Int) := by rw [Int.tmod_eq_emod_of_nonneg hy0]; exact hj
    have hn63 : n ≤ 1000000000000000000 := by omega
    have hwn : IntKind.u64.wrap (n : Int) = (n : Int) := by rw [IntKind.wrap_u64]; omega
    have hwj : IntKind.u64.wrap (j : Int) = (j : Int) := by rw [IntKind.wrap_u64]; omega
    have hwj2 : IntKind.i64.wrap (j : Int) = (j : Int) := IntWalk.i64_in _ (by omega)
    have hj0 : (0 : Int) ≤ (j : Int) := by omega
    have hjn' : (j : Int) < (n : Int) := by omega
    clear hr hm
    refine Lib.hid ?_
    go_upto_region 6 with fail
    go_quiet (fail)
    clear hjt hwn hwj hwj2
    obtain ⟨W4, hW4⟩ : ∃ W4, W4 = (w2.alloc (.cells #[.slice (some ⟨gA, 0, none⟩) n c2] 24)).drewN nq := ⟨_, rfl⟩
    have HS4 : Hid (W4.heap.size = w2.heap.size + 1) := Lib.hid (by rw [hW4]; show (w2.alloc _).heap.size = _; simp)
    have hb4 : Below w2.heap.size w2 W4 := by rw [hW4]; exact below_drewN ((Below.refl _ _).alloc (Nat.le_refl _) _) _
    have hx4 : Blk W4 w2.heap.size 24 #[.slice (some ⟨gA, 0, none⟩) n c2] := by rw [hW4]; exact (Blk.new w2 _ _).drewN _
    have HX4 := Lib.hid hx4
    have HP4 := Lib.hid (HX2.out.below hb4 (by omega))
    have HB4 : Hid (Below w1.heap.size w1 W4) := Lib.hid (HCR.out.below.trans (hb4.mono hz2))
    have hc4 : W4.cell? ⟨gA, j * 5 + 4, none⟩ = some (.slice r.co m r.cc) := (hb4.cell (p := ⟨gA, j * 5 + 4, none⟩) hgA).trans hcell
    have hz4 : w2.heap.size ≤ W4.heap.size := hb4.size
    have HWF : Hid (∀ q ∈ rs2, WfF q.fn) := Lib.hid (fun q hq => by
      have h1 : q.fn ∈ fns rs := by rw [← HCR.out.eq]; exact List.mem_map.2 ⟨q, hq, rfl⟩
      obtain ⟨q', hq', he⟩ := List.mem_map.1 h1
      rw [← he]; exact H.out.wf q' hq')
    rw [← hW4]
    have HB24 := Lib.hid hb4
    clear hW4 hcell hx4 hb4 x1
    by_cases hm0 : m = 0
    · subst hm0
      go_wp2
      go_ret
      exact ⟨rfl, HB1.out.trans (HB4.out.mono (by omega))⟩
    by_cases hm254 : 254 < m
    · have g1 : ((m : Int) == 0) = false := by simp; omega
      have g1' : (m == 0) = false := by simp; omega
      have g2 : decide (254 < m) = true := by simpa using hm254
      have hmm : m ≤ 140737488351232 := by have h1 := (HWF.out r (List.mem_of_getElem? HRJ.out)).cl; rw [← HM.out] at h1; omega
      have g2' : decide ((m : Int) > 254) = true := by simp; omega
      go_wp2
      go_ret
      exact ⟨rfl, HB1.out.trans (HB4.out.mono (by omega))⟩
    have g1 : ((m : Int) == 0) = false := by simp; omega
    have g1' : (m == 0) = false := by simp; omega
    have g2 : decide (254 < m) = false := by simp; omega
    have g2' : decide ((m : Int) > 254) = false := by simp; omega
    obtain ⟨cb, hcb⟩ : ∃ cb, r.co = some ⟨cb, 0, none⟩ := by
      have ho := (HCR.out.each r (List.mem_of_getElem? HRJ.out)).code
      rcases ho.2 with ⟨_, h0⟩ | ⟨g, cap, cur, he, _⟩
      · have := HM.out; omega
      · injection he with he; exact ⟨g, he⟩
    rw [hcb] at hc4
    have HQ0 : Hid (QJ W4 w1.heap.size gA n c2 j m cb rs2 r (upTo r.fn.code 0)) := Lib.hid (by
      rw [upTo_zero]
      exact (QJ.start HCR.out.own HCR.out.each HCR.out.sep HL2.out HRJ.out hcb HM.out.symm).below HB24.out)
    have HJ0 : Hid (∀ i ∈ r.fn.code.take 0, i.op = 21 ∨ i.op = 22 → 0 ≤ i.arg ∧ i.arg ≤ 65533) := Lib.hid (fun i hi => by simp at hi)
    clear hcb
    go_wp2
    go_loopw [50] (fun i wr => ∃ k : Nat, k ≤ m ∧ i = .int .i64 k ∧ Hid (QJ wr w1.heap.size gA n c2 j m cb rs2 r (upTo r.fn.code k)) ∧ Hid (∀ i ∈ r.fn.code.take k, i.op = 21 ∨ i.op = 22 → 0 ≤ i.arg ∧ i.arg ≤ 65533) ∧ Hid (Below w1.heap.size w1 wr) ∧ Hid (Blk wr w2.heap.size 24 #[.slice (some ⟨gA, 0, none⟩) n c2])) (fun i _ => m - (intOf i).toNat)
    case atStart => exact ⟨0, Nat.zero_le _, rfl, HQ0, HJ0, HB4, HX4⟩
    case round =>
      clear HQ0 HJ0 hc4
      obtain ⟨k, hk, rfl, HQ, HJ, HB, HX⟩ := hrel
      obtain ⟨c4, hgr, hcr, _⟩ := HQ.out.cells
      have hzr := HB.out.size
      by_cases hlt : k < m
      · obtain ⟨i, hi⟩ : ∃ i, r.fn.code[k]? = some i := ⟨r.fn.code[k]'(by rw [← HM.out]; exact hlt), List.getElem?_eq_getElem _⟩
        have hiu := upTo_at hi
        have hcc := HQ.out.code.cells (g := cb) rfl
        obtain ⟨i1, i2, i3⟩ := insc_at hiu
        have ea : ∀ t, (⟨cb, 0, none⟩ : Addr).add t = ⟨cb, t, none⟩ := fun t => by simp [Addr.add]; exact Eq.symm
        have y0 : wr.cell? ⟨cb, k * 3, none⟩ = some (.int .u8 i.op) := by have h := hcc _ _ i1; rw [ea] at h; exact h
        have y1 : wr.cell? ⟨cb, k * 3 + 1, none⟩ = some (.int .i64 i.arg) := by have h := hcc _ _ i2; rw [ea] at h; exact h
        have yf : wr.frozen? ⟨cb, k * 3 + 1, none⟩ = false := by
          rcases HQ.out.code.2 with ⟨he, _⟩ | ⟨g', cap, cur, he, _, hb, _⟩
          · cases he
          · have : cb = g' := by injection he with he; injection he with he; injection he
            subst this
            exact Blk.frozen (t := 51) (cs := cur) hb _
        have HI := Lib.hid hi
        have HIU := Lib.hid hiu
        have hwi := (HWF.out r (List.mem_of_getElem? HRJ.out)).code i (List.mem_of_getElem? hi)
        have ha0 := hwi.a0
        have ha1 := hwi.a1
        have HST : Hid (∀ v, QJ (wr.setCell ⟨cb, k * 3 + 1, none⟩ (.int .i64 v)) w1.heap.size gA n c2 j m cb rs2 r ((upTo r.fn.code k).set k ⟨i.op, v, i.imm⟩)) := Lib.hid (fun v => HQ.out.store hiu)
        have hbc : w1.heap.size ≤ cb := (own_lt HQ.out.code (g := cb) rfl).1
        have hne : w2.heap.size ≠ cb := fun e => own_ty HQ.out.code HX.out (by decide) (by rw [e]; rfl)
        clear hi hiu hcc i1 i2 i3 ea hwi
        by_cases hjmp : i.op = 21 ∨ i.op = 22
        · have hbad : ¬ (0 ≤ i.arg ∧ i.arg ≤ 65533) → i.arg < 0 ∨ 65533 < i.arg := fun hh => by omega
          obtain ⟨op, arg, imm⟩ := i
          simp only at y0 y1 ha0 ha1 hjmp hbad HST
          by_cases c0 : arg < 0
          · have gd : decide (arg < 0) = true := by simpa using c0
            clear hbad
            rcases hjmp with rfl | rfl
            all_goals
              go_wp2
              go_ret
              exact ⟨rfl, HB1.out.trans (HB.out.mono (by omega))⟩
          have gd : decide (arg < 0) = false := by simpa using c0
          by_cases c9 : 65533 < arg
          · have ge : decide (65533 < arg) = true := by simpa using c9
            clear hbad
            rcases hjmp with rfl | rfl
            all_goals
              go_wp2
              go_ret
              exact ⟨rfl, HB1.out.trans (HB.out.mono (by omega))⟩
          have ge : decide (65533 < arg) = false := by simpa using c9
          have HQ1 : Hid (QJ (wr.setCell ⟨cb, k * 3 + 1, none⟩ (.int .i64 (arg + 2))) w1.heap.size gA n c2 j m cb rs2 r (upTo r.fn.code (k + 1))) := Lib.hid (by
            have h := HST.out (arg + 2)
            rw [upTo_next HI.out]
            have hs : sh ⟨op, arg, imm⟩ = ⟨op, arg + 2, imm⟩ := by unfold sh; rw [if_pos hjmp]
            rw [hs]
            exact h)
          have HJ1 : Hid (∀ i ∈ r.fn.code.take (k + 1), i.op = 21 ∨ i.op = 22 → 0 ≤ i.arg ∧ i.arg ≤ 65533) := Lib.hid (fun i hi ho => by
            rw [List.take_add_one, HI.out] at hi
            rcases List.mem_append.1 hi with hi | hi
            · exact HJ.out i hi ho
            · have : i = ⟨op, arg, imm⟩ := by simpa using hi
              rw [this]; exact ⟨by show 0 ≤ arg; omega, by show arg ≤ 65533; omega⟩)
          have HBS : Hid (Below w1.heap.size w1 (wr.setCell ⟨cb, k * 3 + 1, none⟩ (.int .i64 (arg + 2)))) := Lib.hid (HB.out.setCell (p := ⟨cb, k * 3 + 1, none⟩) hbc _)
          have HXS : Hid (Blk (wr.setCell ⟨cb, k * 3 + 1, none⟩ (.int .i64 (arg + 2))) w2.heap.size 24 #[.slice (some ⟨gA, 0, none⟩) n c2]) := Lib.hid (HX.out.far (p := ⟨cb, k * 3 + 1, none⟩) hne _)
          clear hbad HST
          rcases hjmp with rfl | rfl
          all_goals
            go_wp2
            go_roundw
            case rel => exact ⟨k + 1, by omega, by go_num, HQ1, HJ1, HBS, HXS⟩
            case measure => simp [intOf]; omega
        · have g21 : (i.op == 21) = false := by simp; omega
          have g22 : (i.op == 22) = false := by simp; omega
          have HQ1 : Hid (QJ wr w1.heap.size gA n c2 j m cb rs2 r (upTo r.fn.code (k + 1))) := Lib.hid (by
            rw [upTo_same HI.out (by unfold sh; rw [if_neg hjmp])]; exact HQ.out)
          have HJ1 : Hid (∀ i ∈ r.fn.code.take (k + 1), i.op = 21 ∨ i.op = 22 → 0 ≤ i.arg ∧ i.arg ≤ 65533) := Lib.hid (fun i' hi ho => by
            rw [List.take_add_one, HI.out] at hi
            rcases List.mem_append.1 hi with hi | hi
            · exact HJ.out i' hi ho
            · have : i' = i := by simpa using hi
              rw [this] at ho; exact absurd ho hjmp)
          clear hjmp HST
          go_wp2
          go_roundw
          case rel => exact ⟨k + 1, by omega, by go_num, HQ1, HJ1, HB, HX⟩
          case measure => simp [intOf]; omega
      · obtain rfl : m = k := by omega
        clear hlt hk
        have HALL : Hid (upTo r.fn.code m = r.fn.code.map sh) := Lib.hid (upTo_all _ (by rw [← HM.out]; exact Nat.le_refl _))
        have HJA : Hid (∀ i ∈ r.fn.code, i.op = 21 ∨ i.op = 22 → 0 ≤ i.arg ∧ i.arg ≤ 65533) := Lib.hid (fun i hi => HJ.out i (by rw [List.take_of_length_le (by rw [← HM.out]; exact Nat.le_refl _)]; exact hi))
        have HOL : Hid ((wr.alloc (.cells (insc [⟨1, 0, 0⟩, ⟨31, 0, 0⟩]).toArray 51)).ownsRow w1.heap.size 51 3 (.slice (some ⟨wr.heap.size, 0, none⟩) 2 2) 2 (insc [⟨1, 0, 0⟩, ⟨31, 0, 0⟩])) := Lib.hid ⟨rfl, .inr ⟨wr.heap.size, 2, _, rfl, hzr, heap_alloc_new wr _, Nat.le_refl _, by unfold maxLen; omega, rfl, rfl⟩⟩
        have HRD := Lib.hid ((Reads.of_own HQ.out.code).alloc (Nat.le_refl _) (.cells (insc [⟨1, 0, 0⟩, ⟨31, 0, 0⟩]).toArray 51))
        go_wp2_with (at_builtin; refine app_ins rfl _ _ rfl w1.heap.size (.slice (some ⟨wr.heap.size, 0, none⟩) 2 2) 2 (insc [⟨1, 0, 0⟩, ⟨31, 0, 0⟩]) rfl HOL.out wr.heap.size (some ⟨cb, 0, none⟩) m r.cc (insc (upTo r.fn.code m)) rfl HRD.out (insc_one _) (by omega) (by simp; omega) ?_; intro v8 w8 hown hgr _; obtain ⟨co, cc, rfl, k4, kf, hg8, hrd, hbl, hkb⟩ := HQ.out.done HALL.out (by omega) HJA.out HWF.out hsz hzr hown hgr; have HRQ := Lib.hid hrd; have HBL := Lib.hid hbl; have HKB := Lib.hid hkb; clear hown hgr hrd hbl hkb; refine Hid.out ?_)
        obtain ⟨W9, hW9⟩ : ∃ W9, W9 = w8.setCell ⟨gA, j * 5 + 4, none⟩ (.slice co (2 + m) cc) := ⟨_, rfl⟩
        have hgb : w1.heap.size ≤ gA := (own_lt HQ.out.row (g := gA) rfl).1
        have HRQ9 : Hid (RdP W9 W9.heap.size (some ⟨gA, 0, none⟩) n (rs2.set j ⟨aheadF r.fn, r.lo, r.lc, co, cc⟩)) := Lib.hid (by rw [hW9]; exact HRQ.out)
        have HBL9 : Hid (Below w1.heap.size wr W9) := Lib.hid (by rw [hW9]; exact HBL.out)
        have hng : w2.heap.size ≠ gA := fun e => own_ty HQ.out.row HX.out (by decide) (by rw [e]; rfl)
        have HXQ : Hid (Blk W9 w2.heap.size 24 #[.slice (some ⟨gA, 0, none⟩) n c2]) := Lib.hid (by rw [hW9]; exact (HKB.out _ HX.out.lt hng).trans HX.out)
        have HB9 := Lib.hid (HB.out.trans HBL9.out)
        have x9 : W9.cell? ⟨w.heap.size, 0, none⟩ = some (.slice A n c) := (HX1.out.below HB9.out hz1).cell 0
        have HRP9 := Lib.hid (HR1.out.below (HB9.out.mono (by omega)))
        obtain ⟨v, hv⟩ : ∃ v, verd (fns rs) = v := ⟨_, rfl⟩
        have hzz : w1.heap.size ≤ W9.heap.size := HB9.out.size
        have HCP1 := Lib.hid (check_v w.heap.size A n c rs v W9 HRP9.out (by omega) hv)
        have HVQ : Hid (verd (fns (rs2.set j ⟨aheadF r.fn, r.lo, r.lc, co, cc⟩)) = v) := Lib.hid (by
          have hlen : 1 ≤ r.fn.code.length ∧ r.fn.code.length ≤ 254 := by rw [← HM.out]; omega
          rw [fns_set, verd_ahead (by unfold fns; rw [List.getElem?_map, HRJ.out]; rfl) hlen.1 hlen.2 HJA.out, HCR.out.eq]
          exact hv)
        clear hv
        refine Lib.hid ?_
        go_upto_region 18 with fail
        rw [← hW9]
        clear hW9 k4 kf hg8
        go_wp2_with (go_at_call 10; refine HCP1.out.mono ?_; rintro e w10 ⟨p1, rfl, hb10⟩; have HB10 := Lib.hid hb10; clear hb10; refine Hid.out ?_)
        have hx10 : w10.cell? ⟨w2.heap.size, 0, none⟩ = some (.slice (some ⟨gA, 0, none⟩) n c2) := (HXQ.out.below HB10.out HXQ.out.lt).cell 0
        have HRQ10 := Lib.hid (HRQ9.out.below HB10.out)
        have hz10 : W9.heap.size ≤ w10.heap.size := HB10.out.size
        have HCQ := Lib.hid (check_v W9.heap.size _ n c2 _ v w10 HRQ10.out hz10 HVQ.out)
        have gv : (v == v) = true := by simp
        clear x9
        refine Lib.hid ?_
        go_wp2_with (go_at_call 10; refine HCQ.out.mono ?_; rintro e w11 ⟨p2, rfl, hb11⟩; have HB11 := Lib.hid hb11; clear hb11)
        go_ret
        exact ⟨rfl, HB1.out.trans ((HB9.out.mono (by omega)).trans ((HB10.out.mono (by omega)).trans (HB11.out.mono (by omega))))⟩
end Go.Proofs.Ytcgoanfhabjpfaa
