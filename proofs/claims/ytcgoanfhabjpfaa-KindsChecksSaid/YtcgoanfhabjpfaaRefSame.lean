/-
  The document's Same of two programs.
-/
import Derived.Test.YtcgoanfhabjpfaaSameA
import Derived.Deep.RegionHeld3
import Derived.Deep.DeepCutAuto
namespace Go.Proofs.Ytcgoanfhabjpfaa
set_option linter.unusedVariables false
open Go.ChangeShapes Go.WideShapes Go.ChangeAt Go.RowKit

theorem blk_second (w : World) (t u : TypeId) (cs ds : Array Value) : Blk ((w.alloc (.cells cs t)).alloc (.cells ds u)) (w.heap.size + 1) u ds := by
  have := Blk.new (w.alloc (.cells cs t)) u ds
  rw [show (w.alloc (.cells cs t)).heap.size = w.heap.size + 1 by simp] at this
  exact this
theorem below_two (w : World) (t u : TypeId) (cs ds : Array Value) : Below w.heap.size w ((w.alloc (.cells cs t)).alloc (.cells ds u)).drew := (((Below.refl _ _).alloc (Nat.le_refl _) _).alloc (by simp) _).drew

set_option maxRecDepth 100000 in
set_option maxHeartbeats 16000000 in
theorem rsame_any (B : Nat) (ao bo : Option Addr) (n m c d : Nat) (ra rb : List Raw) (w : World) (ha : RdP w B ao n ra) (hb : RdP w B bo m rb) (hB : B ≤ w.heap.size) :
    Calls Try.prog 12 #[.agg #[.slice ao n c], .agg #[.slice bo m d]] w fun e w' => e = .returned (.bool (decide (fns ra = fns rb))) ∧ Below w.heap.size w w' := by
  have HA := Lib.hid ha
  have HB := Lib.hid hb
  have s1 := ha.sz
  have s2 := hb.sz
  have HN : Hid ((fns ra).length = n) := Lib.hid (by rw [length_fns, ha.len])
  have HM : Hid ((fns rb).length = m) := Lib.hid (by rw [length_fns, hb.len])
  have HW0 : Hid (Below w.heap.size w ((w.alloc (.cells #[.slice ao n c] 24)).alloc (.cells #[.slice bo m d] 24))) := ((Below.refl _ _).alloc (Nat.le_refl _) _).alloc (by simp) _
  have HX0 : Hid (Blk ((w.alloc (.cells #[.slice ao n c] 24)).alloc (.cells #[.slice bo m d] 24)) w.heap.size 24 #[.slice ao n c]) := (Blk.new w 24 #[.slice ao n c]).alloc _
  have HY0 : Hid (Blk ((w.alloc (.cells #[.slice ao n c] 24)).alloc (.cells #[.slice bo m d] 24)) (w.heap.size + 1) 24 #[.slice bo m d]) := by
    exact blk_second w _ _ _ _
  clear ha hb
  by_cases hgt : n ≠ m
  · have hr : decide (fns ra = fns rb) = false := eq_len (by rw [HN.out, HM.out]; exact hgt)
    have HR := Lib.hid hr
    clear hr
    go_enter Try.func12, Try.ntmps12
    go_wp2
    go_ret
    exact ⟨by rw [HR.out]; rfl, HW0.out⟩
  · obtain rfl : n = m := by omega
    clear hgt
    go_enter Try.func12, Try.ntmps12
    go_wp2
    go_loopw [20] (fun i wr => ∃ k : Nat, k ≤ n ∧ i = .int .i64 k ∧ Hid ((fns rb).take k = (fns ra).take k) ∧ Hid (Below w.heap.size w wr) ∧ Hid (Blk wr w.heap.size 24 #[.slice ao n c]) ∧ Hid (Blk wr (w.heap.size + 1) 24 #[.slice bo n d])) (fun i _ => n - (intOf i).toNat)
    case atStart => exact ⟨0, Nat.zero_le _, rfl, rfl, HW0, HX0, HY0⟩
    case round =>
      clear HX0 HY0 HW0
      obtain ⟨k, hk, rfl, HP, HW, HBX, HBY⟩ := hrel
      have hz := HW.out.size
      have hz2 := HBY.out.lt
      by_cases hlt : k < n
      · obtain ⟨b1, o1, r, rfl, hbk1, HX, HRF, HWF, x0, x1, x2, x3, x4⟩ := (HA.out.below (HW.out.mono hB)).fn hlt
        obtain ⟨b2, o2, s, rfl, hbk2, HY, HRG, HWG, y0, y1, y2, y3, y4⟩ := (HB.out.below (HW.out.mono hB)).fn hlt
        have hbr1 : b1 < wr.heap.size := by omega
        have hbr2 : b2 < wr.heap.size := by omega
        have d0 : wr.cell? ⟨w.heap.size, 0, none⟩ = some (.slice (some ⟨b1, o1, none⟩) n c) := HBX.out.cell 0
        have d1 : wr.cell? ⟨w.heap.size + 1, 0, none⟩ = some (.slice (some ⟨b2, o2, none⟩) n d) := HBY.out.cell 0
        go_upto_region 6 with fail
        go_cut [6, 7] (fun s6 s7 wx => ∃ q6 q7 : Nat, s6 = .pointer (some ⟨q6, 0, none⟩) ∧ s7 = .pointer (some ⟨q7, 0, none⟩) ∧ Hid (Below wr.heap.size wr wx) ∧ Hid (Blk wx q6 47 #[.int .i64 r.fn.params, .slice r.lo r.fn.locals.length r.lc, .bool r.fn.result, .int .i64 r.fn.keep, .slice r.co r.fn.code.length r.cc]) ∧
          Hid (Blk wx q7 47 #[.int .i64 s.fn.params, .slice s.lo s.fn.locals.length s.lc, .bool s.fn.result, .int .i64 s.fn.keep, .slice s.co s.fn.code.length s.cc]))
        case first =>
          go_region_held3 (fun W => W.cell? ⟨w.heap.size, 0, none⟩ = some (.slice (some ⟨b1, o1, none⟩) n c) ∧ W.cell? ⟨w.heap.size + 1, 0, none⟩ = some (.slice (some ⟨b2, o2, none⟩) n d) ∧
            W.cell? ⟨b1, o1 + k * 5, none⟩ = some (.int .i64 r.fn.params) ∧ W.cell? ⟨b1, o1 + k * 5 + 1, none⟩ = some (.slice r.lo r.fn.locals.length r.lc) ∧ W.cell? ⟨b1, o1 + k * 5 + 2, none⟩ = some (.bool r.fn.result) ∧ W.cell? ⟨b1, o1 + k * 5 + 3, none⟩ = some (.int .i64 r.fn.keep) ∧ W.cell? ⟨b1, o1 + k * 5 + 4, none⟩ = some (.slice r.co r.fn.code.length r.cc) ∧
            W.cell? ⟨b2, o2 + k * 5, none⟩ = some (.int .i64 s.fn.params) ∧ W.cell? ⟨b2, o2 + k * 5 + 1, none⟩ = some (.slice s.lo s.fn.locals.length s.lc) ∧ W.cell? ⟨b2, o2 + k * 5 + 2, none⟩ = some (.bool s.fn.result) ∧ W.cell? ⟨b2, o2 + k * 5 + 3, none⟩ = some (.int .i64 s.fn.keep) ∧ W.cell? ⟨b2, o2 + k * 5 + 4, none⟩ = some (.slice s.co s.fn.code.length s.cc))
            (first | go_keep) (fail)
          all_goals
            go_wp2
            go_meet
          case rel => exact ⟨wr.heap.size, wr.heap.size + 1, rfl, rfl, below_two _ _ _ _ _, (Blk.new wr _ _).alloc _, blk_second _ _ _ _ _⟩
          case rel => exact ⟨wr.heap.size + 1, wr.heap.size, rfl, rfl, below_two _ _ _ _ _, blk_second _ _ _ _ _, (Blk.new wr _ _).alloc _⟩
        case rest =>
          obtain ⟨q6, q7, rfl, rfl, HC, HQ6, HQ7⟩ := hcut
          have HWC := Lib.hid (HW.out.trans (HC.out.mono hz))
          have HBX2 := Lib.hid (HBX.out.below HC.out HBX.out.lt)
          have HBY2 := Lib.hid (HBY.out.below HC.out HBY.out.lt)
          have HXK : Hid ((fns ra)[k]? = some r.fn) := Lib.hid (by unfold fns; rw [List.getElem?_map, HX.out]; rfl)
          have HYK : Hid ((fns rb)[k]? = some s.fn) := Lib.hid (by unfold fns; rw [List.getElem?_map, HY.out]; rfl)
          have HRF2 := Lib.hid (HRF.out.keep fun p hp => HC.out.cell (p := p) (by omega))
          have HRG2 := Lib.hid (HRG.out.keep fun p hp => HC.out.cell (p := p) (by omega))
          have HNE : Hid (r.fn ≠ s.fn → decide (fns ra = fns rb) = false) := fun h => eq_at HXK.out HYK.out h
          have wl1 := HWF.out.ll
          have wl2 := HWG.out.ll
          have wc1 : r.fn.code.length ≤ 140737488351232 := by have := HWF.out.cl; omega
          have wc2 : s.fn.code.length ≤ 140737488351232 := by have := HWG.out.cl; omega
          obtain ⟨⟨p, ls, fl, kp, is⟩, lo, lc, co, cc⟩ := r
          obtain ⟨⟨p', ls', fl', kp', is'⟩, lo', lc', co', cc'⟩ := s
          clear x0 x1 x2 x3 x4 y0 y1 y2 y3 y4 d0 d1
          simp only at wl1 wl2 wc1 wc2 HQ6 HQ7
          have z0 : wc.cell? ⟨q6, 0, none⟩ = some (.int .i64 p) := HQ6.out.cell 0
          have z1 : wc.cell? ⟨q6, 1, none⟩ = some (.slice lo ls.length lc) := HQ6.out.cell 1
          have z2 : wc.cell? ⟨q6, 2, none⟩ = some (.bool fl) := HQ6.out.cell 2
          have z3 : wc.cell? ⟨q6, 3, none⟩ = some (.int .i64 kp) := HQ6.out.cell 3
          have z4 : wc.cell? ⟨q6, 4, none⟩ = some (.slice co is.length cc) := HQ6.out.cell 4
          have y0 : wc.cell? ⟨q7, 0, none⟩ = some (.int .i64 p') := HQ7.out.cell 0
          have y1 : wc.cell? ⟨q7, 1, none⟩ = some (.slice lo' ls'.length lc') := HQ7.out.cell 1
          have y2 : wc.cell? ⟨q7, 2, none⟩ = some (.bool fl') := HQ7.out.cell 2
          have y3 : wc.cell? ⟨q7, 3, none⟩ = some (.int .i64 kp') := HQ7.out.cell 3
          have y4 : wc.cell? ⟨q7, 4, none⟩ = some (.slice co' is'.length cc') := HQ7.out.cell 4
          by_cases c1 : p = p'
          rotate_left
          · have g1 : (p != p') = true := by simpa using c1
            have HR := Lib.hid (HNE.out (fun h => c1 (by injection h)))
            clear c1
            go_wp2
            go_ret
            exact ⟨by rw [HR.out]; rfl, HWC.out⟩
          subst c1
          have g1 : (p != p) = false := by simp
          by_cases c2 : fl = fl'
          rotate_left
          · have HR := Lib.hid (HNE.out (fun h => c2 (congrArg (fun f : Fn => f.result) h)))
            have HC2 := Lib.hid c2
            clear c2
            cases fl <;> cases fl'
            · exact absurd rfl HC2.out
            rotate_right
            · exact absurd rfl HC2.out
            all_goals
              go_wp2
              go_ret
              exact ⟨by rw [HR.out]; rfl, HWC.out⟩
          subst c2
          have g2 : (fl != fl) = false := by simp
          by_cases c3 : kp = kp'
          rotate_left
          · have g3 : (kp != kp') = true := by simpa using c3
            have HR := Lib.hid (HNE.out (fun h => c3 (by injection h)))
            clear c3
            go_wp2
            go_ret
            exact ⟨by rw [HR.out]; rfl, HWC.out⟩
          subst c3
          have g3 : (kp != kp) = false := by simp
          obtain ⟨nl, HNL⟩ : ∃ x, Hid (x = ls.length) := ⟨_, rfl⟩
          obtain ⟨nl', HNL'⟩ : ∃ x, Hid (x = ls'.length) := ⟨_, rfl⟩
          obtain ⟨nc, HNC⟩ : ∃ x, Hid (x = is.length) := ⟨_, rfl⟩
          obtain ⟨nc', HNC'⟩ : ∃ x, Hid (x = is'.length) := ⟨_, rfl⟩
          rw [← HNL.out] at z1 wl1
          rw [← HNL'.out] at y1 wl2
          rw [← HNC.out] at z4 wc1
          rw [← HNC'.out] at y4 wc2
          by_cases c4 : nl = nl'
          rotate_left
          · have HR := Lib.hid (HNE.out (fun h => c4 (by rw [HNL.out, HNL'.out]; exact congrArg (fun f : Fn => f.locals.length) h)))
            have g4' : (nl != nl') = true := by simpa using c4
            go_wp2
            go_ret
            exact ⟨by rw [HR.out]; rfl, HWC.out⟩
          subst c4
          by_cases c5 : nc = nc'
          rotate_left
          · have HR := Lib.hid (HNE.out (fun h => c5 (by rw [HNC.out, HNC'.out]; exact congrArg (fun f : Fn => f.code.length) h)))
            have g5' : (nc != nc') = true := by simpa using c5
            go_wp2
            go_ret
            exact ⟨by rw [HR.out]; rfl, HWC.out⟩
          subst c5
          have HRL := Lib.hid HRF2.out.locals
          have HRL' := Lib.hid HRG2.out.locals
          have HRC := Lib.hid HRF2.out.code
          have HRC' := Lib.hid HRG2.out.code
          simp only at HRL HRL' HRC HRC'
          rw [← HNL.out] at HRL
          rw [← HNL'.out] at HRL'
          rw [← HNC.out] at HRC
          rw [← HNC'.out] at HRC'
          go_wp2
          obtain ⟨wo, rfl⟩ : ∃ wo : World, wo = wr := ⟨_, rfl⟩
          go_loopw [73] (fun i wr => ∃ j q : Nat, j ≤ nl ∧ i = .int .i64 j ∧ Hid (ls'.take j = ls.take j) ∧ wr = wc.drewN q) (fun i _ => nl - (intOf i).toNat)
          case atStart => exact ⟨0, 0, Nat.zero_le _, rfl, rfl, rfl⟩
          case round =>
            obtain ⟨j, q, hj, rfl, HPJ, rfl⟩ := hrel
            by_cases hjl : j < nl
            · obtain ⟨b3, o3, x, hlo, hbk3, HXJ, x1⟩ := HRL.out.byte hjl
              obtain ⟨b4, o4, y, hlo', hbk4, HYJ, y5⟩ := HRL'.out.byte hjl
              subst hlo
              subst hlo'
              by_cases hxy : x = y
              · have hd : (x != y) = false := by simpa using hxy
                have HXY := Lib.hid hxy
                clear hxy
                go_wp2
                go_quiet (fail)
                go_wp2
                go_roundw
                case rel => exact ⟨j + 1, q + nq, by omega, by go_num, by show ls'.take (j + 1) = ls.take (j + 1); rw [take_snoc HXJ.out, take_snoc HYJ.out, HPJ.out, HXY.out], rfl⟩
                case measure => simp [intOf]; omega
              · have hd : (x != y) = true := by simpa using hxy
                have HR := Lib.hid (HNE.out (fun h => by
                  have h2 : ls = ls' := congrArg (fun f : Fn => f.locals) h
                  have := HXJ.out
                  rw [h2, HYJ.out] at this
                  exact hxy (by simpa using this.symm)))
                clear hxy
                go_wp2
                go_quiet (fail)
                go_wp2
                go_ret
                exact ⟨by rw [HR.out]; rfl, below_drewN (below_drewN HWC.out _) _⟩
            · obtain rfl : nl = j := by omega
              clear hjl hj
              have HLL : Hid (ls = ls') := by
                have h := HPJ.out
                rw [List.take_of_length_le (by rw [← HNL'.out]; omega), List.take_of_length_le (by rw [← HNL.out]; omega)] at h
                exact h.symm
              go_wp2
              go_loopw [91] (fun i wr => ∃ j q : Nat, j ≤ nc ∧ i = .int .i64 j ∧ Hid (is'.take j = is.take j) ∧ wr = wc.drewN q) (fun i _ => nc - (intOf i).toNat)
              case atStart => exact ⟨0, q, Nat.zero_le _, rfl, rfl, rfl⟩
              case round =>
                obtain ⟨j, q', hj, rfl, HPI, rfl⟩ := hrel
                by_cases hjl : j < nc
                · obtain ⟨b3, o3, x, hlo, hbk3, HXJ, x1, x2, x3⟩ := HRC.out.ins hjl
                  obtain ⟨b4, o4, y, hlo', hbk4, HYJ, y5, y6, y7⟩ := HRC'.out.ins hjl
                  subst hlo
                  subst hlo'
                  have he : ∀ W, Sem.run Try.prog (Op.equalIn 10000 51 (.agg #[.int .u8 x.op, .int .i64 x.arg, .int .u64 x.imm]) (.agg #[.int .u8 y.op, .int .i64 y.arg, .int .u64 y.imm])) W = .ok (decide (x = y)) W := equalIn_ins x y
                  by_cases hxy : x = y
                  · have hd : decide (x = y) = true := by simpa using hxy
                    rw [hd] at he
                    have HXY := Lib.hid hxy
                    clear hxy hd
                    go_wp2
                    go_quiet (fail)
                    go_wp2
                    go_roundw
                    case rel => exact ⟨j + 1, q' + nq, by omega, by go_num, by show is'.take (j + 1) = is.take (j + 1); rw [take_snoc HXJ.out, take_snoc HYJ.out, HPI.out, HXY.out], rfl⟩
                    case measure => simp [intOf]; omega
                  · have hd : decide (x = y) = false := by simpa using hxy
                    rw [hd] at he
                    have HR := Lib.hid (HNE.out (fun h => by
                      have h2 : is = is' := congrArg (fun f : Fn => f.code) h
                      have := HXJ.out
                      rw [h2, HYJ.out] at this
                      exact hxy (by simpa using this.symm)))
                    clear hxy hd
                    go_wp2
                    go_quiet (fail)
                    go_wp2
                    go_ret
                    exact ⟨by rw [HR.out]; rfl, below_drewN (below_drewN HWC.out _) _⟩
                · obtain rfl : nc = j := by omega
                  clear hjl hj
                  have HII : Hid (is = is') := by
                    have h := HPI.out
                    rw [List.take_of_length_le (by rw [← HNC'.out]; omega), List.take_of_length_le (by rw [← HNC.out]; omega)] at h
                    exact h.symm
                  have HT1 : Hid ((fns rb).take (k + 1) = (fns ra).take (k + 1)) := Lib.hid (by rw [take_snoc HXK.out, take_snoc HYK.out, HP.out, HLL.out, HII.out])
                  go_wp2
                  go_roundw
                  case rel => exact ⟨k + 1, by omega, by go_num, HT1, below_drewN HWC.out _, HBX2.out.drewN _, HBY2.out.drewN _⟩
                  case measure => simp [intOf]; omega
      · obtain rfl : n = k := by omega
        have hr : decide (fns ra = fns rb) = true := by
          have h := HP.out
          rw [List.take_of_length_le (by rw [HM.out]; omega), List.take_of_length_le (by rw [HN.out]; omega)] at h
          rw [h]; simp
        have HR := Lib.hid hr
        clear hr
        go_wp2
        go_ret
        exact ⟨by rw [HR.out]; rfl, HW.out⟩
end Go.Proofs.Ytcgoanfhabjpfaa
