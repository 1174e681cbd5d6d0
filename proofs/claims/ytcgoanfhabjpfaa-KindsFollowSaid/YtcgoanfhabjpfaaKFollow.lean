/-
  KindsFollow: the walk.
-/
import Derived.Test.YtcgoanfhabjpfaaKLit
namespace Go.Proofs.Ytcgoanfhabjpfaa
set_option linter.unusedVariables false
open Go.ChangeShapes Go.WideShapes Go.ChangeAt Go.RowKit

theorem verd_zero {fs : List Fn} (h : verd fs = 0) : okP fs = true ∧ bnd fs = true ∧ refB fs = true ∧ ¬ Deep fs := by
  unfold verd at h
  split at h
  · omega
  split at h
  · omega
  split at h
  · omega
  split at h
  · omega
  split at h
  · omega
  · rename_i h1 h2 h3 _ h5
    exact ⟨by simpa using h1, by simpa using h2, by simpa using h3, h5⟩
theorem ret_len {fs : List Fn} {f : Fn} {i : Ins} {s s' : Stk} (h : afterK fs f i s = some s') (ho : i.op = 24) : s.length = if f.result then 1 else 0 := by
  unfold afterK at h
  have ht : takesK fs f i (topK s) = resOf f := by unfold takesK; rw [if_neg (by omega), if_neg (by omega), if_neg (by omega), if_neg (by omega), if_neg (by omega), if_pos ho]
  rw [ht] at h
  split at h
  · rename_i hc
    obtain ⟨h1, _, h3⟩ := hc
    have h4 : ¬ (resOf f).length < s.length := fun hh => h3 ⟨ho, hh⟩
    have h5 : (resOf f).length = if f.result then 1 else 0 := by unfold resOf; split <;> rfl
    omega
  · cases h
theorem succ_next (a : Nat) (i : Ins) (h : ¬ (i.op = 21 ∨ i.op = 24 ∨ i.op = 26 ∨ i.op = 30)) : a + 1 ∈ succK a i := by
  unfold succK
  rw [if_neg (by omega)]
  split
  · simp
  · rw [if_neg (by omega)]; simp
theorem succ_arg (a : Nat) (i : Ins) (h : i.op = 21 ∨ i.op = 22) : i.arg.toNat ∈ succK a i := by
  unfold succK
  split
  · simp
  · rw [if_pos (by omega)]; simp

set_option maxRecDepth 100000 in
set_option maxHeartbeats 16000000 in
theorem follow_walk (A : Option Addr) (n c : Nat) (rs : List Raw) (w : World) (h : RdP w w.heap.size A n rs) :
    Calls Try.prog 4 #[.agg #[.slice A n c]] w fun e w' => e = .returned (.bool true) ∧ Below w.heap.size w w' := by
  have HX0 : Hid (Blk (w.alloc (.cells #[.slice A n c] 24)) w.heap.size 24 #[.slice A n c]) := Lib.hid (Blk.new w _ _)
  have HB0 : Hid (Below w.heap.size w (w.alloc (.cells #[.slice A n c] 24))) := Lib.hid ((Below.refl _ _).alloc (Nat.le_refl _) _)
  have H := Lib.hid h
  have HLEN := Lib.hid h.len
  clear h
  go_enter Try.func4, Try.ntmps4
  go_wp2_with (go_at_call 8; refine (first_any _).mono ?_; rintro e w1 ⟨rfl, hb1⟩; refine Hid.out ?_)
  have HB1 : Hid (Below w.heap.size w w1) := Lib.hid (HB0.out.trans (hb1.mono (by simp)))
  have HX1 := Lib.hid (HX0.out.below hb1 (by simp))
  have x1 : w1.cell? ⟨w.heap.size, 0, none⟩ = some (.slice A n c) := HX1.out.cell 0
  have hz1 : w.heap.size < w1.heap.size := HX1.out.lt
  have HR1 := Lib.hid (H.out.below HB1.out)
  have HCK := Lib.hid (check_any w.heap.size A n c rs w1 HR1.out (by omega))
  clear hb1 HX0 HB0
  obtain ⟨v, hv⟩ : ∃ v, v = verd (fns rs) := ⟨_, rfl⟩
  have HV := Lib.hid hv
  clear hv
  by_cases hv0 : v = 0
  rotate_left
  · have HC2 : Hid (Calls Try.prog 10 #[.agg #[.slice A n c]] w1 fun e w' => e = .returned (.tuple #[.pointer none, .int .i64 v]) ∧ Below w1.heap.size w1 w') := Lib.hid (HCK.out.mono fun e w' ⟨hb, hc⟩ => by
      rcases hc with ⟨_, he⟩ | ⟨h0, _⟩
      · exact ⟨by rw [he, HV.out], hb⟩
      · exact absurd (HV.out.trans h0) hv0)
    have g1 : (v == 0) = false := by simpa using hv0
    have g2 : (v != 0) = true := by simpa using hv0
    clear hv0
    refine Lib.hid ?_
    go_wp2_with (go_at_call 10; refine HC2.out.mono ?_; rintro e w2 ⟨rfl, hb2⟩; have HB2 := Lib.hid (HB1.out.trans (hb2.mono (by omega))); clear hb2)
    go_ret
    exact ⟨rfl, HB2.out⟩
  · have HZ : Hid (verd (fns rs) = 0) := Lib.hid (by rw [← HV.out]; exact hv0)
    have HC2 : Hid (Calls Try.prog 10 #[.agg #[.slice A n c]] w1 fun e w' => ∃ w0 tb ls rvs svs RA rc SA sc, e = .returned (.tuple #[.pointer (some ⟨tb, 0, none⟩), .int .i64 0]) ∧ Below w1.heap.size w1 w' ∧ TI w0 w.heap.size tb rs n ls rvs svs RA rc SA sc w' ∧ Sols (fns rs) (fns rs) ls) := Lib.hid (HCK.out.mono fun e w' ⟨hb, hc⟩ => by
      rcases hc with ⟨h0, _⟩ | ⟨_, w0, tb, ls, rvs, svs, RA, rc, SA, sc, he, hti, hs⟩
      · exact absurd HZ.out h0
      · exact ⟨w0, tb, ls, rvs, svs, RA, rc, SA, sc, he, hb, hti, hs⟩)
    clear hv0
    refine Lib.hid ?_
    go_wp2_with (go_at_call 10; refine HC2.out.mono ?_; rintro e w2 ⟨w0, tb, ls, rvs, svs, RA, rc, SA, sc, rfl, hb2, hti, hs⟩; have HB2 := Lib.hid (HB1.out.trans (hb2.mono (by omega))); have HTI := Lib.hid hti; have HS := Lib.hid hs; have HX2 := Lib.hid (HX1.out.below hb2 (by omega)); clear hb2 hti hs; refine Hid.out ?_)
    have x2 : w2.cell? ⟨w.heap.size, 0, none⟩ = some (.slice A n c) := HX2.out.cell 0
    have hz2 : w.heap.size < w2.heap.size := HX2.out.lt
    have hn255 : n ≤ 255 := by have := (okP_iff.1 (verd_zero HZ.out).1).2.1; rw [length_fns, HLEN.out] at this; exact this
    clear x1
    refine Lib.hid ?_
    go_wp2
    go_loopw [33] (fun i wr => ∃ k : Nat, k ≤ n ∧ i = .int .i64 k ∧ Hid (Below w2.heap.size w2 wr)) (fun i _ => n - (intOf i).toNat)
    case atStart => exact ⟨0, Nat.zero_le _, rfl, Lib.hid (Below.refl _ _)⟩
    case round =>
      clear x2
      obtain ⟨k, hk, rfl, HB⟩ := hrel
      have hzr := HB.out.size
      by_cases hlt : k < n
      · obtain ⟨b, off, r, hA, hb, HX, HF, HW, y0, y1, y2, y3, y4⟩ := (H.out.below (HB2.out.trans (HB.out.mono (by omega)))).fn hlt
        have hbr : b < wr.heap.size := by omega
        subst hA
        have HFN : Hid ((fns rs)[k]? = some r.fn) := Lib.hid (by unfold fns; rw [List.getElem?_map, HX.out]; rfl)
        obtain ⟨l, hl, hsol⟩ := HS.out.2 k r.fn HFN.out
        have hti := HTI.out.on HB.out
        obtain ⟨bR, oR, bS, oS, ra, sa, m, hR, hS, hbR, hbS, hral, hsal, hm, hm256, r0, s0, hat⟩ := hti.look hl
        have t0 : wr.cell? ⟨tb, 0, none⟩ = some (.slice RA n rc) := hti.tj.blk.cell 0
        have t1 : wr.cell? ⟨tb, 1, none⟩ = some (.slice SA n sc) := hti.tj.blk.cell 1
        have htb : tb < wr.heap.size := hti.tj.blk.lt
        rw [hR] at t0
        rw [hS] at t1
        have hcl : r.fn.code.length = m := by rw [hm, hsol.len]
        rw [hcl] at y4
        obtain ⟨e0, a0, q0, c0, f0, hq0, _⟩ := hat 0 _ hsol.zero
        have hq00 : q0 = 0 := hq0
        subst hq00
        have e0' : wr.cell? ⟨ra, 0, none⟩ = some (.bool true) := e0
        have hm0 : 0 < m := by have := hsol.pos; omega
        have HAT := Lib.hid hat
        have HSOL := Lib.hid hsol
        have HL := Lib.hid hl
        have HCL := Lib.hid hcl
        have HM := Lib.hid hm
        have HBA : Hid (Below w2.heap.size w2 (wr.alloc (.cells #[.int .i64 r.fn.params, .slice r.lo r.fn.locals.length r.lc, .bool r.fn.result, .int .i64 r.fn.keep, .slice r.co m r.cc] 47))) := Lib.hid (HB.out.alloc (by omega) _)
        have HQF : Hid (Blk (wr.alloc (.cells #[.int .i64 r.fn.params, .slice r.lo r.fn.locals.length r.lc, .bool r.fn.result, .int .i64 r.fn.keep, .slice r.co m r.cc] 47)) wr.heap.size 47 #[.int .i64 r.fn.params, .slice r.lo r.fn.locals.length r.lc, .bool r.fn.result, .int .i64 r.fn.keep, .slice r.co m r.cc]) := Lib.hid (Blk.new wr _ _)
        clear hti hat hsol hl hcl hm e0 hq0 hR hS
        go_wp2
        obtain ⟨wo, rfl⟩ : ∃ wo : World, wo = wr := ⟨_, rfl⟩
        obtain ⟨wa, HWA⟩ : ∃ wa : World, Hid (wa = wo.alloc (.cells #[.int .i64 r.fn.params, .slice r.lo r.fn.locals.length r.lc, .bool r.fn.result, .int .i64 r.fn.keep, .slice r.co m r.cc] 47)) := ⟨_, Lib.hid rfl⟩
        have HW0 : Hid (Below (wo.heap.size + 1) wa (wo.alloc (.cells #[.int .i64 r.fn.params, .slice r.lo r.fn.locals.length r.lc, .bool r.fn.result, .int .i64 r.fn.keep, .slice r.co m r.cc] 47))) := Lib.hid (by rw [HWA.out]; exact Below.refl _ _)
        go_loopw [64] (fun i wr => ∃ j : Nat, j ≤ m ∧ i = .int .i64 j ∧ Hid (Below (wo.heap.size + 1) wa wr)) (fun i _ => m - (intOf i).toNat)
        case atStart => exact ⟨0, Nat.zero_le _, rfl, HW0⟩
        case round =>
          clear HW0
          obtain ⟨j, hj, rfl, HBJ0⟩ := hrel
          have HBJ : Hid (Below (wo.heap.size + 1) (wo.alloc (.cells #[.int .i64 r.fn.params, .slice r.lo r.fn.locals.length r.lc, .bool r.fn.result, .int .i64 r.fn.keep, .slice r.co m r.cc] 47)) wr) := Lib.hid (by rw [← HWA.out]; exact HBJ0.out)
          have hzj : wo.heap.size < wr.heap.size := by have := HBJ.out.size; simp at this; omega
          have hkeep : Below wo.heap.size wo wr := ((Below.refl _ _).alloc (Nat.le_refl _) (.cells #[.int .i64 r.fn.params, .slice r.lo r.fn.locals.length r.lc, .bool r.fn.result, .int .i64 r.fn.keep, .slice r.co m r.cc] 47)).trans (HBJ.out.mono (by omega))
          have T0 : wr.cell? ⟨tb, 0, none⟩ = some (.slice (some ⟨bR, oR, none⟩) n rc) := (hkeep.cell (p := ⟨tb, 0, none⟩) htb).trans t0
          have T1 : wr.cell? ⟨tb, 1, none⟩ = some (.slice (some ⟨bS, oS, none⟩) n sc) := (hkeep.cell (p := ⟨tb, 1, none⟩) htb).trans t1
          have R0 : wr.cell? ⟨bR, oR + k, none⟩ = some (.slice (some ⟨ra, 0, none⟩) m m) := (hkeep.cell (p := ⟨bR, oR + k, none⟩) hbR).trans r0
          have S0 : wr.cell? ⟨bS, oS + k, none⟩ = some (.slice (some ⟨sa, 0, none⟩) m m) := (hkeep.cell (p := ⟨bS, oS + k, none⟩) hbS).trans s0
          have hqf := HQF.out.below HBJ.out (by omega)
          have Q2 : wr.cell? ⟨wo.heap.size, 2, none⟩ = some (.bool r.fn.result) := hqf.cell 2
          have Q4 : wr.cell? ⟨wo.heap.size, 4, none⟩ = some (.slice r.co m r.cc) := hqf.cell 4
          have HKP := Lib.hid hkeep
          have ltb : tb < wr.heap.size := by omega
          have lbR : bR < wr.heap.size := by omega
          have lbS : bS < wr.heap.size := by omega
          have lra : ra < wr.heap.size := by omega
          have lsa : sa < wr.heap.size := by omega
          clear hqf hkeep
          by_cases hlj : j < m
          · obtain ⟨x, hx⟩ : ∃ x, l[j]? = some x := ⟨l[j]'(by rw [← HM.out]; exact hlj), List.getElem?_eq_getElem _⟩
            obtain ⟨b2, off2, i, hco, hb2, HI, z0, z1, z2⟩ := ((HF.out.code).keep (fun p hp => HKP.out.cell (p := p) (by omega))).ins (k := j) (by rw [HCL.out]; exact hlj)
            have hb2w : b2 < wr.heap.size := by omega
            rw [hco] at Q4 ⊢
            obtain ⟨v0, a2, q2, c2, v1, hq2, _⟩ := HAT.out j x hx
            have V0 : wr.cell? ⟨ra, j, none⟩ = some (.bool x.isSome) := (HKP.out.cell (p := ⟨ra, j, none⟩) hral).trans v0
            have V1 : wr.cell? ⟨sa, j, none⟩ = some (.slice a2 q2 c2) := (HKP.out.cell (p := ⟨sa, j, none⟩) hsal).trans v1
            have HBI := Lib.hid (HBJ0.out.alloc (by omega) (.cells #[.int .u8 i.op, .int .i64 i.arg, .int .u64 i.imm] 51))
            obtain ⟨j1, hj1⟩ : ∃ j1 : Nat, (j : Int) + 1 = (j1 : Int) := ⟨j + 1, by omega⟩
            have hj1n : j1 = j + 1 := by omega
            have HJ1 := Lib.hid hj1n
            clear hj1n v0 v1 hco
            cases x with
            | none =>
              simp only [Option.isSome_none] at V0
              clear hx hq2
              go_wp2
              go_roundw
              case rel => exact ⟨j1, by have := HJ1.out; omega, rfl, HBI⟩
              case measure => have := HJ1.out; simp [intOf]; omega
            | some s =>
              simp only [Option.isSome_some, Option.getD_some] at V0 hq2
              obtain ⟨s', haf, hsu⟩ := HSOL.out.next hx HI.out
              have hq16 : q2 ≤ 16 := by
                rcases Nat.lt_or_ge 16 q2 with hh | hh
                · exact absurd ⟨r.fn, List.mem_of_getElem? HFN.out, j, s, (HSOL.out.iff j s).1 hx, by omega⟩ (verd_zero HZ.out).2.2.2
                · exact hh
              have hRet : i.op = 24 → q2 = if r.fn.result then 1 else 0 := fun ho => by rw [hq2]; exact ret_len haf ho
              have hNx : ¬ (i.op = 21 ∨ i.op = 24 ∨ i.op = 26 ∨ i.op = 30) → j1 < m ∧ wr.cell? ⟨ra, j1, none⟩ = some (.bool true) := fun ho => by
                have h1 := hsu (j + 1) (succ_next j i ho)
                rw [← HJ1.out] at h1
                have h2 := (HAT.out j1 _ h1).1
                exact ⟨by rw [HM.out]; exact (List.getElem?_eq_some_iff.1 h1).1, (HKP.out.cell (p := ⟨ra, j1, none⟩) hral).trans h2⟩
              have hArg : (i.op = 21 ∨ i.op = 22) → ∃ a : Nat, i.arg = (a : Int) ∧ a < m ∧ wr.cell? ⟨ra, a, none⟩ = some (.bool true) := fun ho => by
                have h1 := hsu i.arg.toNat (succ_arg j i ho)
                have h2 := (HAT.out i.arg.toNat _ h1).1
                have h0 : 0 ≤ i.arg := by
                  have hok := (okP_iff.1 (verd_zero HZ.out).1).2.2 r.fn (List.mem_of_getElem? HFN.out)
                  exact (fitB_iff.1 (okI_iff.1 ((okF_iff.1 hok).2.2.2.2.2.2.2 i (List.mem_of_getElem? HI.out))).2.1).1
                exact ⟨i.arg.toNat, by omega, by rw [HM.out]; exact (List.getElem?_eq_some_iff.1 h1).1, (HKP.out.cell (p := ⟨ra, i.arg.toNat, none⟩) hral).trans h2⟩
              have g16 : decide ((q2 : Int) > 16) = false := by simp; omega
              have g16' : decide (16 < q2) = false := by simp; omega
              obtain ⟨op, arg, imm⟩ := i
              simp only at z0 z1 z2 hRet hNx hArg HBI
              have HHX := Lib.hid hx
              clear hx hq2 haf hsu
              by_cases c24 : op = 24
              · have hR := hRet c24
                subst c24
                clear hRet hNx hArg
                cases hres : r.fn.result with
                | true =>
                  rw [hres] at hR Q2
                  rw [if_pos rfl] at hR
                  subst hR
                  clear hres
                  go_wp2
                  go_quiet (fail)
                  go_wp2
                  go_roundw
                  case rel => exact ⟨j1, by have := HJ1.out; omega, rfl, Lib.hid (below_drewN HBI.out _)⟩
                  case measure => have := HJ1.out; simp [intOf]; omega
                | false =>
                  rw [hres] at hR Q2
                  rw [if_neg (by simp)] at hR
                  subst hR
                  clear hres
                  go_wp2
                  go_quiet (fail)
                  go_wp2
                  go_roundw
                  case rel => exact ⟨j1, by have := HJ1.out; omega, rfl, Lib.hid (below_drewN HBI.out _)⟩
                  case measure => have := HJ1.out; simp [intOf]; omega
              have g24 : (op == 24) = false := by simpa using c24
              clear hRet
              by_cases c2630 : op = 26 ∨ op = 30
              · clear hNx hArg c24
                rcases c2630 with rfl | rfl
                all_goals
                  clear g24
                  go_wp2
                  go_quiet (fail)
                  go_wp2
                  go_roundw
                  case rel => exact ⟨j1, by have := HJ1.out; omega, rfl, Lib.hid (below_drewN HBI.out _)⟩
                  case measure => have := HJ1.out; simp [intOf]; omega
              by_cases c21 : op = 21
              · obtain ⟨a, ha, ham, V2⟩ := hArg (.inl c21)
                subst c21 ha
                clear hNx hArg c24 c2630 g24
                go_wp2
                go_quiet (fail)
                go_wp2
                go_roundw
                case rel => exact ⟨j1, by have := HJ1.out; omega, rfl, Lib.hid (below_drewN HBI.out _)⟩
                case measure => have := HJ1.out; simp [intOf]; omega
              have g26 : (op == 26) = false := by simp; omega
              have g30 : (op == 30) = false := by simp; omega
              have g21 : (op == 21) = false := by simpa using c21
              have g21' : (op != 21) = true := by simpa using c21
              obtain ⟨hj1m, V3⟩ := hNx (by omega)
              have gj1 : decide ((j1 : Int) ≥ (m : Int)) = false := by simp; omega
              have gj1' : decide (m ≤ j1) = false := by simp; omega
              by_cases c22 : op = 22
              · obtain ⟨a, ha, ham, V2⟩ := hArg (.inr c22)
                subst c22 ha
                clear hNx hArg c24 c2630 c21 g24 g26 g30 g21 g21'
                go_wp2
                go_quiet (fail)
                go_wp2
                go_roundw
                case rel => exact ⟨j1, by have := HJ1.out; omega, rfl, Lib.hid (below_drewN HBI.out _)⟩
                case measure => have := HJ1.out; simp [intOf]; omega
              have g22 : (op == 22) = false := by simpa using c22
              clear hNx hArg c24 c2630 c21 c22
              go_wp2
              go_quiet (fail)
              go_wp2
              go_roundw
              case rel => exact ⟨j1, by have := HJ1.out; omega, rfl, Lib.hid (below_drewN HBI.out _)⟩
              case measure => have := HJ1.out; simp [intOf]; omega
          · obtain rfl : j = m := by omega
            clear hlj hj
            have HBO := Lib.hid ((HB.out.trans (HKP.out.mono (by omega))))
            go_wp2
            go_roundw
            case rel => exact ⟨k + 1, by omega, by go_num, HBO⟩
            case measure => simp [intOf]; omega
      · obtain rfl : n = k := by omega
        clear hlt hk
        go_wp2
        go_ret
        exact ⟨rfl, HB2.out.trans (HB.out.mono (by omega))⟩
end Go.Proofs.Ytcgoanfhabjpfaa
