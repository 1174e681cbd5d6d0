/-
  KindsChecks: the walk.
-/
import Derived.Test.YtcgoanfhabjpfaaKRckW
import Derived.Test.YtcgoanfhabjpfaaKLit
import Derived.Test.YtcgoanfhabjpfaaCopy
import Derived.BigQuiet
namespace Go.Proofs.Ytcgoanfhabjpfaa
set_option linter.unusedVariables false
set_option linter.unusedSimpArgs false
open Go.ChangeShapes Go.WideShapes Go.ChangeAt Go.RowKit

theorem CpR.rd {w w' : World} {n c : Nat} {A A' : Option Addr} {rs rs' : List Raw} {W : World} {B : Nat} (h : CpR w n (fns rs) A c rs' w') (h0 : RdP W B A' n rs) : RdP w' w'.heap.size A n rs' := by
  refine ⟨Reads.of_own h.own, ?_, fun r hr => (h.each r hr).rdF, fun r hr => ?_, h0.sz⟩
  · rw [← length_fns, h.eq, length_fns, h0.len]
  · have : r.fn ∈ fns rs := by rw [← h.eq]; exact List.mem_map_of_mem hr
    obtain ⟨r0, h1, h2⟩ := List.mem_map.1 this
    rw [← h2]
    exact h0.wf r0 h1
theorem verd_parts {fs : List Fn} (h : verd fs = 0) : okP fs = true ∧ ¬ Deep fs := by
  unfold verd at h
  split at h
  · omega
  split at h
  · omega
  split at h
  · omega
  split at h
  · omega
  split at h
  · omega
  · rename_i h1 h2 h3 _ h5
    exact ⟨by simpa using h1, h5⟩
theorem verd_ok0 {fs : List Fn} (h : verd fs = 0) : okP fs = true := (verd_parts h).1
theorem verd_nd {fs : List Fn} (h : verd fs = 0) : ¬ Deep fs := (verd_parts h).2
theorem own_below_ {w w' : World} {base size n : Nat} {e : TypeId} {v : Value} {xs : List Value} (h : w.ownsRow base e size v n xs) (hb : Below w.heap.size w w') : w'.ownsRow base e size v n xs :=
  own_kept h fun i hi => hb.block i (own_lt h hi).2
theorem told_is (B : Nat) (A : Option Addr) (n c : Nat) (s : Stk) (S : ByteArray) (w : World) (h : Reads w B 1 A n (u8c s)) (hn : n ≤ 100000) (hS : S = str (ltr s)) :
    Calls Try.prog 13 #[.slice A n c, .string S] w fun e w' => e = .returned (.bool true) ∧ w = w' := by
  have HC := Lib.hid (letters_any B A n c s w h hn)
  have HS := Lib.hid hS
  rw [← HS.out] at HC
  have gS : (S.toList == S.toList) = true := by simp
  clear h hS
  go_enter Try.func13, Try.ntmps13
  go_wp2_with (go_at_call 23; refine HC.out.mono ?_; rintro e w2 ⟨rfl, rfl⟩)
  go_ret
  exact ⟨rfl, rfl⟩

set_option maxRecDepth 100000 in
set_option maxHeartbeats 12800000 in
theorem checks_walk (A : Option Addr) (n c : Nat) (rs : List Raw) (w : World) (h : RdP w w.heap.size A n rs) :
    Calls Try.prog 3 #[.agg #[.slice A n c]] w fun e w' => e = .returned (.bool true) ∧ Below w.heap.size w w' := by
  have HX0 : Hid (Blk (w.alloc (.cells #[.slice A n c] 24)) w.heap.size 24 #[.slice A n c]) := Lib.hid (Blk.new w _ _)
  have HB0 : Hid (Below w.heap.size w (w.alloc (.cells #[.slice A n c] 24))) := Lib.hid ((Below.refl _ _).alloc (Nat.le_refl _) _)
  have H := Lib.hid h
  have HLEN := Lib.hid h.len
  clear h
  go_enter Try.func3, Try.ntmps3
  go_wp2_with (go_at_call 8; refine (first_any _).mono ?_; rintro e w1 ⟨rfl, hb1⟩; refine Hid.out ?_)
  have HB1 : Hid (Below w.heap.size w w1) := Lib.hid (HB0.out.trans (hb1.mono (by simp)))
  have HX1 := Lib.hid (HX0.out.below hb1 (by simp))
  have x1 : w1.cell? ⟨w.heap.size, 0, none⟩ = some (.slice A n c) := HX1.out.cell 0
  have hz1 : w.heap.size < w1.heap.size := HX1.out.lt
  have HR1 := Lib.hid (H.out.below HB1.out)
  have HCP := Lib.hid (rcopy_any w.heap.size A n c rs w1 HR1.out (by omega))
  clear hb1 HX0 HB0
  refine Lib.hid ?_
  go_wp2_with (go_at_call 9; refine HCP.out.mono ?_; rintro e w2 ⟨A2, c2, rs2, rfl, hcp⟩; have HCR := Lib.hid hcp; have x2 : w2.cell? ⟨w.heap.size, 0, none⟩ = some (.slice A n c) := (HX1.out.below hcp.below hz1).cell 0; clear hcp; refine Hid.out ?_)
  have hz2 : w1.heap.size ≤ w2.heap.size := HCR.out.below.size
  have hz12 : w.heap.size < w2.heap.size := by omega
  have HB2 : Hid (Below w.heap.size w w2) := Lib.hid (HB1.out.trans (HCR.out.below.mono (by omega)))
  have HX2 := Lib.hid (HX1.out.below HCR.out.below hz1)
  have HEQ : Hid (fns rs2 = fns rs) := Lib.hid HCR.out.eq
  -- the box of the copy
  have HX3 : Hid (Blk (w2.alloc (.cells #[.slice A2 n c2] 24)) w.heap.size 24 #[.slice A n c]) := Lib.hid (HX2.out.alloc _)
  have HY3 : Hid (Blk (w2.alloc (.cells #[.slice A2 n c2] 24)) w2.heap.size 24 #[.slice A2 n c2]) := Lib.hid (Blk.new w2 _ _)
  have HB3 : Hid (Below w.heap.size w (w2.alloc (.cells #[.slice A2 n c2] 24))) := Lib.hid (HB2.out.alloc (by omega) _)
  have HR3 := Lib.hid (H.out.below HB3.out)
  have HQ3 := Lib.hid (((HCR.out.rd HR1.out).alloc (Nat.le_refl _) (.cells #[.slice A2 n c2] 24)))
  have HCK := Lib.hid (check_any w.heap.size A n c rs _ HR3.out (by simp; omega))
  clear x1 HCP
  obtain ⟨v, hv⟩ : ∃ v, v = verd (fns rs) := ⟨_, rfl⟩
  have HV := Lib.hid hv
  clear hv
  -- what is done behind Check
  have HTAIL : Hid (∀ w4, Below (w2.alloc (.cells #[.slice A2 n c2] 24)).heap.size (w2.alloc (.cells #[.slice A2 n c2] 24)) w4 → w4.cell? ⟨w.heap.size, 0, none⟩ = some (.slice A n c) ∧ w4.cell? ⟨w2.heap.size, 0, none⟩ = some (.slice A2 n c2) ∧ w.heap.size < w4.heap.size ∧ w2.heap.size < w4.heap.size ∧ Below w.heap.size w w4 ∧ RdP w4 w.heap.size A n rs ∧ RdP w4 w2.heap.size A2 n rs2) := Lib.hid fun w4 hb => by
    have hz := hb.size
    simp at hz
    refine ⟨(HX3.out.below hb (by simp; omega)).cell 0, (HY3.out.below hb (by simp)).cell 0, by omega, by omega, HB3.out.trans (hb.mono (by simp; omega)), ?_, HQ3.out.below (hb.mono (by simp))⟩
    exact H.out.below (HB3.out.trans (hb.mono (by simp; omega)))
  by_cases hv0 : v = 0
  rotate_left
  · have HC2 : Hid (Calls Try.prog 10 #[.agg #[.slice A n c]] (w2.alloc (.cells #[.slice A2 n c2] 24)) fun e w' => e = .returned (.tuple #[.pointer none, .int .i64 v]) ∧ Below (w2.alloc (.cells #[.slice A2 n c2] 24)).heap.size (w2.alloc (.cells #[.slice A2 n c2] 24)) w') := Lib.hid (HCK.out.mono fun e w' ⟨hb, hc⟩ => by
      rcases hc with ⟨_, he⟩ | ⟨h0, _⟩
      · exact ⟨by rw [he, HV.out], hb⟩
      · exact absurd (HV.out.trans h0) hv0)
    have g1 : (v == 0) = false := by simpa using hv0
    have g2 : (v != 0) = true := by simpa using hv0
    have HNZ := Lib.hid hv0
    clear hv0 HCK
    refine Lib.hid ?_
    go_wp2_with (go_at_call 10; refine HC2.out.mono ?_; rintro e w4 ⟨rfl, hb4⟩; obtain ⟨e1, e2, hz4, hz5, hbw, hr4, hq4⟩ := HTAIL.out w4 hb4; have HBW := Lib.hid hbw; have HR4 := Lib.hid hr4; have HQ4 := Lib.hid hq4; clear hb4 hbw hr4 hq4; refine Hid.out ?_)
    have HRK : Hid (Calls Try.prog 11 #[.agg #[.slice A2 n c2]] w4 fun e w' => e = .returned (.tuple #[.slice none 0 0, .int .i64 v]) ∧ Below w4.heap.size w4 w') := Lib.hid ((rcheck_any w2.heap.size A2 n c2 rs2 w4 HQ4.out (by omega)).mono fun e w' ⟨hb, hc⟩ => by
      rcases hc with ⟨_, he⟩ | ⟨h0, _⟩
      · exact ⟨by rw [he, HEQ.out, HV.out], hb⟩
      · rw [HEQ.out] at h0
        exact absurd (HV.out.trans h0) HNZ.out)
    clear x2 HC2
    refine Lib.hid ?_
    go_wp2_with (go_at_call 11; refine HRK.out.mono ?_; rintro e w5 ⟨rfl, hb5⟩; have f1 : w5.cell? ⟨w.heap.size, 0, none⟩ = some (.slice A n c) := (hb5.cell (p := ⟨w.heap.size, 0, none⟩) hz4).trans e1; have f2 : w5.cell? ⟨w2.heap.size, 0, none⟩ = some (.slice A2 n c2) := (hb5.cell (p := ⟨w2.heap.size, 0, none⟩) hz5).trans e2; have HB5 := Lib.hid hb5; clear hb5; refine Hid.out ?_)
    have hz6 := HB5.out.size
    have HSM := Lib.hid (rsame_any w4.heap.size A A2 n n c c2 rs rs2 w5 ((HR4.out.more (by omega)).below HB5.out) ((HQ4.out.more (by omega)).below HB5.out) hz6)
    rw [HEQ.out, decide_eq_true rfl] at HSM
    clear e1 e2 HRK
    refine Lib.hid ?_
    go_wp2_with (go_at_call 12; refine HSM.out.mono ?_; rintro e w6 ⟨rfl, hb6⟩; have HB6 := Lib.hid hb6; clear hb6)
    go_ret
    exact ⟨rfl, HBW.out.trans ((HB5.out.mono (by omega)).trans (HB6.out.mono (by omega)))⟩
  · have HZ : Hid (verd (fns rs) = 0) := Lib.hid (by rw [← HV.out]; exact hv0)
    have HC2 : Hid (Calls Try.prog 10 #[.agg #[.slice A n c]] (w2.alloc (.cells #[.slice A2 n c2] 24)) fun e w' => ∃ w0 tb ls rvs svs RA rc SA sc, e = .returned (.tuple #[.pointer (some ⟨tb, 0, none⟩), .int .i64 0]) ∧ Below (w2.alloc (.cells #[.slice A2 n c2] 24)).heap.size (w2.alloc (.cells #[.slice A2 n c2] 24)) w' ∧ TI w0 w.heap.size tb rs n ls rvs svs RA rc SA sc w' ∧ Sols (fns rs) (fns rs) ls) := Lib.hid (HCK.out.mono fun e w' ⟨hb, hc⟩ => by
      rcases hc with ⟨h0, _⟩ | ⟨_, w0, tb, ls, rvs, svs, RA, rc, SA, sc, he, hti, hs⟩
      · exact absurd HZ.out h0
      · exact ⟨w0, tb, ls, rvs, svs, RA, rc, SA, sc, he, hb, hti, hs⟩)
    clear hv0 HCK
    refine Lib.hid ?_
    go_wp2_with (go_at_call 10; refine HC2.out.mono ?_; rintro e w4 ⟨w0, tb, ls, rvs, svs, RA, rc, SA, sc, rfl, hb4, hti, hs⟩; obtain ⟨e1, e2, hz4, hz5, hbw, hr4, hq4⟩ := HTAIL.out w4 hb4; have HTI := Lib.hid hti; have HS := Lib.hid hs; have HBW := Lib.hid hbw; have HR4 := Lib.hid hr4; have HQ4 := Lib.hid hq4; clear hb4 hbw hr4 hq4 hti hs; refine Hid.out ?_)
    have HRK : Hid (Calls Try.prog 11 #[.agg #[.slice A2 n c2]] w4 fun e w' => ∃ A5 c5 vs5, e = .returned (.tuple #[.slice A5 n c5, .int .i64 0]) ∧ Below w4.heap.size w4 w' ∧ w'.ownsRow w4.heap.size 40 1 (.slice A5 n c5) n vs5 ∧ (∀ (j : Nat) l, ls[j]? = some l → ∃ v, vs5[j]? = some v ∧ RowAt w4.heap.size w' l v)) := Lib.hid ((rcheck_any w2.heap.size A2 n c2 rs2 w4 HQ4.out (by omega)).mono fun e w' ⟨hb, hc⟩ => by
      rcases hc with ⟨h0, _⟩ | ⟨_, A5, c5, ls5, vs5, he, ho, _, hr, hS⟩
      · rw [HEQ.out] at h0
        exact absurd HZ.out h0
      · rw [HEQ.out] at hS
        have := HS.out.eq_ hS
        subst this
        exact ⟨A5, c5, vs5, he, hb, ho, hr⟩)
    clear x2 HC2
    refine Lib.hid ?_
    go_wp2_with (go_at_call 11; refine HRK.out.mono ?_; rintro e w5 ⟨A5, c5, vs5, rfl, hb5, ho5, hr5⟩; have f1 : w5.cell? ⟨w.heap.size, 0, none⟩ = some (.slice A n c) := (hb5.cell (p := ⟨w.heap.size, 0, none⟩) hz4).trans e1; have f2 : w5.cell? ⟨w2.heap.size, 0, none⟩ = some (.slice A2 n c2) := (hb5.cell (p := ⟨w2.heap.size, 0, none⟩) hz5).trans e2; have HB5 := Lib.hid hb5; have HO5 := Lib.hid ho5; have HRR5 := Lib.hid hr5; clear hb5 ho5 hr5; refine Hid.out ?_)
    have hz6 := HB5.out.size
    have HSM := Lib.hid (rsame_any w4.heap.size A A2 n n c c2 rs rs2 w5 ((HR4.out.more (by omega)).below HB5.out) ((HQ4.out.more (by omega)).below HB5.out) hz6)
    rw [HEQ.out, decide_eq_true rfl] at HSM
    have hn255 : n ≤ 255 := by have := (okP_iff.1 (verd_ok0 HZ.out)).2.1; rw [length_fns, HLEN.out] at this; exact this
    clear e1 e2 HRK
    refine Lib.hid ?_
    go_wp2_with (go_at_call 12; refine HSM.out.mono ?_; rintro e w6 ⟨rfl, hb6⟩; have HB6 := Lib.hid hb6; clear hb6; refine Hid.out ?_)
    have HT6 := Lib.hid ((HTI.out.on HB5.out).on HB6.out)
    have HO6 := Lib.hid (own_below_ HO5.out HB6.out)
    have HR6 : Hid (∀ (j : Nat) l, ls[j]? = some l → ∃ v, vs5[j]? = some v ∧ RowAt w4.heap.size w6 l v) := Lib.hid fun j l hl => by
      obtain ⟨v, h1, h2⟩ := HRR5.out j l hl
      exact ⟨v, h1, h2.kept fun u q xs ho => own_below_ ho HB6.out⟩
    have HW6 : Hid (Below w.heap.size w w6) := Lib.hid (HBW.out.trans ((HB5.out.mono (by omega)).trans (HB6.out.mono (by omega))))
    have hz7 : w.heap.size < w6.heap.size := by have := HB6.out.size; omega
    have t0 : w6.cell? ⟨tb, 0, none⟩ = some (.slice RA n rc) := HT6.out.tj.blk.cell 0
    have t1 : w6.cell? ⟨tb, 1, none⟩ = some (.slice SA n sc) := HT6.out.tj.blk.cell 1
    have HLL : Hid (ls.length = n) := Lib.hid HT6.out.len
    clear f1 f2 HSM
    refine Lib.hid ?_
    go_wp2
    go_loopw [66] (fun i wr => ∃ k : Nat, k ≤ n ∧ i = .int .i64 k ∧ Hid (Below w6.heap.size w6 wr)) (fun i _ => n - (intOf i).toNat)
    case atStart => exact ⟨0, Nat.zero_le _, rfl, Lib.hid (Below.refl _ _)⟩
    case round =>
      clear t0 t1
      obtain ⟨k, hk, rfl, HB⟩ := hrel
      have hzr := HB.out.size
      by_cases hlt : k < n
      · obtain ⟨l, hl⟩ : ∃ l, ls[k]? = some l := ⟨ls[k]'(by rw [HLL.out]; exact hlt), List.getElem?_eq_getElem _⟩
        have hti := HT6.out.on HB.out
        obtain ⟨bR, oR, bS, oS, ra, sa, m, hR, hS, hbR, hbS, hral, hsal, hm, hm256, r0, s0, hat⟩ := hti.look hl
        obtain ⟨vv, hv5, a5, m5, q5, rfl, hm5, ho5⟩ := HR6.out k l hl
        have hmm : m5 = m := by rw [hm, hm5]
        subst hmm
        obtain ⟨b5, o5, hA5, hb5, y0⟩ := row_at (own_below_ HO6.out HB.out) hlt hv5
        have t0 : wr.cell? ⟨tb, 0, none⟩ = some (.slice RA n rc) := hti.tj.blk.cell 0
        have t1 : wr.cell? ⟨tb, 1, none⟩ = some (.slice SA n sc) := hti.tj.blk.cell 1
        have htb : tb < wr.heap.size := hti.tj.blk.lt
        rw [hR] at t0
        rw [hS] at t1
        rw [hA5]
        have HAT := Lib.hid hat
        have HOW := Lib.hid (own_below_ ho5 HB.out)
        have HL := Lib.hid hl
        have HM := Lib.hid hm
        clear hti hat hl hm hR hS hA5 ho5 hv5 hm5
        go_wp2
        go_quiet (fail)
        go_wp2
        obtain ⟨wo, rfl⟩ : ∃ wo : World, wo = wr := ⟨_, rfl⟩
        go_loopw [104] (fun i wr => ∃ j : Nat, j ≤ m5 ∧ i = .int .i64 j ∧ Hid (Below wo.heap.size wo wr)) (fun i _ => m5 - (intOf i).toNat)
        case atStart => exact ⟨0, Nat.zero_le _, rfl, Lib.hid (below_drewN (Below.refl _ _) _)⟩
        case round =>
          obtain ⟨j, hj, rfl, HBJ⟩ := hrel
          have hzj := HBJ.out.size
          have T0 : wr.cell? ⟨tb, 0, none⟩ = some (.slice (some ⟨bR, oR, none⟩) n rc) := (HBJ.out.cell (p := ⟨tb, 0, none⟩) htb).trans t0
          have T1 : wr.cell? ⟨tb, 1, none⟩ = some (.slice (some ⟨bS, oS, none⟩) n sc) := (HBJ.out.cell (p := ⟨tb, 1, none⟩) htb).trans t1
          have R0 : wr.cell? ⟨bR, oR + k, none⟩ = some (.slice (some ⟨ra, 0, none⟩) m5 m5) := (HBJ.out.cell (p := ⟨bR, oR + k, none⟩) hbR).trans r0
          have S0 : wr.cell? ⟨bS, oS + k, none⟩ = some (.slice (some ⟨sa, 0, none⟩) m5 m5) := (HBJ.out.cell (p := ⟨bS, oS + k, none⟩) hbS).trans s0
          by_cases hlj : j < m5
          · obtain ⟨x, hx⟩ : ∃ x, l[j]? = some x := ⟨l[j]'(by rw [← HM.out]; exact hlj), List.getElem?_eq_getElem _⟩
            obtain ⟨bq, oq, haq, hbq, z0⟩ := row_at (own_below_ HOW.out HBJ.out) hlj (v := .string (strO x)) (by unfold rowO; rw [List.getElem?_map, hx]; rfl)
            obtain ⟨v0, a2, q2, c9, v1, hq2, hrd⟩ := HAT.out j x hx
            have V0 : wr.cell? ⟨ra, j, none⟩ = some (.bool x.isSome) := (HBJ.out.cell (p := ⟨ra, j, none⟩) hral).trans v0
            have V1 : wr.cell? ⟨sa, j, none⟩ = some (.slice a2 q2 c9) := (HBJ.out.cell (p := ⟨sa, j, none⟩) hsal).trans v1
            have HRD := Lib.hid ((hrd.below HBJ.out))
            rw [haq]
            clear v0 v1 hrd haq
            cases x with
            | none =>
              simp only [Option.isSome_none] at V0
              have hq0 : q2 = 0 := hq2
              subst hq0
              have gq := strO_none
              obtain ⟨X, HX⟩ : ∃ X, X = strO none := ⟨_, rfl⟩
              rw [← HX] at z0 gq
              clear hx HX hq2
              go_wp2
              go_roundw
              case rel => exact ⟨j + 1, by omega, by go_num, HBJ⟩
              case measure => simp [intOf]; omega
            | some s =>
              simp only [Option.isSome_some, Option.getD_some] at V0 hq2 HRD
              have gq := strO_some s
              obtain ⟨X, HX⟩ : ∃ X, X = strO (some s) := ⟨_, rfl⟩
              rw [← HX] at z0 gq
              have hq100 : q2 ≤ 100000 := by
                rw [hq2]
                have h1 := (HS.out.2 k _ (List.getElem?_eq_getElem (by rw [length_fns, HLEN.out]; exact hlt)))
                obtain ⟨l', hl', hsol⟩ := h1
                rw [HL.out] at hl'
                injection hl' with hl'
                subst hl'
                rcases Nat.lt_or_ge 16 s.length with hh | hh
                · exact absurd ⟨_, List.getElem_mem _, j, s, (hsol.iff j s).1 hx, hh⟩ (verd_nd HZ.out)
                · omega
              have HTD := Lib.hid (told_is wo.heap.size a2 q2 c9 s X wr HRD.out hq100 HX)
              clear hx HX hq2
              go_wp2_with (go_at_call 13; refine HTD.out.mono ?_; rintro e w9 ⟨rfl, rfl⟩)
              go_roundw
              case rel => exact ⟨j + 1, by omega, by go_num, HBJ⟩
              case measure => simp [intOf]; omega
          · obtain rfl : j = m5 := by omega
            clear hlj hj
            have HBO := Lib.hid ((HB.out.trans (HBJ.out.mono (by omega))))
            go_wp2
            go_roundw
            case rel => exact ⟨k + 1, by omega, by go_num, HBO⟩
            case measure => simp [intOf]; omega
      · obtain rfl : n = k := by omega
        clear hlt hk
        go_wp2
        go_ret
        exact ⟨rfl, HW6.out.trans (HB.out.mono (by omega))⟩
end Go.Proofs.Ytcgoanfhabjpfaa
