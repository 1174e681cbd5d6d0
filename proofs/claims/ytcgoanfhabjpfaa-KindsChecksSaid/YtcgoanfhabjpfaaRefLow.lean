/-
  The document's low and Says.
-/
import Derived.Test.YtcgoanfhabjpfaaPut
namespace Go.Proofs.Ytcgoanfhabjpfaa
set_option linter.unusedVariables false
open Go.ChangeShapes Go.WideShapes Go.ChangeAt Go.RowKit

/-- a new row of bytes -/
def NewB (w : World) (l : List Int) (m : Nat) (e : Ending) (w' : World) : Prop :=
  ∃ A c, e = .returned (.slice A m c) ∧ w'.ownsRow w.heap.size 5 1 (.slice A m c) m (u8c l) ∧ Below w.heap.size w w'
set_option maxHeartbeats 1600000 in
theorem low_any (v : Int) (n : Nat) (w : World) (h0 : 0 ≤ v) (h1 : v ≤ 18446744073709551615) (hn : n ≤ 8) :
    Calls Try.prog 32 #[.int .u64 v, .int .i64 n] w (NewB w (le n v) n) := by
  go_enter Try.func32, Try.ntmps32
  go_wp2
  go_loopw [0, 5, 6] (fun x s i wr => ∃ (k : Nat) (z : Int) (A : Option Addr) (c : Nat) (out : List Int), k ≤ n ∧ i = .int .i64 k ∧ x = .int .u64 z ∧ 0 ≤ z ∧ z ≤ 18446744073709551615 ∧ s = .slice A k c ∧ Hid (le n v = out ++ le (n - k) z) ∧ Hid (out.length = k) ∧ Hid (wr.ownsRow w.heap.size 5 1 (.slice A k c) k (u8c out)) ∧ Hid (Below w.heap.size w wr)) (fun _ _ i _ => n - (intOf i).toNat)
  case atStart => exact ⟨0, v, none, 0, [], Nat.zero_le _, rfl, rfl, h0, h1, rfl, rfl, rfl, own_none _ _ _ _, Below.refl _ _⟩
  case round =>
    obtain ⟨k, z, A, c, out, hk, rfl, rfl, hz0, hz1, rfl, HE, HL, HO, HB⟩ := hrel
    have hz := HB.out.size
    by_cases hlt : k < n
    · have HN : Hid (le n v = (out ++ [z % 256]) ++ le (n - (k + 1)) (z / 256)) := by
        show _ = _
        rw [HE.out, show n - k = (n - (k + 1)) + 1 by omega]
        simp [le]
      have HRd := Lib.hid (one_reads wr 5 [.int .u8 (z % 256)] 1 rfl)
      have HOne : Hid (∀ u ∈ [Value.int .u8 (z % 256)], u.oneCell' = true) := Lib.hid (u8c_one [z % 256])
      have HOa := Lib.hid (own_alloc' HO.out (.cells #[.int .u8 (z % 256)] 5))
      go_wp2_with (at_builtin; refine app_byte rfl _ _ rfl w.heap.size (.slice A k c) k _ rfl HOa.out (wr.heap.size + 1) (some ⟨wr.heap.size, 0, none⟩) 1 1 [.int .u8 (z % 256)] rfl HRd.out HOne.out (by omega) (by simp; omega) ?_; intro v' w3 hown hgr hor; refine Hid.out ?_)
      obtain ⟨A3, c3, rfl⟩ := own_slice hown
      have HO3 : Hid (w3.ownsRow w.heap.size 5 1 (.slice A3 (k + 1) c3) (k + 1) (u8c (out ++ [z % 256]))) := by
        rw [u8c_append]
        exact hown
      have HB3 : Hid (Below w.heap.size w w3) := (HB.out.alloc hz _).grown hgr (by simp; omega) fun i hi => (own_block_le HO.out hi).1
      have HL3 : Hid ((out ++ [z % 256]).length = k + 1) := Lib.hid (by rw [List.length_append, HL.out]; rfl)
      clear hown hgr hor
      refine Lib.hid ?_
      go_wp2
      go_roundw
      case rel => exact ⟨k + 1, z / 256, A3, c3, _, by omega, by go_num, rfl, by omega, by omega, rfl, HN, HL3, HO3, HB3⟩
      case measure => simp [intOf]; omega
    · obtain rfl : n = k := by omega
      clear hlt hk
      have HN : Hid (le n v = out) := by
        show _ = _
        rw [HE.out, Nat.sub_self]
        simp [le]
      go_wp2
      go_ret
      exact ⟨A, c, rfl, by rw [HN.out]; exact HO.out, HB.out⟩

theorem width_q (k : Int) (v : Int) (w : World) (h : widthD k = v) : Calls Try.prog 34 #[.int .u8 k] w fun e w' => e = .returned (.int .i64 v) ∧ w = w' := by
  rw [← h]; exact width_any k w
theorem fit0 (v : Int) : fitB 0 v = (v == 0) := by unfold fitB; rw [Bool.eq_iff_iff]; simp; omega
theorem fit8 {v : Int} (h0 : 0 ≤ v) (h1 : v ≤ 18446744073709551615) : fitB 8 v = true := by unfold fitB; simp; omega
theorem fit1 (v : Int) : fitB 1 v = (decide (0 ≤ v) && decide (v ≤ 255)) := by unfold fitB; rw [Bool.eq_iff_iff]; simp; omega
theorem fit2 (v : Int) : fitB 2 v = (decide (0 ≤ v) && decide (v ≤ 65535)) := by unfold fitB; rw [Bool.eq_iff_iff]; simp; omega
set_option maxRecDepth 100000 in
set_option maxHeartbeats 6400000 in
theorem says_any (i : Ins) (w : World) (hw : WfI i) :
    Calls Try.prog 33 #[.agg #[.int .u8 i.op, .int .i64 i.arg, .int .u64 i.imm]] w fun e w' => e = .returned (.bool (okI i)) ∧ Below w.heap.size w w' := by
  obtain ⟨o0, o1, a0, a1, m0, m1⟩ := hw
  obtain ⟨op, arg, imm⟩ := i
  simp only at *
  have hAB : ∀ o : Obj, Hid (Below w.heap.size w (w.alloc o)) := fun o => (Below.refl _ _).alloc (Nat.le_refl _) o
  unfold okI
  simp only
  cases ho : opB op with
  | false =>
    have HW : Hid (widthD op = -1) := Lib.hid (by unfold widthD; rw [ho]; rfl)
    clear ho
    go_enter Try.func33, Try.ntmps33
    go_wp2_with (go_at_call 34; refine (width_q op (-1) _ HW.out).mono ?_; rintro e w2 ⟨rfl, rfl⟩)
    go_ret
    exact ⟨rfl, (hAB _).out⟩
  | true =>
    have hb := opB_iff.1 ho
    by_cases h1 : op = 1
    · subst h1
      rw [show argW 1 = 0 from rfl, show immW 1 = 8 from rfl, fit0, fit8 m0 m1]
      have HW : Hid (widthD 1 = 8) := rfl
      clear ho
      cases hq : (arg == 0)
      all_goals
        go_enter Try.func33, Try.ntmps33
        go_wp2_with (go_at_call 34; refine (width_q 1 8 _ HW.out).mono ?_; rintro e w2 ⟨rfl, rfl⟩)
        go_ret
        exact ⟨rfl, (hAB _).out⟩
    · have hiw : immW op = 0 := by unfold immW; rw [if_neg h1]
      rw [hiw, fit0]
      by_cases h2 : op = 21 ∨ op = 22
      · have haw : argW op = 2 := by unfold argW; rw [if_neg (by omega), if_pos h2]
        have HW : Hid (widthD op = 2) := Lib.hid (by unfold widthD; rw [ho, haw, hiw]; rfl)
        rw [haw, fit2]
        clear ho haw hiw h1 h2 hb
        cases hq : (imm == 0) with
        | false =>
          rw [Bool.and_false]
          go_enter Try.func33, Try.ntmps33
          go_wp2_with (go_at_call 34; refine (width_q op 2 _ HW.out).mono ?_; rintro e w2 ⟨rfl, rfl⟩)
          go_ret
          exact ⟨rfl, (hAB _).out⟩
        | true =>
          cases hq2 : decide (0 ≤ arg)
          all_goals cases hq3 : decide (arg ≤ 65535)
          all_goals
            go_enter Try.func33, Try.ntmps33
            go_wp2_with (go_at_call 34; refine (width_q op 2 _ HW.out).mono ?_; rintro e w2 ⟨rfl, rfl⟩)
            go_ret
            exact ⟨rfl, (hAB _).out⟩
      · by_cases h3 : op = 2 ∨ op = 3 ∨ op = 4 ∨ op = 23 ∨ op = 25
        · have haw : argW op = 1 := by unfold argW; rw [if_pos h3]
          have HW : Hid (widthD op = 1) := Lib.hid (by unfold widthD; rw [ho, haw, hiw]; rfl)
          rw [haw, fit1]
          clear ho haw hiw h1 h2 h3 hb
          cases hq : (imm == 0) with
          | false =>
            rw [Bool.and_false]
            go_enter Try.func33, Try.ntmps33
            go_wp2_with (go_at_call 34; refine (width_q op 1 _ HW.out).mono ?_; rintro e w2 ⟨rfl, rfl⟩)
            go_ret
            exact ⟨rfl, (hAB _).out⟩
          | true =>
            cases hq2 : decide (0 ≤ arg)
            all_goals cases hq3 : decide (arg ≤ 255)
            all_goals
              go_enter Try.func33, Try.ntmps33
              go_wp2_with (go_at_call 34; refine (width_q op 1 _ HW.out).mono ?_; rintro e w2 ⟨rfl, rfl⟩)
              go_ret
              exact ⟨rfl, (hAB _).out⟩
        · have haw : argW op = 0 := by unfold argW; rw [if_neg h3, if_neg h2]
          have HW : Hid (widthD op = 0) := Lib.hid (by unfold widthD; rw [ho, haw, hiw]; rfl)
          rw [haw, fit0]
          clear ho haw hiw h1 h2 h3 hb
          cases hq : (imm == 0) with
          | false =>
            rw [Bool.and_false]
            go_enter Try.func33, Try.ntmps33
            go_wp2_with (go_at_call 34; refine (width_q op 0 _ HW.out).mono ?_; rintro e w2 ⟨rfl, rfl⟩)
            go_ret
            exact ⟨rfl, (hAB _).out⟩
          | true =>
            cases hq2 : (arg == 0)
            all_goals
              go_enter Try.func33, Try.ntmps33
              go_wp2_with (go_at_call 34; refine (width_q op 0 _ HW.out).mono ?_; rintro e w2 ⟨rfl, rfl⟩)
              go_ret
              exact ⟨rfl, (hAB _).out⟩
end Go.Proofs.Ytcgoanfhabjpfaa
