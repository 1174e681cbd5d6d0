/-
  Package code's instrHasBytes, funcHasBytes, hasBytes.
-/
import Derived.Test.YtcgoanfhabjpfaaPut
namespace Go.Proofs.Ytcgoanfhabjpfaa
set_option linter.unusedVariables false
open Go.ChangeShapes Go.WideShapes Go.ChangeAt Go.RowKit

theorem isOp_yes (k : Int) (w : World) (h : opB k = true) : Calls Try.prog 58 #[.int .u8 k] w fun e w' => e = .returned (.bool true) ∧ w' = w := (isOp_any k w).mono fun _ _ ⟨h1, h2⟩ => ⟨by rw [h1, h], h2.symm⟩
theorem isOp_no (k : Int) (w : World) (h : opB k = false) : Calls Try.prog 58 #[.int .u8 k] w fun e w' => e = .returned (.bool false) ∧ w' = w := (isOp_any k w).mono fun _ _ ⟨h1, h2⟩ => ⟨by rw [h1, h], h2.symm⟩
theorem fits_yes (v : Int) (n : Nat) (w : World) (h0 : 0 ≤ v) (h1 : v ≤ 18446744073709551615) (hn : n ≤ 8) (h : fitB n v = true) : Calls Try.prog 38 #[.int .u64 v, .int .i64 n] w fun e w' => e = .returned (.bool true) ∧ w' = w := (fits_any v n w h0 h1 hn).mono fun _ _ ⟨h1, h2⟩ => ⟨by rw [h1, h], h2.symm⟩
theorem fits_no (v : Int) (n : Nat) (w : World) (h0 : 0 ≤ v) (h1 : v ≤ 18446744073709551615) (hn : n ≤ 8) (h : fitB n v = false) : Calls Try.prog 38 #[.int .u64 v, .int .i64 n] w fun e w' => e = .returned (.bool false) ∧ w' = w := (fits_any v n w h0 h1 hn).mono fun _ _ ⟨h1, h2⟩ => ⟨by rw [h1, h], h2.symm⟩
theorem argSize_q (k : Int) (w : World) : Calls Try.prog 41 #[.int .u8 k] w fun e w' => e = .returned (.int .i64 (argW k : Nat)) ∧ w' = w := (argSize_any k w).mono fun _ _ ⟨h1, h2⟩ => ⟨h1, h2.symm⟩
theorem immSize_q (k : Int) (w : World) : Calls Try.prog 42 #[.int .u8 k] w fun e w' => e = .returned (.int .i64 (immW k : Nat)) ∧ w' = w := (immSize_any k w).mono fun _ _ ⟨h1, h2⟩ => ⟨h1, h2.symm⟩

/-- an int as a word -/
def asW (v : Int) : Int := if 0 ≤ v then v else v + 18446744073709551616
theorem asW_bd {v : Int} (h0 : -9223372036854775808 ≤ v) (h1 : v ≤ 9223372036854775807) : 0 ≤ asW v ∧ asW v ≤ 18446744073709551615 := by unfold asW; split <;> omega
theorem fit_asW {n : Nat} {v : Int} (h0 : -9223372036854775808 ≤ v) (h1 : v ≤ 9223372036854775807) (hn : n ≤ 2) : fitB n (asW v) = fitB n v := by
  have hp : (256 : Int) ^ n ≤ 65536 := by
    obtain h | h | h : n = 0 ∨ n = 1 ∨ n = 2 := by omega
    all_goals rw [h]; decide
  unfold fitB asW
  split
  · rfl
  · rw [decide_eq_false (by omega), decide_eq_false (by omega)]

set_option maxRecDepth 100000 in
set_option maxHeartbeats 3200000 in
theorem okI_any (i : Ins) (w : World) (hw : WfI i) :
    Calls Try.prog 51 #[.agg #[.int .u8 i.op, .int .i64 i.arg, .int .u64 i.imm]] w fun e w' => e = .returned (.bool (okI i)) ∧ Below w.heap.size w w' := by
  obtain ⟨o0, o1, a0, a1, m0, m1⟩ := hw
  obtain ⟨op, arg, imm⟩ := i
  simp only at *
  have hb := asW_bd a0 a1
  obtain ⟨b0, b1⟩ := hb
  have hwr : IntKind.u64.wrap arg = asW arg := by rw [IntKind.wrap_u64]; unfold asW; split <;> omega
  obtain ⟨aw, HAW⟩ : ∃ aw, Hid (aw = asW arg) := ⟨_, rfl⟩
  rw [← HAW.out] at hwr b0 b1
  have hAB : ∀ o : Obj, Hid (Below w.heap.size w (w.alloc o)) := fun o => (Below.refl _ _).alloc (Nat.le_refl _) o
  unfold okI
  simp only
  cases ho : opB op with
  | false =>
    have HO := Lib.hid ho
    clear ho
    go_enter Try.func51, Try.ntmps51
    go_wp2
    go_quiet ((go_at_call 58; exact Calls.quiet_of_same (isOp_no _ _ HO.out)))
    go_wp2
    go_ret
    exact ⟨rfl, below_drewN (hAB _).out _⟩
  | true =>
    have HO := Lib.hid ho
    clear ho
    cases ha : fitB (argW op) arg with
    | false =>
      have HA : Hid (fitB (argW op) aw = false) := Lib.hid (by rw [HAW.out, fit_asW a0 a1 (argW_le op), ha])
      clear ha
      go_enter Try.func51, Try.ntmps51
      go_wp2
      go_quiet ((first
        | (go_at_call 58; exact Calls.quiet_of_same (isOp_yes _ _ HO.out))
        | (go_at_call 41; exact Calls.quiet_of_same (argSize_q _ _))
        | (go_at_call 38; exact Calls.quiet_of_same (fits_no aw _ _ b0 b1 (Nat.le_trans (argW_le op) (by omega)) HA.out))))
      go_wp2
      go_ret
      exact ⟨rfl, below_drewN (hAB _).out _⟩
    | true =>
      have HA : Hid (fitB (argW op) aw = true) := Lib.hid (by rw [HAW.out, fit_asW a0 a1 (argW_le op), ha])
      clear ha
      cases hm : fitB (immW op) imm with
      | false =>
        have HM := Lib.hid hm
        clear hm
        go_enter Try.func51, Try.ntmps51
        go_wp2
        go_quiet ((first
          | (go_at_call 58; exact Calls.quiet_of_same (isOp_yes _ _ HO.out))
          | (go_at_call 41; exact Calls.quiet_of_same (argSize_q _ _))
          | (go_at_call 42; exact Calls.quiet_of_same (immSize_q _ _))
          | (go_at_call 38; with_reducible exact Calls.quiet_of_same (fits_yes aw (argW op) _ b0 b1 (Nat.le_trans (argW_le op) (by omega)) HA.out))
          | (go_at_call 38; with_reducible exact Calls.quiet_of_same (fits_no imm (immW op) _ m0 m1 (immW_le op) HM.out))))
        go_wp2
        go_ret
        exact ⟨rfl, below_drewN (hAB _).out _⟩
      | true =>
        have HM := Lib.hid hm
        clear hm
        go_enter Try.func51, Try.ntmps51
        go_wp2
        go_quiet ((first
          | (go_at_call 58; exact Calls.quiet_of_same (isOp_yes _ _ HO.out))
          | (go_at_call 41; exact Calls.quiet_of_same (argSize_q _ _))
          | (go_at_call 42; exact Calls.quiet_of_same (immSize_q _ _))
          | (go_at_call 38; with_reducible exact Calls.quiet_of_same (fits_yes aw (argW op) _ b0 b1 (Nat.le_trans (argW_le op) (by omega)) HA.out))
          | (go_at_call 38; with_reducible exact Calls.quiet_of_same (fits_yes imm (immW op) _ m0 m1 (immW_le op) HM.out))))
        go_wp2
        go_ret
        exact ⟨rfl, below_drewN (hAB _).out _⟩

set_option maxRecDepth 100000 in
set_option maxHeartbeats 1600000 in
theorem allK_any (B : Nat) (A : Option Addr) (n c : Nat) (ks : List Int) (w : World) (h : Reads w B 1 A n (u8c ks)) (hl : ks.length = n) (hn : n ≤ 140737488351232) :
    Calls Try.prog 48 #[.slice A n c, .func (.func 49) #[] #[]] w fun e w' => e = .returned (.bool (ks.all kindB)) ∧ w' = w := by
  have H := Lib.hid h
  have HL := Lib.hid hl
  clear h hl
  go_enter Try.func48, Try.ntmps48
  go_wp2
  go_loop [9] (fun i => ∃ k : Nat, k ≤ n ∧ i = .int .i64 k ∧ Hid ((ks.take k).all kindB = true)) (fun i => n - (intOf i).toNat)
  case atStart => exact ⟨0, Nat.zero_le _, rfl, rfl⟩
  case round =>
    obtain ⟨k, hk, rfl, HT⟩ := hrel
    by_cases hlt : k < n
    · obtain ⟨b, off, x, rfl, hb, HX, x0⟩ := H.out.byte hlt
      cases hp : kindB x with
      | true =>
        have HT1 : Hid ((ks.take (k + 1)).all kindB = true) := Lib.hid (by rw [List.take_add_one, HX.out, List.all_append, HT.out]; simp [hp])
        have HP := Lib.hid hp
        clear hp
        go_wp2_with (go_at_call 49; refine (isKind_any x _).mono ?_; rintro e w2 ⟨rfl, rfl⟩; rw [HP.out])
        go_round
        case rel => exact ⟨k + 1, by omega, by go_num, HT1⟩
        case measure => simp [intOf]; omega
      | false =>
        have HA : Hid (ks.all kindB = false) := Lib.hid (by
          rw [List.all_eq_false]
          exact ⟨x, List.mem_of_getElem? HX.out, by simp [hp]⟩)
        have HP := Lib.hid hp
        clear hp
        go_wp2_with (go_at_call 49; refine (isKind_any x _).mono ?_; rintro e w2 ⟨rfl, rfl⟩; rw [HP.out])
        go_ret
        exact ⟨by rw [HA.out]; rfl, rfl⟩
    · obtain rfl : n = k := by omega
      clear hlt hk
      have HA : Hid (ks.all kindB = true) := Lib.hid (by
        have h := HT.out
        rw [List.take_of_length_le (by rw [HL.out]; omega)] at h
        exact h)
      go_wp2
      go_ret
      exact ⟨by rw [HA.out]; rfl, rfl⟩

set_option maxRecDepth 100000 in
set_option maxHeartbeats 1600000 in
theorem allI_any (B : Nat) (A : Option Addr) (n c : Nat) (is : List Ins) (w : World) (h : Reads w B 3 A n (insc is)) (hl : is.length = n) (hn : n ≤ 140737488351232) (hw : ∀ i ∈ is, WfI i) (hB : B ≤ w.heap.size) :
    Calls Try.prog 50 #[.slice A n c, .func (.func 51) #[] #[]] w fun e w' => e = .returned (.bool (is.all okI)) ∧ Below w.heap.size w w' := by
  have H := Lib.hid h
  have HL := Lib.hid hl
  have HW := Lib.hid hw
  clear h hl hw
  go_enter Try.func50, Try.ntmps50
  go_wp2
  go_loopw [9] (fun i wr => ∃ k : Nat, k ≤ n ∧ i = .int .i64 k ∧ Hid ((is.take k).all okI = true) ∧ Hid (Below w.heap.size w wr)) (fun i _ => n - (intOf i).toNat)
  case atStart => exact ⟨0, Nat.zero_le _, rfl, rfl, Below.refl _ _⟩
  case round =>
    obtain ⟨k, hk, rfl, HT, HB⟩ := hrel
    by_cases hlt : k < n
    · obtain ⟨b, off, x, rfl, hb, HX, x0, x1, x2⟩ := (H.out.below (HB.out.mono hB)).ins hlt
      have hz := HB.out.size
      have HB2 : Hid (Below w.heap.size w (wr.alloc (.cells #[.int .u8 x.op, .int .i64 x.arg, .int .u64 x.imm] 51))) := HB.out.alloc hz _
      have HWX := Lib.hid (HW.out x (List.mem_of_getElem? HX.out))
      cases hp : okI x with
      | true =>
        have HT1 : Hid ((is.take (k + 1)).all okI = true) := Lib.hid (by rw [List.take_add_one, HX.out, List.all_append, HT.out]; simp [hp])
        have HP := Lib.hid hp
        clear hp
        go_wp2_with (go_at_call 51; refine (okI_any x _ HWX.out).mono ?_; rintro e w2 ⟨rfl, hb2⟩; rw [HP.out]; refine Hid.out ?_)
        have HB3 := Lib.hid (HB2.out.trans (hb2.mono (by simp; omega)))
        clear hb2
        refine Lib.hid ?_
        go_wp2
        go_roundw
        case rel => exact ⟨k + 1, by omega, by go_num, HT1, HB3⟩
        case measure => simp [intOf]; omega
      | false =>
        have HA : Hid (is.all okI = false) := Lib.hid (by
          rw [List.all_eq_false]
          exact ⟨x, List.mem_of_getElem? HX.out, by simp [hp]⟩)
        have HP := Lib.hid hp
        clear hp
        go_wp2_with (go_at_call 51; refine (okI_any x _ HWX.out).mono ?_; rintro e w2 ⟨rfl, hb2⟩; rw [HP.out]; refine Hid.out ?_)
        have HB3 := Lib.hid (HB2.out.trans (hb2.mono (by simp; omega)))
        clear hb2
        refine Lib.hid ?_
        go_wp2
        go_ret
        exact ⟨by rw [HA.out]; rfl, HB3.out⟩
    · obtain rfl : n = k := by omega
      clear hlt hk
      have HA : Hid (is.all okI = true) := Lib.hid (by
        have h := HT.out
        rw [List.take_of_length_le (by rw [HL.out]; omega)] at h
        exact h)
      go_wp2
      go_ret
      exact ⟨by rw [HA.out]; rfl, HB.out⟩
end Go.Proofs.Ytcgoanfhabjpfaa
