/-
  Programs compared: slices.Equal at kinds and instructions, slices.EqualFunc, package code's Same.
-/
import Derived.Test.YtklfppeecgkpnaaApp
namespace Go.Proofs.Ytklfppeecgkpnaa
set_option linter.unusedVariables false
open Go.ChangeShapes Go.WideShapes Go.ChangeAt Go.RowKit

theorem eq_len {α : Type} [DecidableEq α] {a b : List α} (h : a.length ≠ b.length) : decide (a = b) = false := by
  simp only [decide_eq_false_iff_not]
  intro e
  exact h (by rw [e])
theorem eq_at {α : Type} [DecidableEq α] {a b : List α} {k : Nat} {x y : α} (hx : a[k]? = some x) (hy : b[k]? = some y) (h : x ≠ y) : decide (a = b) = false := by
  simp only [decide_eq_false_iff_not]
  intro e
  rw [e, hy] at hx
  exact h (by simpa using hx.symm)
theorem take_snoc {α : Type} {l : List α} {k : Nat} {x : α} (h : l[k]? = some x) : l.take (k + 1) = l.take k ++ [x] := by
  rw [List.take_add_one, h]; rfl
/-- '==' and '!=' of two instructions. -/
theorem equalIn_ins (a b : Ins) (w : World) : Sem.run Try.prog (Op.equalIn 10000 48 (.agg #[.int .u8 a.op, .int .i64 a.arg, .int .u64 a.imm]) (.agg #[.int .u8 b.op, .int .i64 b.arg, .int .u64 b.imm])) w = .ok (decide (a = b)) w := by
  have hS : Try.prog.underlying 48 = some (.struct (Try.prog.fieldsOf 48)) := by kernel_rfl
  have hp : Try.prog.stoodInHeld 48 = false := by kernel_rfl
  have u1 := Try.underlying45
  have u2 := Try.underlying3
  have u3 := Try.underlying46
  have a1 := Try.isAgg45
  have a2 := Try.isAgg3
  have a3 := Try.isAgg46
  have z1 := Try.sizeOf45
  have z2 := Try.sizeOf3
  have z3 := Try.sizeOf46
  show (Op.equalIn 10000 48 (.agg #[.int .u8 a.op, .int .i64 a.arg, .int .u64 a.imm]) (.agg #[.int .u8 b.op, .int .i64 b.arg, .int .u64 b.imm])).run Try.prog w = _
  rw [show (10000 : Nat) = 9999 + 1 from rfl, run_equalIn_agg w 9999 48 _ _ hS hp]
  simp only [Program.fieldsOf, Try.underlying48]
  go_simp
  obtain ⟨a1, a2, a3⟩ := a
  obtain ⟨b1, b2, b3⟩ := b
  by_cases h1 : a1 = b1 <;> by_cases h2 : a2 = b2 <;> by_cases h3 : a3 = b3 <;> simp [h1, h2, h3]

set_option maxHeartbeats 1600000 in
theorem equal_kinds (B : Nat) (ao bo : Option Addr) (n m c d : Nat) (la lb : List Int) (w : World) (ha : Reads w B 1 ao n (u8c la)) (hb : Reads w B 1 bo m (u8c lb)) (hn : la.length = n) (hm : lb.length = m)
    (hnb : n ≤ 140737488351232) (hmb : m ≤ 140737488351232) :
    Calls Try.prog 33 #[.slice ao n c, .slice bo m d] w fun e w' => e = .returned (.bool (decide (la = lb))) ∧ ∃ q, w' = w.drewN q := by
  have HA := Lib.hid ha
  have HB := Lib.hid hb
  have HN := Lib.hid hn
  have HM := Lib.hid hm
  clear ha hb hn hm
  by_cases hgt : n ≠ m
  · have hr : decide (la = lb) = false := eq_len (by rw [HN.out, HM.out]; exact hgt)
    have HR := Lib.hid hr
    clear hr
    go_enter Try.func33, Try.ntmps33
    go_wp2
    go_ret
    exact ⟨by rw [HR.out]; rfl, 0, rfl⟩
  · obtain rfl : n = m := by omega
    clear hgt
    go_enter Try.func33, Try.ntmps33
    go_wp2
    go_loopw [13] (fun i wr => ∃ k q : Nat, k ≤ n ∧ i = .int .i64 k ∧ Hid (lb.take k = la.take k) ∧ wr = w.drewN q) (fun i _ => n - (intOf i).toNat)
    case atStart => exact ⟨0, 0, Nat.zero_le _, rfl, rfl, rfl⟩
    case round =>
      obtain ⟨k, q, hk, rfl, HP, rfl⟩ := hrel
      by_cases hlt : k < n
      · obtain ⟨b1, o1, x, rfl, hb1, HX, x1⟩ := HA.out.byte hlt
        obtain ⟨b2, o2, y, rfl, hb2, HY, y1⟩ := HB.out.byte hlt
        have HQ : True := trivial
        by_cases hxy : x = y
        · have hd : (x != y) = false := by simpa using hxy
          have HXY := Lib.hid hxy
          clear hxy
          clear HQ
          go_wp2
          go_quiet (fail)
          go_wp2
          go_roundw
          case rel => exact ⟨k + 1, q + nq, by omega, by go_num, by show lb.take (k + 1) = la.take (k + 1); rw [take_snoc HX.out, take_snoc HY.out, HP.out, HXY.out], rfl⟩
          case measure => simp [intOf]; omega
        · have hr : decide (la = lb) = false := eq_at HX.out HY.out hxy
          have hd : (x != y) = true := by simpa using hxy
          have HR := Lib.hid hr
          clear hxy hr
          clear HQ
          go_wp2
          go_quiet (fail)
          go_wp2
          go_ret
          exact ⟨by rw [HR.out]; rfl, q + nq, World.drewN_drewN _ _ _⟩
      · obtain rfl : n = k := by omega
        have hr : decide (la = lb) = true := by
          have h := HP.out
          rw [List.take_of_length_le (by rw [HM.out]; omega), List.take_of_length_le (by rw [HN.out]; omega)] at h
          rw [h]; simp
        have HR := Lib.hid hr
        clear hr
        go_wp2
        go_ret
        exact ⟨by rw [HR.out]; rfl, _, rfl⟩

set_option maxHeartbeats 1600000 in
theorem equal_ins (B : Nat) (ao bo : Option Addr) (n m c d : Nat) (la lb : List Ins) (w : World) (ha : Reads w B 3 ao n (insc la)) (hb : Reads w B 3 bo m (insc lb)) (hn : la.length = n) (hm : lb.length = m)
    (hnb : n ≤ 140737488351232) (hmb : m ≤ 140737488351232) :
    Calls Try.prog 34 #[.slice ao n c, .slice bo m d] w fun e w' => e = .returned (.bool (decide (la = lb))) ∧ ∃ q, w' = w.drewN q := by
  have HA := Lib.hid ha
  have HB := Lib.hid hb
  have HN := Lib.hid hn
  have HM := Lib.hid hm
  clear ha hb hn hm
  by_cases hgt : n ≠ m
  · have hr : decide (la = lb) = false := eq_len (by rw [HN.out, HM.out]; exact hgt)
    have HR := Lib.hid hr
    clear hr
    go_enter Try.func34, Try.ntmps34
    go_wp2
    go_ret
    exact ⟨by rw [HR.out]; rfl, 0, rfl⟩
  · obtain rfl : n = m := by omega
    clear hgt
    go_enter Try.func34, Try.ntmps34
    go_wp2
    go_loopw [13] (fun i wr => ∃ k q : Nat, k ≤ n ∧ i = .int .i64 k ∧ Hid (lb.take k = la.take k) ∧ wr = w.drewN q) (fun i _ => n - (intOf i).toNat)
    case atStart => exact ⟨0, 0, Nat.zero_le _, rfl, rfl, rfl⟩
    case round =>
      obtain ⟨k, q, hk, rfl, HP, rfl⟩ := hrel
      by_cases hlt : k < n
      · obtain ⟨b1, o1, x, rfl, hb1, HX, x1, x2, x3⟩ := HA.out.ins hlt
        obtain ⟨b2, o2, y, rfl, hb2, HY, y1, y2, y3⟩ := HB.out.ins hlt
        have he : ∀ W, Sem.run Try.prog (Op.equalIn 10000 48 (.agg #[.int .u8 x.op, .int .i64 x.arg, .int .u64 x.imm]) (.agg #[.int .u8 y.op, .int .i64 y.arg, .int .u64 y.imm])) W = .ok (decide (x = y)) W := equalIn_ins x y
        by_cases hxy : x = y
        · have hd : decide (x = y) = true := by simpa using hxy
          have HXY := Lib.hid hxy
          clear hxy
          rw [hd] at he; clear hd
          go_wp2
          go_quiet (fail)
          go_wp2
          go_roundw
          case rel => exact ⟨k + 1, q + nq, by omega, by go_num, by show lb.take (k + 1) = la.take (k + 1); rw [take_snoc HX.out, take_snoc HY.out, HP.out, HXY.out], rfl⟩
          case measure => simp [intOf]; omega
        · have hr : decide (la = lb) = false := eq_at HX.out HY.out hxy
          have hd : decide (x = y) = false := by simpa using hxy
          have HR := Lib.hid hr
          clear hxy hr
          rw [hd] at he; clear hd
          go_wp2
          go_quiet (fail)
          go_wp2
          go_ret
          exact ⟨by rw [HR.out]; rfl, q + nq, World.drewN_drewN _ _ _⟩
      · obtain rfl : n = k := by omega
        have hr : decide (la = lb) = true := by
          have h := HP.out
          rw [List.take_of_length_le (by rw [HM.out]; omega), List.take_of_length_le (by rw [HN.out]; omega)] at h
          rw [h]; simp
        have HR := Lib.hid hr
        clear hr
        go_wp2
        go_ret
        exact ⟨by rw [HR.out]; rfl, _, rfl⟩
end Go.Proofs.Ytklfppeecgkpnaa
