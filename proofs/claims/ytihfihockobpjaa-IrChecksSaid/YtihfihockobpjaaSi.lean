/-
  The document's SameInts.
-/
import Derived.Test.YtihfihockobpjaaRr
import Derived.BigQuiet
namespace Go.Proofs.Ytihfihockobpjaa
set_option linter.unusedVariables false
set_option linter.unusedSimpArgs false
open Go.ChangeShapes Go.WideShapes Go.ChangeAt Go.RowKit

theorem eq_len {α : Type} [DecidableEq α] {a b : List α} (h : a.length ≠ b.length) : decide (a = b) = false := by
  simp only [decide_eq_false_iff_not]
  intro e
  exact h (by rw [e])
theorem eq_at {α : Type} [DecidableEq α] {a b : List α} {k : Nat} {x y : α} (hx : a[k]? = some x) (hy : b[k]? = some y) (h : x ≠ y) : decide (a = b) = false := by
  simp only [decide_eq_false_iff_not]
  intro e
  rw [e, hy] at hx
  exact h (by simpa using hx.symm)

set_option maxHeartbeats 1600000 in
theorem rsi_any (B : Nat) (ao bo : Option Addr) (n m c d : Nat) (la lb : List Int) (w : World) (ha : Reads w B 1 ao n (i64c la)) (hb : Reads w B 1 bo m (i64c lb)) (hn : la.length = n) (hm : lb.length = m)
    (hnb : n ≤ 140737488351232) (hmb : m ≤ 140737488351232) :
    Calls Try.prog 12 #[.slice ao n c, .slice bo m d] w fun e w' => e = .returned (.bool (decide (la = lb))) ∧ ∃ q, w' = w.drewN q := by
  have HA := Lib.hid ha
  have HB := Lib.hid hb
  have HN := Lib.hid hn
  have HM := Lib.hid hm
  clear ha hb hn hm
  by_cases hgt : n ≠ m
  · have hr : decide (la = lb) = false := eq_len (by rw [HN.out, HM.out]; exact hgt)
    have HR := Lib.hid hr
    clear hr
    go_enter Try.func12, Try.ntmps12
    go_wp2
    go_ret
    exact ⟨by rw [HR.out]; rfl, 0, rfl⟩
  · obtain rfl : n = m := by omega
    clear hgt
    go_enter Try.func12, Try.ntmps12
    go_wp2
    go_loopw [13] (fun i wr => ∃ k q : Nat, k ≤ n ∧ i = .int .i64 k ∧ Hid (lb.take k = la.take k) ∧ wr = w.drewN q) (fun i _ => n - (intOf i).toNat)
    case atStart => exact ⟨0, 0, Nat.zero_le _, rfl, rfl, rfl⟩
    case round =>
      obtain ⟨k, q, hk, rfl, HP, rfl⟩ := hrel
      by_cases hlt : k < n
      · obtain ⟨b1, o1, x, rfl, hb1, HX, x1⟩ := HA.out.int hlt
        obtain ⟨b2, o2, y, rfl, hb2, HY, y1⟩ := HB.out.int hlt
        by_cases hxy : x = y
        · have hd : (x != y) = false := by simpa using hxy
          have HXY := Lib.hid hxy
          clear hxy
          go_wp2
          go_quiet (fail)
          go_wp2
          go_roundw
          case rel => exact ⟨k + 1, q + nq, by omega, by go_num, by show lb.take (k + 1) = la.take (k + 1); rw [take_at HX.out, take_at HY.out, HP.out, HXY.out], rfl⟩
          case measure => simp [intOf]; omega
        · have hr : decide (la = lb) = false := eq_at HX.out HY.out hxy
          have hd : (x != y) = true := by simpa using hxy
          have HR := Lib.hid hr
          clear hxy hr
          go_wp2
          go_quiet (fail)
          go_wp2
          go_ret
          exact ⟨by rw [HR.out]; rfl, q + nq, World.drewN_drewN _ _ _⟩
      · obtain rfl : n = k := by omega
        have hr : decide (la = lb) = true := by
          have h := HP.out
          rw [List.take_of_length_le (by rw [HM.out]; omega), List.take_of_length_le (by rw [HN.out]; omega)] at h
          rw [h]; simp
        have HR := Lib.hid hr
        clear hr
        go_wp2
        go_ret
        exact ⟨by rw [HR.out]; rfl, _, rfl⟩
end Go.Proofs.Ytihfihockobpjaa
