/-
  Events compared: slices.Equal and the document's Begins, Same; Prefix, Same and Ended of package trace.
-/
import Derived.Test.YtjmfbmnhkoeceaaDoorMem
namespace Go.Proofs.YtjmfbmnhkoeceaaDoor
set_option linter.unusedVariables false
open Go.ChangeShapes Go.WideShapes Go.ChangeAt Go.RowKit

/-- are a's events b's first ones? -/
def beg (a b : List Ev) : Bool := decide (a = b.take a.length)
/-- are they the same? -/
def sam (a b : List Ev) : Bool := decide (a = b)

theorem beg_long {a b : List Ev} (h : b.length < a.length) : beg a b = false := by
  unfold beg
  simp only [decide_eq_false_iff_not]
  intro h
  have := congrArg List.length h
  rw [List.length_take] at this
  omega
theorem sam_len {a b : List Ev} (h : a.length ≠ b.length) : sam a b = false := by
  unfold sam
  simp only [decide_eq_false_iff_not]
  intro e
  exact h (by rw [e])
theorem take_snoc {l : List Ev} {k : Nat} {x : Ev} (h : l[k]? = some x) : l.take (k + 1) = l.take k ++ [x] := by
  rw [List.take_add_one, h]; rfl
theorem beg_ne {a b : List Ev} {k : Nat} {x y : Ev} (hx : a[k]? = some x) (hy : b[k]? = some y) (h : x ≠ y) : beg a b = false := by
  unfold beg
  simp only [decide_eq_false_iff_not]
  intro e
  have hk : k < a.length := (List.getElem?_eq_some_iff.1 hx).1
  rw [e, List.getElem?_take, if_pos hk, hy] at hx
  exact h (by simpa using hx.symm)
theorem sam_ne {a b : List Ev} {k : Nat} {x y : Ev} (hx : a[k]? = some x) (hy : b[k]? = some y) (h : x ≠ y) : sam a b = false := by
  unfold sam
  simp only [decide_eq_false_iff_not]
  intro e
  rw [e, hy] at hx
  exact h (by simpa using hx.symm)
theorem beg_yes {a b : List Ev} (h : b.take a.length = a.take a.length) : beg a b = true := by
  unfold beg
  simp only [decide_eq_true_eq]
  rw [h, List.take_length]
theorem sam_yes {a b : List Ev} (hl : a.length = b.length) (h : b.take a.length = a.take a.length) : sam a b = true := by
  unfold sam
  simp only [decide_eq_true_eq]
  rw [List.take_length, hl, List.take_length] at h
  exact h.symm
theorem sam_beg {a b : List Ev} (hl : a.length = b.length) : sam a b = beg a b := by
  unfold sam beg
  rw [hl, List.take_length]
theorem beg_sam {a b : List Ev} {n : Nat} (hl : a.length = n) : beg a b = sam a (b.take n) := by
  unfold sam beg
  rw [hl]

set_option maxHeartbeats 800000 in
theorem begins_any (B : Nat) (ao bo : Option Addr) (n m c d : Nat) (la lb : List Ev) (w : World) (ha : Reads w B 2 ao n (evc la)) (hb : Reads w B 2 bo m (evc lb)) (hn : la.length = n) (hm : lb.length = m)
    (hnb : n ≤ maxLen) (hmb : m ≤ maxLen) :
    Calls Tryd.prog 17 #[.slice ao n c, .slice bo m d] w fun e w' => e = .returned (.bool (beg la lb)) ∧ ∃ q, w' = w.drewN q := by
  unfold maxLen at hnb hmb
  have HA := Lib.hid ha
  have HB := Lib.hid hb
  have HN := Lib.hid hn
  have HM := Lib.hid hm
  clear ha hb hn hm
  by_cases hgt : m < n
  · have hr : beg la lb = false := beg_long (by rw [HN.out, HM.out]; exact hgt)
    have HR := Lib.hid hr
    clear hr
    go_enter Tryd.func17, Tryd.ntmps17
    go_wp2
    go_ret
    exact ⟨by rw [HR.out]; rfl, 0, rfl⟩
  · go_enter Tryd.func17, Tryd.ntmps17
    go_wp2
    go_loopw [13] (fun i wr => ∃ k q : Nat, k ≤ n ∧ i = .int .i64 k ∧ Hid (lb.take k = la.take k) ∧ wr = w.drewN q) (fun i _ => n - (intOf i).toNat)
    case atStart => exact ⟨0, 0, Nat.zero_le _, rfl, rfl, rfl⟩
    case round =>
      obtain ⟨k, q, hk, rfl, HP, rfl⟩ := hrel
      by_cases hlt : k < n
      · obtain ⟨b1, o1, x, rfl, hb1, HX, x1, x2⟩ := HA.out.ev HN.out hlt
        obtain ⟨b2, o2, y, rfl, hb2, HY, y1, y2⟩ := HB.out.ev HM.out (k := k) (by omega)
        have he : ∀ W, Sem.run Tryd.prog (Op.equalIn 10000 31 (.agg #[.int .i64 x.1, .int .u64 x.2]) (.agg #[.int .i64 y.1, .int .u64 y.2])) W = .ok (decide (x = y)) W := equalIn_ev x y
        by_cases hxy : x = y
        · have hd : decide (x = y) = true := by simpa using hxy
          rw [hd] at he
          have HXY := Lib.hid hxy
          clear hxy hd
          go_wp2
          go_quiet (fail)
          go_wp2
          go_roundw
          case rel => exact ⟨k + 1, q + nq, by omega, by go_num, by show lb.take (k + 1) = la.take (k + 1); rw [take_snoc HX.out, take_snoc HY.out, HP.out, HXY.out], rfl⟩
          case measure => simp [intOf]; omega
        · have hd : decide (x = y) = false := by simpa using hxy
          rw [hd] at he
          have hr : beg la lb = false := beg_ne HX.out HY.out hxy
          have HR := Lib.hid hr
          clear hxy hd hr
          go_wp2
          go_quiet (fail)
          go_wp2
          go_ret
          exact ⟨by rw [HR.out]; rfl, q + nq, World.drewN_drewN _ _ _⟩
      · obtain rfl : k = n := by omega
        have hr : beg la lb = true := by
          have h := HP.out
          rw [← HN.out] at h
          exact beg_yes h
        have HR := Lib.hid hr
        clear hr
        go_wp2
        go_ret
        exact ⟨by rw [HR.out]; rfl, _, rfl⟩

set_option maxHeartbeats 800000 in
theorem equal_any (B : Nat) (ao bo : Option Addr) (n m c d : Nat) (la lb : List Ev) (w : World) (ha : Reads w B 2 ao n (evc la)) (hb : Reads w B 2 bo m (evc lb)) (hn : la.length = n) (hm : lb.length = m)
    (hnb : n ≤ maxLen) (hmb : m ≤ maxLen) :
    Calls Tryd.prog 26 #[.slice ao n c, .slice bo m d] w fun e w' => e = .returned (.bool (sam la lb)) ∧ ∃ q, w' = w.drewN q := by
  unfold maxLen at hnb hmb
  have HA := Lib.hid ha
  have HB := Lib.hid hb
  have HN := Lib.hid hn
  have HM := Lib.hid hm
  clear ha hb hn hm
  by_cases hgt : n ≠ m
  · have hr : sam la lb = false := sam_len (by rw [HN.out, HM.out]; exact hgt)
    have HR := Lib.hid hr
    clear hr
    go_enter Tryd.func26, Tryd.ntmps26
    go_wp2
    go_ret
    exact ⟨by rw [HR.out]; rfl, 0, rfl⟩
  · go_enter Tryd.func26, Tryd.ntmps26
    go_wp2
    go_loopw [13] (fun i wr => ∃ k q : Nat, k ≤ n ∧ i = .int .i64 k ∧ Hid (lb.take k = la.take k) ∧ wr = w.drewN q) (fun i _ => n - (intOf i).toNat)
    case atStart => exact ⟨0, 0, Nat.zero_le _, rfl, rfl, rfl⟩
    case round =>
      obtain ⟨k, q, hk, rfl, HP, rfl⟩ := hrel
      by_cases hlt : k < n
      · obtain ⟨b1, o1, x, rfl, hb1, HX, x1, x2⟩ := HA.out.ev HN.out hlt
        obtain ⟨b2, o2, y, rfl, hb2, HY, y1, y2⟩ := HB.out.ev HM.out (k := k) (by omega)
        have he : ∀ W, Sem.run Tryd.prog (Op.equalIn 10000 31 (.agg #[.int .i64 x.1, .int .u64 x.2]) (.agg #[.int .i64 y.1, .int .u64 y.2])) W = .ok (decide (x = y)) W := equalIn_ev x y
        by_cases hxy : x = y
        · have hd : decide (x = y) = true := by simpa using hxy
          rw [hd] at he
          have HXY := Lib.hid hxy
          clear hxy hd
          go_wp2
          go_quiet (fail)
          go_wp2
          go_roundw
          case rel => exact ⟨k + 1, q + nq, by omega, by go_num, by show lb.take (k + 1) = la.take (k + 1); rw [take_snoc HX.out, take_snoc HY.out, HP.out, HXY.out], rfl⟩
          case measure => simp [intOf]; omega
        · have hd : decide (x = y) = false := by simpa using hxy
          rw [hd] at he
          have hr : sam la lb = false := sam_ne HX.out HY.out hxy
          have HR := Lib.hid hr
          clear hxy hd hr
          go_wp2
          go_quiet (fail)
          go_wp2
          go_ret
          exact ⟨by rw [HR.out]; rfl, q + nq, World.drewN_drewN _ _ _⟩
      · obtain rfl : k = n := by omega
        have hr : sam la lb = true := by
          have h := HP.out
          rw [← HN.out] at h
          exact sam_yes (by rw [HN.out, HM.out]; omega) h
        have HR := Lib.hid hr
        clear hr
        go_wp2
        go_ret
        exact ⟨by rw [HR.out]; rfl, _, rfl⟩

theorem Reads.take {w : World} {B n m : Nat} {A : Option Addr} {l : List Ev} (h : Reads w B 2 A n (evc l)) (hn : l.length = n) (hm : m ≤ n) : Reads w B 2 A m (evc (l.take m)) := by
  refine ⟨by rw [length_evc, List.length_take]; omega, fun h0 => ?_⟩
  obtain ⟨ad, rfl, hb, hc⟩ := h.2 (by omega)
  refine ⟨ad, rfl, hb, fun j u hj => hc j u ?_⟩
  have e : evc l = evc (l.take m) ++ evc (l.drop m) := by rw [← evc_append, List.take_append_drop]
  have hl : j < (evc (l.take m)).length := (List.getElem?_eq_some_iff.1 hj).1
  rw [e, List.getElem?_append_left hl]
  exact hj

theorem same_any (B : Nat) (ao bo : Option Addr) (n m c d : Nat) (la lb : List Ev) (w : World) (ha : Reads w B 2 ao n (evc la)) (hb : Reads w B 2 bo m (evc lb)) (hn : la.length = n) (hm : lb.length = m)
    (hnb : n ≤ maxLen) (hmb : m ≤ maxLen) :
    Calls Tryd.prog 15 #[.slice ao n c, .slice bo m d] w fun e w' => e = .returned (.bool (sam la lb)) ∧ ∃ q, w' = w.drewN q := by
  have HE := Lib.hid (equal_any B ao bo n m c d la lb w ha hb hn hm hnb hmb)
  clear ha hb hn hm
  go_enter Tryd.func15, Tryd.ntmps15
  go_wp2_with (go_at_call 26; refine HE.out.mono ?_; rintro e w' ⟨rfl, q, rfl⟩)
  go_ret
  exact ⟨rfl, q, rfl⟩

theorem refsame_any (B : Nat) (ao bo : Option Addr) (n m c d : Nat) (la lb : List Ev) (w : World) (ha : Reads w B 2 ao n (evc la)) (hb : Reads w B 2 bo m (evc lb)) (hn : la.length = n) (hm : lb.length = m)
    (hnb : n ≤ maxLen) (hmb : m ≤ maxLen) :
    Calls Tryd.prog 14 #[.slice ao n c, .slice bo m d] w fun e w' => e = .returned (.bool (sam la lb)) ∧ ∃ q, w' = w.drewN q := by
  have HE := Lib.hid (begins_any B ao bo n m c d la lb w ha hb hn hm hnb hmb)
  unfold maxLen at hnb hmb
  by_cases heq : n = m
  · subst heq
    have hr : beg la lb = sam la lb := (sam_beg (hn.trans hm.symm)).symm
    have HR := Lib.hid hr
    clear ha hb hn hm hr
    go_enter Tryd.func14, Tryd.ntmps14
    go_wp2_with (go_at_call 17; refine HE.out.mono ?_; rintro e w' ⟨rfl, q, rfl⟩)
    go_ret
    exact ⟨by rw [← HR.out]; rfl, q, rfl⟩
  · have hr : sam la lb = false := sam_len (by rw [hn, hm]; exact heq)
    have HR := Lib.hid hr
    clear ha hb hn hm hr
    go_enter Tryd.func14, Tryd.ntmps14
    go_wp2
    go_ret
    exact ⟨by rw [HR.out]; rfl, 0, rfl⟩

theorem prefix_any (B : Nat) (ao bo : Option Addr) (n m c d : Nat) (la lb : List Ev) (w : World) (ha : Reads w B 2 ao n (evc la)) (hb : Reads w B 2 bo m (evc lb)) (hn : la.length = n) (hm : lb.length = m)
    (hnb : n ≤ maxLen) (hmd : m ≤ d) (hdb : d ≤ maxLen) :
    Calls Tryd.prog 16 #[.slice ao n c, .slice bo m d] w fun e w' => e = .returned (.bool (beg la lb)) ∧ ∃ q, w' = w.drewN q := by
  by_cases hle : n ≤ m
  · have HE := Lib.hid (equal_any B ao bo n n c d la (lb.take n) w ha (hb.take hm hle) hn (by rw [List.length_take]; omega) hnb hnb)
    have HR := Lib.hid (beg_sam (b := lb) hn)
    unfold maxLen at hnb hdb
    clear ha hb hn hm
    go_enter Tryd.func16, Tryd.ntmps16
    go_wp2_with (go_at_call 26; refine HE.out.mono ?_; rintro e w' ⟨rfl, q, rfl⟩)
    go_ret
    exact ⟨by rw [HR.out]; rfl, q, rfl⟩
  · have hr : beg la lb = false := beg_long (by rw [hn, hm]; omega)
    have HR := Lib.hid hr
    unfold maxLen at hnb hdb
    clear ha hb hn hm hr
    go_enter Tryd.func16, Tryd.ntmps16
    go_wp2
    go_ret
    exact ⟨by rw [HR.out]; rfl, 0, rfl⟩
end Go.Proofs.YtjmfbmnhkoeceaaDoor
