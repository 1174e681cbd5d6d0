/-
  Package slices' Equal, Clone, Grow (from nil), Concat (of two), at kinds.
-/
import Derived.Test.YtcgoanfhabjpfaaKMem
import Derived.Lib.AppendZerosOnto
import Derived.Lib.AppendZeros
import Derived.Lib.SliceRun
namespace Go.Proofs.Ytcgoanfhabjpfaa
set_option linter.unusedVariables false
open Go.ChangeShapes Go.WideShapes Go.ChangeAt Go.RowKit

theorem take_eq_snoc {xs ys : List Int} {k : Nat} {x y : Int} (h : xs.take k = ys.take k) (hx : xs[k]? = some x) (hy : ys[k]? = some y) (he : x = y) : xs.take (k + 1) = ys.take (k + 1) := by
  rw [List.take_add_one, List.take_add_one, h, hx, hy, he]
set_option maxRecDepth 100000 in
set_option maxHeartbeats 1600000 in
theorem equal_any (B B' : Nat) (A A' : Option Addr) (n m c d : Nat) (xs ys : List Int) (w : World) (hx : Reads w B 1 A n (u8c xs)) (hy : Reads w B' 1 A' m (u8c ys)) (hB : B ≤ w.heap.size) (hB' : B' ≤ w.heap.size) (hn : n ≤ 1048576) (hm : m ≤ 1048576) :
    Calls Try.prog 54 #[.slice A n c, .slice A' m d] w fun e w' => e = .returned (.bool (decide (xs = ys))) ∧ Below w.heap.size w w' := by
  have HN : Hid (xs.length = n) := Lib.hid (by have := hx.1; rw [length_u8c] at this; omega)
  have HM : Hid (ys.length = m) := Lib.hid (by have := hy.1; rw [length_u8c] at this; omega)
  have HX := Lib.hid hx
  have HY := Lib.hid hy
  clear hx hy
  obtain ⟨b, HBV⟩ : ∃ b, Hid (b = decide (xs = ys)) := ⟨_, Lib.hid rfl⟩
  rw [← HBV.out]
  by_cases hne : n = m
  · subst hne
    go_enter Try.func54, Try.ntmps54
    go_wp2
    go_loopw [13] (fun i wr => ∃ k : Nat, k ≤ n ∧ i = .int .i64 k ∧ Hid (xs.take k = ys.take k) ∧ Hid (Below w.heap.size w wr)) (fun i _ => n - (intOf i).toNat)
    case atStart => exact ⟨0, Nat.zero_le _, rfl, Lib.hid rfl, Lib.hid (Below.refl _ _)⟩
    case round =>
      obtain ⟨k, hk, rfl, HT, HW⟩ := hrel
      by_cases hlt : k < n
      · obtain ⟨b1, o1, x, hA1, hb1, HX1, x0⟩ := (HX.out.below (HW.out.mono hB)).byte hlt
        obtain ⟨b2, o2, y, hA2, hb2, HY1, y0⟩ := (HY.out.below (HW.out.mono hB')).byte hlt
        subst hA1 hA2
        have hz := HW.out.size
        have hbr1 : b1 < wr.heap.size := by omega
        have hbr2 : b2 < wr.heap.size := by omega
        by_cases he : x = y
        · have HT1 := Lib.hid (take_eq_snoc HT.out HX1.out HY1.out he)
          subst he
          have g : (x != x) = false := by simp
          go_wp2
          go_quiet (fail)
          go_wp2
          go_roundw
          case rel => exact ⟨k + 1, by omega, by go_num, HT1, Lib.hid (below_drewN HW.out _)⟩
          case measure => simp [intOf]; omega
        · have g : (x != y) = true := by simpa using he
          have HA : Hid (b = false) := Lib.hid (by
            rw [HBV.out]
            have h1 := HX1.out
            have h2 := HY1.out
            simp only [decide_eq_false_iff_not]
            rintro rfl
            rw [h1] at h2
            exact he (by injection h2))
          clear he
          go_wp2
          go_quiet (fail)
          go_wp2
          go_ret
          exact ⟨by rw [HA.out]; rfl, below_drewN HW.out _⟩
      · obtain rfl : n = k := by omega
        clear hlt hk
        have HA : Hid (b = true) := Lib.hid (by
          have h := HT.out
          rw [List.take_of_length_le (by rw [HN.out]; omega), List.take_of_length_le (by rw [HM.out]; omega)] at h
          rw [HBV.out, h]; simp)
        go_wp2
        go_ret
        exact ⟨by rw [HA.out]; rfl, HW.out⟩
  · have HA : Hid (b = false) := Lib.hid (by
      rw [HBV.out]
      simp only [decide_eq_false_iff_not]
      rintro rfl
      exact hne (HN.out.symm.trans HM.out))
    go_enter Try.func54, Try.ntmps54
    go_wp2
    go_ret
    exact ⟨by rw [HA.out]; rfl, Below.refl _ _⟩
theorem own_lit0 (w : World) (base : Nat) (hb : base ≤ w.heap.size) : (w.alloc (.cells #[] 57)).ownsRow base 57 1 (.slice (some ⟨w.heap.size, 0, none⟩) 0 0) 0 [] :=
  w.ownsRow_made #[] 0 hb (by unfold maxLen; omega) rfl
set_option maxRecDepth 100000 in
set_option maxHeartbeats 1600000 in
theorem clone_any (B n : Nat) (v : Value) (xs : List Int) (w : World) (h : w.ownsRow B 57 1 v n (u8c xs)) (hn : n ≤ 1048576) :
    Calls Try.prog 55 #[v] w (NewK w xs) := by
  have hl : xs.length = n := by have := h.1; rw [length_u8c] at this; omega
  have H := Lib.hid h
  have q : ∀ (W : World) (a : Option Addr) (n c n' c' : Nat), (binOp .eql 43 (.slice a n c) (.slice none n' c')).run Try.prog W = .ok (.bool a.isNone) W := fun W a n c n' c' => Lib.run_eql_slice_nil W _ _ a n c n' c' Try.underlying43
  rcases h.2 with ⟨rfl, h0⟩ | ⟨g, cap, cur, rfl, hg, hh, hnc, _⟩
  · have hxs : xs = [] := List.eq_nil_of_length_eq_zero (by omega)
    subst hxs
    clear h
    go_enter Try.func55, Try.ntmps55
    go_wp2
    go_ret
    exact ⟨none, 0, 0, rfl, rfl, own_none _ _ _ _, Below.refl _ _⟩
  · clear h
    have HL := Lib.hid hl
    have HO := Lib.hid (own_lit0 w w.heap.size (Nat.le_refl _))
    have HR := Lib.hid ((Reads.of_own H.out).alloc (Nat.le_refl _) (.cells #[] 57))
    clear hh hl
    go_enter Try.func55, Try.ntmps55
    go_wp2_with (at_builtin; refine app_kind rfl _ _ rfl w.heap.size (.slice (some ⟨w.heap.size, 0, none⟩) 0 0) 0 [] rfl HO.out w.heap.size (some ⟨g, 0, none⟩) n cap (u8c xs) rfl HR.out (u8c_one _) (by omega) (by simp) ?_; intro v1 w1 hown1 hgr1 _; refine Hid.out ?_)
    rw [Nat.zero_add, List.nil_append] at hown1
    obtain ⟨A1, c1, rfl⟩ := own_slice hown1
    have HO1 := Lib.hid hown1
    have HB1 : Hid (Below w.heap.size w w1) := Lib.hid (((Below.refl _ _).alloc (Nat.le_refl _) _).grown hgr1 (by simp) fun i hi => (own_block_le HO.out hi).1)
    clear hown1 hgr1
    refine Lib.hid ?_
    go_wp2
    go_ret
    exact ⟨A1, n, c1, rfl, HL.out.symm, HO1.out, HB1.out⟩
/-- an empty row with room -/
def RoomK (w : World) (e : Ending) (w' : World) : Prop := ∃ A c, e = .returned (.slice A 0 c) ∧ w'.ownsRow w.heap.size 57 1 (.slice A 0 c) 0 [] ∧ Below w.heap.size w w'
set_option maxRecDepth 100000 in
set_option maxHeartbeats 1600000 in
theorem grow_any (n : Nat) (w : World) (hn : n ≤ 1048576) :
    Calls Try.prog 65 #[.slice none 0 0, .int .i64 n] w (RoomK w) := by
  rcases Nat.eq_zero_or_pos n with rfl | hp
  · go_enter Try.func65, Try.ntmps65
    go_wp2
    go_ret
    exact ⟨none, 0, rfl, own_none _ _ _ _, Below.refl _ _⟩
  · obtain ⟨i0, hi, hz0, hz1, hz2⟩ := info_parts Try.info57
    have hrun : ∀ ty, ∃ (G : Nat) (cur : Array Value), (Builtin.append_ #[43, 3] ty #[.slice none 0 0, .int .i64 (n : Int)]).run Try.prog w = .ok (.slice (some ⟨w.heap.size, 0, none⟩) n G) (w.drew.alloc (.cells cur 57)) ∧ cur.size = G ∧ n ≤ G ∧ G ≤ maxLen := fun ty => by
      have h := Lib.run_append_grow_zeros w 43 3 ty 57 i0 (.int .u8 0) .i64 .i64 Try.underlying43 Try.underlying3 hi hz0 none 0 0 [] (run_firstCells_none w.drew i0.size 0 0 0) n hp (by omega) (by omega) (by omega) (by rw [hz2]; omega) (growslice_fits (by omega) (by rw [hz2]; omega))
      rw [Nat.zero_add] at h
      refine ⟨_, _, h, ?_, grownCap_ge w _ _ _, grownCap_le_maxLen w _ _ _ (by unfold maxLen; omega)⟩
      have := grownCap_ge w n 0 57
      simp only [Builtin.zeroCells, Array.size_append, Array.size_map, Array.size_range]
      have hzc : (Value.int IntKind.u8 0).cells.size = 1 := rfl
      rw [hzc]
      simp
      omega
    obtain ⟨G, cur, hr, hcs, hG, hGm⟩ := hrun 43
    have HO : Hid ((w.drew.alloc (.cells cur 57)).ownsRow w.heap.size 57 1 (.slice (some ⟨w.heap.size, 0, none⟩) 0 G) 0 []) := Lib.hid (w.drew.ownsRow_made cur G (Nat.le_refl _) hGm (by omega))
    have hG2 : G ≤ 9223372036854775807 := by unfold maxLen at hGm; omega
    have HRN := Lib.hid hr
    clear hr hrun hi hz0 hz1 hz2 hcs hGm
    go_enter Try.func65, Try.ntmps65
    go_wp2_with (at_builtin; refine Lib.wpList_append_run _ rfl _ _ _ _ rfl _ _ rfl rfl _ _ HRN.out ?_)
    go_ret
    exact ⟨_, _, rfl, HO.out, (Below.refl _ _).drew.alloc (Nat.le_refl _) _⟩
/-- the first loop's two slots -/
def CatI (n1 n2 m : Nat) (s i : Value) : Prop := (i = .int .i64 0 ∧ s = .int .i64 0) ∨ (i = .int .i64 1 ∧ s = .int .i64 n1) ∨ (i = .int .i64 2 ∧ s = .int .i64 m)
def CatJ (w : World) (g n1 m : Nat) (xs ys : List Int) (s i : Value) (wr : World) : Prop :=
  ∃ A c k j zs, s = .slice A k c ∧ i = .int .i64 j ∧ Hid (wr.ownsRow w.heap.size 57 1 (.slice A k c) k (u8c zs)) ∧ Hid (Below w.heap.size w wr) ∧ ((j = (0 : Int) ∧ zs = [] ∧ k = 0) ∨ (j = 1 ∧ zs = xs ∧ k = n1) ∨ (j = 2 ∧ zs = xs ++ ys ∧ k = m))
set_option maxRecDepth 100000 in
set_option maxHeartbeats 3200000 in
theorem concat_any (g : Nat) (A1 A2 : Option Addr) (n1 n2 c1 c2 : Nat) (xs ys : List Int) (w : World) (h : Blk w g 43 #[.slice A1 n1 c1, .slice A2 n2 c2]) (h1 : Reads w w.heap.size 1 A1 n1 (u8c xs)) (h2 : Reads w w.heap.size 1 A2 n2 (u8c ys)) (hn1 : n1 ≤ 100000) (hn2 : n2 ≤ 100000) :
    Calls Try.prog 62 #[.slice (some ⟨g, 0, none⟩) 2 2] w (NewK w (xs ++ ys)) := by
  have l1 : xs.length = n1 := by have := h1.1; rw [length_u8c] at this; omega
  have l2 : ys.length = n2 := by have := h2.1; rw [length_u8c] at this; omega
  obtain ⟨m, HM⟩ : ∃ m, Hid (m = n1 + n2) := ⟨_, Lib.hid rfl⟩
  have hm : m ≤ 200000 := by rw [HM.out]; omega
  have HL : Hid ((xs ++ ys).length = m) := Lib.hid (by rw [List.length_append, HM.out, l1, l2])
  have hg := h.lt
  have x0 : w.cell? ⟨g, 0, none⟩ = some (.slice A1 n1 c1) := h.cell 0
  have x1 : w.cell? ⟨g, 1, none⟩ = some (.slice A2 n2 c2) := h.cell 1
  have H := Lib.hid h
  have H1 := Lib.hid h1
  have H2 := Lib.hid h2
  clear h h1 h2 l1 l2
  go_enter Try.func62, Try.ntmps62
  go_wp2
  go_loop [3, 11] (fun s i => CatI n1 n2 m s i) (fun _ i => 2 - (intOf i).toNat)
  case atStart => exact .inl ⟨rfl, rfl⟩
  case round =>
    rcases hrel with ⟨rfl, rfl⟩ | ⟨rfl, rfl⟩ | ⟨rfl, rfl⟩
    · go_wp2
      go_round
      case rel => exact .inr (.inl ⟨rfl, rfl⟩)
      case measure => simp [intOf]
    · go_wp2
      go_round
      case rel => exact .inr (.inr ⟨rfl, by rw [HM.out]; go_num⟩)
      case measure => simp [intOf]
    · clear x0 x1
      go_wp2_with (go_at_call 65; refine (grow_any m _ (by omega)).mono ?_; rintro e w2 ⟨A, c, rfl, ho2, hb2⟩; refine Hid.out ?_)
      have HO2 := Lib.hid ho2
      have HB2 := Lib.hid hb2
      clear ho2 hb2
      refine Lib.hid ?_
      go_wp2
      go_loopw [6, 27] (fun s i wr => CatJ w g n1 m xs ys s i wr) (fun _ i _ => 2 - (intOf i).toNat)
      case atStart => exact ⟨A, c, 0, 0, [], rfl, rfl, HO2, HB2, .inl ⟨rfl, rfl, rfl⟩⟩
      case round =>
        clear HO2 HB2
        obtain ⟨A, c, k, j, zs, rfl, rfl, HO, HB, hc⟩ := hrel
        have hz := HB.out.size
        have hX := H.out.below HB.out hg
        have x0 : wr.cell? ⟨g, 0, none⟩ = some (.slice A1 n1 c1) := hX.cell 0
        have x1 : wr.cell? ⟨g, 1, none⟩ = some (.slice A2 n2 c2) := hX.cell 1
        have HR1 := Lib.hid (H1.out.below HB.out)
        have HR2 := Lib.hid (H2.out.below HB.out)
        clear hX
        rcases hc with ⟨rfl, rfl, rfl⟩ | ⟨rfl, rfl, rfl⟩ | ⟨rfl, rfl, rfl⟩
        · go_wp2_with (at_builtin; refine app_kind rfl _ _ rfl w.heap.size (.slice A 0 c) 0 [] rfl HO.out w.heap.size A1 n1 c1 (u8c xs) rfl HR1.out (u8c_one _) (by omega) (by omega) ?_; intro v1 w1 hown1 hgr1 _; refine Hid.out ?_)
          rw [Nat.zero_add, List.nil_append] at hown1
          obtain ⟨A', c', rfl⟩ := own_slice hown1
          have HO1 := Lib.hid hown1
          have HB1 : Hid (Below w.heap.size w w1) := Lib.hid (HB.out.grown hgr1 hz fun i hi => (own_block_le HO.out hi).1)
          clear hown1 hgr1 x0 x1
          refine Lib.hid ?_
          go_wp2
          go_roundw
          case rel => exact ⟨A', c', n1, 1, xs, rfl, rfl, HO1, HB1, .inr (.inl ⟨rfl, rfl, rfl⟩)⟩
          case measure => simp [intOf]
        · have hkm : k + n2 = m := HM.out.symm
          go_wp2_with (at_builtin; refine app_kind rfl _ _ rfl w.heap.size (.slice A k c) k (u8c zs) rfl HO.out w.heap.size A2 n2 c2 (u8c ys) rfl HR2.out (u8c_one _) (by omega) (by omega) ?_; intro v1 w1 hown1 hgr1 _; refine Hid.out ?_)
          rw [← u8c_append, hkm] at hown1
          obtain ⟨A', c', rfl⟩ := own_slice hown1
          have HO1 := Lib.hid hown1
          have HB1 : Hid (Below w.heap.size w w1) := Lib.hid (HB.out.grown hgr1 hz fun i hi => (own_block_le HO.out hi).1)
          clear hown1 hgr1 x0 x1 hkm
          refine Lib.hid ?_
          go_wp2
          go_roundw
          case rel => exact ⟨A', c', m, 2, zs ++ ys, rfl, rfl, HO1, HB1, .inr (.inr ⟨rfl, rfl, rfl⟩)⟩
          case measure => simp [intOf]
        · clear x0 x1
          go_wp2
          go_ret
          exact ⟨A, k, c, rfl, HL.out.symm, HO.out, HB.out⟩
end Go.Proofs.Ytcgoanfhabjpfaa
