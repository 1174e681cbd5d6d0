/-
  The walk through TraceTapes: two traces over one tape are apart, each tells the tape, and then noughts.
-/
import Derived.Test.YtjmfbmnhkoeceaaDoorFirst
import Derived.BigGuardPart
namespace Go.Proofs.YtjmfbmnhkoeceaaDoor
set_option linter.unusedVariables false
open Go.ChangeShapes Go.WideShapes Go.ChangeAt Go.RowKit

theorem IsTr.below {w w' : World} {B g : Nat} {tv ev : Value} {tape : List Int} {evs : List Ev} (h : IsTr w B g tv ev tape evs) (hb : Below w.heap.size w w') : IsTr w' B g tv ev tape evs :=
  ⟨h.blk.below hb h.blk.lt, h.le, tape_kept h.tape fun i cs hi => hb.block i hi.lt, own_kept h.own fun i hi => hb.block i (own_block_le h.own hi).2⟩
/-- a trace without events stands while another one is at work -/
theorem IsTr.only {w w' : World} {B B' g g' n : Nat} {tv tv' ev' ev'' : Value} {tape : List Int} {xs : List Value} (h : IsTr w B g tv (.slice none 0 0) tape []) (ho : Only g' ev' ev'' w w') (hne : g ≠ g')
    (hg' : Blk w g' 56 #[tv', ev']) (hown : w.ownsRow B' 31 2 ev' n xs) : IsTr w' B g tv (.slice none 0 0) tape [] :=
  ⟨(ho.1 g h.blk.lt hne (own_blk_ne hown h.blk (by decide))).trans h.blk, h.le,
    tape_kept h.tape fun i cs hi => ho.1 i hi.lt (hi.ne_ hg' (by decide)) (own_blk_ne hown hi (by decide)), own_none _ _⟩

/-- the number that comes i-th -/
def tapeAt (xs : List Int) (i : Nat) : Int := xs.getD i 0
/-- what is kept when j numbers have come in and gone out -/
def tev (xs : List Int) (j : Nat) : List Ev := (List.range j).flatMap fun i => [(2, tapeAt xs i), (1, tapeAt xs i)]
theorem tev_succ (xs : List Int) (j : Nat) : tev xs (j + 1) = tev xs j ++ [(2, tapeAt xs j)] ++ [(1, tapeAt xs j)] := by
  simp [tev, List.range_succ]
theorem tev_length (xs : List Int) (j : Nat) : (tev xs j).length = 2 * j := by
  induction j with
  | zero => rfl
  | succ j ih => rw [tev_succ, List.length_append, List.length_append, ih]; simp; omega
theorem tev_at (xs : List Int) (j t : Nat) (h : t < j) : (tev xs j)[2 * t]? = some (2, tapeAt xs t) ∧ (tev xs j)[2 * t + 1]? = some (1, tapeAt xs t) := by
  induction j with
  | zero => omega
  | succ j ih =>
    have hl := tev_length xs j
    have e : tev xs (j + 1) = tev xs j ++ [(2, tapeAt xs j), (1, tapeAt xs j)] := by rw [tev_succ, List.append_assoc]; rfl
    rw [e]
    rcases Nat.lt_or_ge t j with h1 | h1
    · rw [List.getElem?_append_left (by omega), List.getElem?_append_left (by omega)]
      exact ih h1
    · obtain rfl : t = j := by omega
      rw [List.getElem?_append_right (by omega), List.getElem?_append_right (by omega), hl, Nat.sub_self, Nat.add_sub_cancel_left]
      exact ⟨rfl, rfl⟩
theorem hd_drop (xs : List Int) (j : Nat) : hd (xs.drop j) = tapeAt xs j := by
  unfold hd tapeAt
  rcases Nat.lt_or_ge j xs.length with h | h
  · rw [List.drop_eq_getElem_cons h]
    simp [h]
  · rw [List.drop_eq_nil_of_le h]
    simp [h]
theorem tail_drop (xs : List Int) (j : Nat) : (xs.drop j).tail = xs.drop (j + 1) := by rw [List.tail_drop]

theorem ret_bool {a : Bool} (h : a = true) : Ending.returned (.bool a) = .returned (.bool true) := by rw [h]
theorem mod_20 (c : Int) : ∃ i : Nat, i ≤ 19 ∧ wrap64 ((IntKind.u64.wrap c).tmod 20) = i := by
  rw [IntKind.wrap_u64]
  have h0 : 0 ≤ c % 18446744073709551616 := Int.emod_nonneg _ (by omega)
  rw [Int.tmod_eq_emod_of_nonneg h0]
  have h1 := Int.emod_nonneg (c % 18446744073709551616) (show (20 : Int) ≠ 0 by omega)
  have h2 := Int.emod_lt_of_pos (c % 18446744073709551616) (show (0 : Int) < 20 by omega)
  generalize c % 18446744073709551616 % 20 = r at h1 h2
  exact ⟨r.toNat, by omega, by rw [IntWalk.wrap64_in r ⟨by omega, by omega⟩]; omega⟩

set_option maxHeartbeats 8000000 in
theorem tapes_walk (ao : Option Addr) (n c : Nat) (xs : List Int) (more : Int) (w : World) (h : Reads w w.heap.size 1 ao n (xs.map (Value.int .u64))) (hl : xs.length = n) (hnc : n ≤ c) (hc : c * 8 ≤ 140737488351232) :
    Calls Tryd.prog 8 #[.slice ao n c, .int .i64 more] w fun e w' => e = .returned (.bool true) ∧ Below w.heap.size w w' := by
  have HR := Lib.hid h
  have HL := Lib.hid hl
  obtain ⟨kk, hkk, hke⟩ := mod_20 more
  have HK := Lib.hid hke
  clear h hl hke
  go_enter Tryd.func8, Tryd.ntmps8
  go_wp2_with (go_at_call 9; refine (first_any _).mono ?_; rintro e w1 ⟨rfl, hb1⟩; refine Hid.out ?_)
  refine Lib.hid ?_
  go_wp2_with (go_at_call 10; refine (new_any w.heap.size ao n c xs _ (HR.out.below hb1) hb1.size (by omega)).mono ?_; rintro e w2 ⟨ga, tva, rfl, ha, hb2⟩; refine Hid.out ?_)
  rw [HK.out]
  have HA := Lib.hid ha
  have hs1 := hb1.size
  have hs2 := hb2.size
  clear ha
  refine Lib.hid ?_
  go_wp2_with (go_at_call 10; refine (new_any w.heap.size ao n c xs _ ((HR.out.below hb1).below (hb2.mono (by omega))) (by omega) (by omega)).mono ?_; rintro e w3 ⟨gb, tvb, rfl, hbb, hb3⟩; refine Hid.out ?_)
  have HA3 := Lib.hid (HA.out.below hb3)
  have HB3 := Lib.hid hbb
  have hne : gb ≠ ga := by have h1 := HA.out.blk.lt; have h2 := HB3.out.le; omega
  have hs3 := hb3.size
  have HW3 : Hid (Below w.heap.size w w3) := (hb1.trans (hb2.mono (by omega))).trans (hb3.mono (by omega))
  have hgb : w2.heap.size ≤ gb := HB3.out.le
  clear hbb hb1 hb2 hb3 HA
  refine Lib.hid ?_
  go_wp2
  obtain ⟨N, hN1, hN2, hN3⟩ : ∃ N : Nat, N ≤ n + kk ∧ N ≤ 100 ∧ ((n + kk ≤ 100 ∧ n + kk ≤ N) ∨ (100 < n + kk ∧ 100 ≤ N)) := ⟨min (n + kk) 100, by omega, by omega, by omega⟩
  have HN := Lib.hid hN3
  clear hN3
  go_loopw [8] (fun i wr => ∃ j : Nat, j ≤ N ∧ i = .int .i64 j ∧ (∃ tv ev, Hid (IsTr wr w1.heap.size ga tv ev (xs.drop j) (tev xs j))) ∧ Hid (IsTr wr w2.heap.size gb tvb (.slice none 0 0) xs []) ∧ Hid (Below w.heap.size w wr)) (fun i _ => N - (intOf i).toNat)
  case atStart => exact ⟨0, Nat.zero_le _, rfl, ⟨_, _, HA3⟩, HB3, HW3⟩
  case round =>
    obtain ⟨j, hj, rfl, ⟨tv, ev, HA⟩, HB, HW⟩ := hrel
    by_cases hlt : j < N
    · obtain ⟨v, HV⟩ : ∃ v, Hid (tapeAt xs j = v) := ⟨_, rfl⟩
      have hhd := (hd_drop xs j).trans HV.out
      have HH := Lib.hid hhd
      have hwz := HW.out.size
      have hb1 : w1.heap.size ≤ wr.heap.size := by have h1 := HA.out.le; have h2 := HA.out.blk.lt; omega
      have hb2 : w2.heap.size ≤ wr.heap.size := by have h1 := HB.out.le; have h2 := HB.out.blk.lt; omega
      clear hhd
      have t1 : decide ((j : Int) < (n : Int) + (kk : Int)) = true := by simp; omega
      have t2 : decide ((j : Int) < 100) = true := by simp; omega
      by_cases hjn : j < n
      · obtain ⟨b, off, rfl, hbb, hcc⟩ := HR.out.lit (by omega) (by omega)
        have hx : xs[j]? = some v := by
          rw [← HV.out]
          unfold tapeAt
          have hjl : j < xs.length := by have := HL.out; omega
          simp [hjl]
        have hcell : w.cell? ⟨b, off + j, none⟩ = some (.int .u64 v) := hcc j _ (by rw [List.getElem?_map, hx]; rfl)
        have HC := Lib.hid hcell
        clear hcc hx hcell
        have t3 : decide ((j : Int) < (n : Int)) = true := by simp; omega
        go_wp2_with (go_at_call 11; refine (in_any _ ga tv ev _ _ _ HA.out hb1 (by rw [tev_length]; omega)).mono ?_; rintro e w4 ⟨tv4, ev4, rfl, h4, hb4, ho4⟩; refine Hid.out ?_)
        rw [HH.out]
        rw [HH.out, tail_drop] at h4
        have H4 := Lib.hid h4
        have HB4 := Lib.hid (HB.out.only ho4 hne HA.out.blk HA.out.own)
        have HW4 : Hid (Below w.heap.size w w4) := HW.out.trans (hb4.mono (by have h1 := HA.out.le; omega))
        have hs4 := hb4.size
        have hc4 : w4.cell? ⟨b, off + j, none⟩ = some (.int .u64 v) := by rw [HW4.out.cell (p := ⟨b, off + j, none⟩) hbb]; exact HC.out
        clear h4 hb4 ho4
        refine Lib.hid ?_
        go_wp2_with (go_at_call 12; refine (out_any _ ga tv4 ev4 _ _ v _ H4.out (by omega) (by rw [List.length_append, tev_length]; simp; omega)).mono ?_; rintro e w5 ⟨ev5, rfl, h5, hb5, ho5⟩; refine Hid.out ?_)
        have H5 : Hid (IsTr w5 w1.heap.size ga tv4 ev5 (xs.drop (j + 1)) (tev xs (j + 1))) := by rw [tev_succ, HV.out]; exact h5
        have HB5 := Lib.hid (HB4.out.only ho5 hne H4.out.blk H4.out.own)
        have HW5 : Hid (Below w.heap.size w w5) := HW4.out.trans (hb5.mono (by omega))
        clear h5 hb5 ho5 hc4
        refine Lib.hid ?_
        go_wp2
        go_roundw
        case rel => exact ⟨j + 1, by omega, by go_num, ⟨_, _, H5⟩, HB5, HW5⟩
        case measure => simp [intOf]; omega
      · have hv0 : v = 0 := by
          rw [← HV.out]
          unfold tapeAt
          have hjl : xs.length ≤ j := by have := HL.out; omega
          simp [hjl]
        subst hv0
        have t3 : decide ((j : Int) < (n : Int)) = false := by simp; omega
        have t4 : decide (n ≤ j) = true := by simp; omega
        have t5 : n ≤ j := by omega
        go_wp2_with (go_at_call 11; refine (in_any _ ga tv ev _ _ _ HA.out hb1 (by rw [tev_length]; omega)).mono ?_; rintro e w4 ⟨tv4, ev4, rfl, h4, hb4, ho4⟩; refine Hid.out ?_)
        rw [HH.out]
        rw [HH.out, tail_drop] at h4
        have H4 := Lib.hid h4
        have HB4 := Lib.hid (HB.out.only ho4 hne HA.out.blk HA.out.own)
        have HW4 : Hid (Below w.heap.size w w4) := HW.out.trans (hb4.mono (by have h1 := HA.out.le; omega))
        have hs4 := hb4.size
        clear h4 hb4 ho4
        refine Lib.hid ?_
        go_wp2_with (go_at_call 12; refine (out_any _ ga tv4 ev4 _ _ 0 _ H4.out (by omega) (by rw [List.length_append, tev_length]; simp; omega)).mono ?_; rintro e w5 ⟨ev5, rfl, h5, hb5, ho5⟩; refine Hid.out ?_)
        have H5 : Hid (IsTr w5 w1.heap.size ga tv4 ev5 (xs.drop (j + 1)) (tev xs (j + 1))) := by rw [tev_succ, HV.out]; exact h5
        have HB5 := Lib.hid (HB4.out.only ho5 hne H4.out.blk H4.out.own)
        have HW5 : Hid (Below w.heap.size w w5) := HW4.out.trans (hb5.mono (by omega))
        clear h5 hb5 ho5
        refine Lib.hid ?_
        go_wp2
        go_roundw
        case rel => exact ⟨j + 1, by omega, by go_num, ⟨_, _, H5⟩, HB5, HW5⟩
        case measure => simp [intOf]; omega
    · obtain rfl : j = N := by omega
      clear hlt
      have hlen : (tev xs j).length = 2 * j := tev_length xs j
      have HLen := Lib.hid hlen
      have HLe : Hid ((tev xs j).length ≤ 1048576) := Lib.hid (by rw [hlen]; omega)
      have HZ := Lib.hid HW.out.size
      clear hlen
      rcases HN.out with ⟨hx1, hx2⟩ | ⟨hx1, hx2⟩
      · have t1 : decide ((j : Int) < (n : Int) + (kk : Int)) = false := by simp; omega
        go_wp2_with (go_at_call 13; refine (events_any _ gb tvb _ _ [] _ HB.out (by simp)).mono ?_; rintro e w4 ⟨v4, rfl, h4, hb4⟩; refine Hid.out ?_)
        obtain ⟨A4, c4, rfl⟩ := own_slice h4
        have HA4 := Lib.hid (HA.out.below hb4)
        have HW4 : Hid (Below w.heap.size w w4) := HW.out.trans (hb4.mono HZ.out)
        have HZ4 := Lib.hid hb4.size
        clear h4 hb4
        refine Lib.hid ?_
        go_wp2_with (go_at_call 13; refine (events_any _ ga tv ev _ _ _ HA4.out HLe.out).mono ?_; rintro e w5 ⟨v5, rfl, h5, hb5⟩; refine Hid.out ?_)
        rw [HLen.out] at h5
        obtain ⟨A5, c5, rfl⟩ := own_slice h5
        have HR5 : Hid (Reads w5 w5.heap.size 2 A5 (2 * j) (evc (tev xs j))) := Lib.hid (Reads.of_own h5)
        have HW5 : Hid (Below w.heap.size w w5) := HW4.out.trans (hb5.mono (by have := HZ.out; have := HZ4.out; omega))
        clear h5 hb5
        refine Lib.hid ?_
        go_wp2
        go_loopw [11] (fun i wr => ∃ s t q : Nat, t ≤ j ∧ s ≤ 2 * j ∧ i = .int .i64 s ∧ Hid (s = 2 * t) ∧ wr = w5.drewN q) (fun i _ => 2 * j - (intOf i).toNat)
        case atStart => exact ⟨0, 0, 0, Nat.zero_le _, Nat.zero_le _, rfl, rfl, rfl⟩
        case round =>
          obtain ⟨s, t, q, ht, hs, rfl, HST, rfl⟩ := hrel
          by_cases htj : t < j
          · have hst := HST.out
            have hs2 : s + 2 ≤ 2 * j := by omega
            obtain ⟨g1, g2⟩ := tev_at xs j t htj
            rw [← hst] at g1 g2
            obtain ⟨b, o, x, rfl, _, HX, x1, x2⟩ := HR5.out.ev HLen.out (k := s) (by omega)
            obtain ⟨b', o', y, e', _, HY, y1, y2⟩ := HR5.out.ev HLen.out (k := s + 1) (by omega)
            simp only [Option.some.injEq, Addr.mk.injEq, and_true] at e'
            obtain ⟨rfl, rfl⟩ := e'
            obtain rfl : x = (2, tapeAt xs t) := by have := HX.out.symm.trans g1; simpa using this
            obtain rfl : y = (1, tapeAt xs t) := by have := HY.out.symm.trans g2; simpa using this
            obtain ⟨v, HV⟩ : ∃ v, Hid (tapeAt xs t = v) := ⟨_, rfl⟩
            simp only [HV.out] at x1 x2 y1 y2
            clear g1 g2 HX HY hst
            have a1 : IntKind.i64.wrap ((s : Int) + 1) = (s : Int) + 1 := IntWalk.i64_in _ (by omega)
            have a2 : 0 ≤ (s : Int) + 1 := by omega
            have a3 : ((s : Int) + 1).toNat = s + 1 := by omega
            have a4 : (s : Int) + 1 < ((2 * j : Nat) : Int) := by omega
            have a5 : s < 2 * j := by omega
            have a6 : s + 1 < 2 * j := by omega
            go_wp2
            go_quiet (fail)
            clear a1 a2 a3
            go_wp2
            go_roundw
            case rel => exact ⟨s + 2, t + 1, _, by omega, by omega, by go_num, by show s + 2 = 2 * (t + 1); rw [HST.out]; omega, rfl⟩
            case measure => simp [intOf]; omega
          · obtain rfl : t = j := by omega
            obtain rfl : s = 2 * t := HST.out
            have a4 : ¬ ((2 * t : Nat) : Int) + 1 < ((2 * t : Nat) : Int) := by omega
            go_wp2
            go_ret
            exact ⟨ret_bool (by simp; omega), below_drewN HW5.out _⟩
      · have t1 : decide ((j : Int) < (n : Int) + (kk : Int)) = true := by simp; omega
        have t2 : decide ((j : Int) < 100) = false := by simp; omega
        go_wp2_with (go_at_call 13; refine (events_any _ gb tvb _ _ [] _ HB.out (by simp)).mono ?_; rintro e w4 ⟨v4, rfl, h4, hb4⟩; refine Hid.out ?_)
        obtain ⟨A4, c4, rfl⟩ := own_slice h4
        have HA4 := Lib.hid (HA.out.below hb4)
        have HW4 : Hid (Below w.heap.size w w4) := HW.out.trans (hb4.mono HZ.out)
        have HZ4 := Lib.hid hb4.size
        clear h4 hb4
        refine Lib.hid ?_
        go_wp2_with (go_at_call 13; refine (events_any _ ga tv ev _ _ _ HA4.out HLe.out).mono ?_; rintro e w5 ⟨v5, rfl, h5, hb5⟩; refine Hid.out ?_)
        rw [HLen.out] at h5
        obtain ⟨A5, c5, rfl⟩ := own_slice h5
        have HR5 : Hid (Reads w5 w5.heap.size 2 A5 (2 * j) (evc (tev xs j))) := Lib.hid (Reads.of_own h5)
        have HW5 : Hid (Below w.heap.size w w5) := HW4.out.trans (hb5.mono (by have := HZ.out; have := HZ4.out; omega))
        clear h5 hb5
        refine Lib.hid ?_
        go_wp2
        go_loopw [11] (fun i wr => ∃ s t q : Nat, t ≤ j ∧ s ≤ 2 * j ∧ i = .int .i64 s ∧ Hid (s = 2 * t) ∧ wr = w5.drewN q) (fun i _ => 2 * j - (intOf i).toNat)
        case atStart => exact ⟨0, 0, 0, Nat.zero_le _, Nat.zero_le _, rfl, rfl, rfl⟩
        case round =>
          obtain ⟨s, t, q, ht, hs, rfl, HST, rfl⟩ := hrel
          by_cases htj : t < j
          · have hst := HST.out
            have hs2 : s + 2 ≤ 2 * j := by omega
            obtain ⟨g1, g2⟩ := tev_at xs j t htj
            rw [← hst] at g1 g2
            obtain ⟨b, o, x, rfl, _, HX, x1, x2⟩ := HR5.out.ev HLen.out (k := s) (by omega)
            obtain ⟨b', o', y, e', _, HY, y1, y2⟩ := HR5.out.ev HLen.out (k := s + 1) (by omega)
            simp only [Option.some.injEq, Addr.mk.injEq, and_true] at e'
            obtain ⟨rfl, rfl⟩ := e'
            obtain rfl : x = (2, tapeAt xs t) := by have := HX.out.symm.trans g1; simpa using this
            obtain rfl : y = (1, tapeAt xs t) := by have := HY.out.symm.trans g2; simpa using this
            obtain ⟨v, HV⟩ : ∃ v, Hid (tapeAt xs t = v) := ⟨_, rfl⟩
            simp only [HV.out] at x1 x2 y1 y2
            clear g1 g2 HX HY hst
            have a1 : IntKind.i64.wrap ((s : Int) + 1) = (s : Int) + 1 := IntWalk.i64_in _ (by omega)
            have a2 : 0 ≤ (s : Int) + 1 := by omega
            have a3 : ((s : Int) + 1).toNat = s + 1 := by omega
            have a4 : (s : Int) + 1 < ((2 * j : Nat) : Int) := by omega
            have a5 : s < 2 * j := by omega
            have a6 : s + 1 < 2 * j := by omega
            go_wp2
            go_quiet (fail)
            clear a1 a2 a3
            go_wp2
            go_roundw
            case rel => exact ⟨s + 2, t + 1, _, by omega, by omega, by go_num, by show s + 2 = 2 * (t + 1); rw [HST.out]; omega, rfl⟩
            case measure => simp [intOf]; omega
          · obtain rfl : t = j := by omega
            obtain rfl : s = 2 * t := HST.out
            have a4 : ¬ ((2 * t : Nat) : Int) + 1 < ((2 * t : Nat) : Int) := by omega
            go_wp2
            go_ret
            exact ⟨ret_bool (by simp; omega), below_drewN HW5.out _⟩
end Go.Proofs.YtjmfbmnhkoeceaaDoor
