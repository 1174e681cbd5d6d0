/-
  Package text's numbers: printed, number; keepOf.
-/
import Derived.Test.YtbpobbadmbafaaaDoorTFmt
import Derived.Test.YtbpobbadmbafaaaDoorShelfP
import Derived.Test.YtbpobbadmbafaaaDoorTEnv
namespace Go.Proofs.YtbpobbadmbafaaaDoor
set_option linter.unusedVariables false
open Go.ChangeShapes Go.WideShapes Go.ChangeAt Go.RowKit

theorem Vars.tabFor {w : World} (h : Vars w) (u : Nat) : TabFor w u := .inr h.tab
theorem bytes_below (w : World) (s : ByteArray) : Below w.heap.size w (Lib.bytesWorld w 5 s) := Lib.bytesWorld_below _ _ _

theorem printed_any (u : Nat) (hu : u < 18446744073709551616) (w : World) (hV : Vars w) : Calls Tryd.prog 43 #[.int .u64 u] w fun e w' => e = .returned (.string (str (Lib.decDigits u))) ∧ Below w.heap.size w w' := by
  have HF := Lib.hid (fmt_any u hu w (hV.tabFor u))
  clear hV
  go_enter Tryd.func43, Tryd.ntmps43
  go_wp2_with (go_at_call 51; refine HF.out.mono ?_; rintro e w' ⟨rfl, hb⟩)
  go_ret
  exact ⟨rfl, hb⟩

/-- ParseUint at a numeral -/
theorem parse_ok (d : List UInt8) (u : Nat) (h : Lib.parseUintB 64 d = .ok u) (hd : d.length ≤ 4294967296) (w : World) :
    Calls Tryd.prog 42 #[.string (str d), .int .i64 10, .int .i64 64] w fun e w' => e = .returned (.tuple #[.int .u64 u, .nilIface]) ∧ Below w.heap.size w w' := by
  refine (Tryd.strconv_ParseUint_10_at64_ok (str d) (by rw [str_size]; omega) u (by rw [str_list]; exact h) w).mono ?_
  rintro e w' ⟨rfl, hw⟩
  refine ⟨rfl, ?_⟩
  rcases hw with rfl | rfl
  · exact Below.refl _ _
  · exact bytes_below _ _
/-- .. and at every other text -/
theorem parse_err (d : List UInt8) (h : ∀ u, Lib.parseUintB 64 d ≠ .ok u) (hd : d.length ≤ 4294967296) (w : World) (hV : Vars w) :
    Calls Tryd.prog 42 #[.string (str d), .int .i64 10, .int .i64 64] w fun e w' => ∃ (x : Int) (N : Nat), e = .returned (.tuple #[.int .u64 x, .iface 100 (.pointer (some ⟨N, 0, none⟩))]) ∧ Below w.heap.size w w' := by
  obtain ⟨tp, p, hs⟩ := hV.syn
  obtain ⟨tq, q, hr⟩ := hV.rng
  cases hh : Lib.parseUintB 64 d with
  | ok u => exact absurd hh (h u)
  | range =>
    refine (Tryd.strconv_ParseUint_10_at64_range_var (str d) (by rw [str_size]; omega) (by rw [str_list]; exact hh) tq q w hr).mono ?_
    rintro e w' ⟨N, rfl, _, _, hb⟩
    exact ⟨_, N, rfl, hb⟩
  | _ =>
    refine (Tryd.strconv_ParseUint_10_at64_syntax_var (str d) (by rw [str_size]; omega) (by rw [str_list]; exact hh) tp p w hs).mono ?_
    rintro e w' ⟨N, rfl, _, _, hb⟩
    exact ⟨_, N, rfl, hb⟩

set_option maxHeartbeats 2000000 in
theorem number_yes (g v : Nat) (d : List UInt8) (h : numLe g d = some v) (hg : g < 18446744073709551616) (hd : d.length ≤ 4294967296) (w : World) (hE : Env w.heap.size w) :
    Calls Tryd.prog 30 #[.string (str d), .int .u64 g] w fun e w' => e = .returned (.tuple #[.int .u64 v, .bool true]) ∧ Below w.heap.size w w' := by
  obtain ⟨h1, h2, h3⟩ := numLe_some h
  have HE := Lib.hid hE
  have H3 := Lib.hid h3
  have HD := Lib.hid (parse_ok d v (by rw [← h1]; exact parse_dec h3) hd)
  have HH : Hid (str (Lib.decDigits v) = str d) := Lib.hid (by rw [h1])
  obtain ⟨X, HX⟩ : ∃ X, Hid (X = str d) := ⟨_, rfl⟩
  rw [← HX.out] at HD HH ⊢
  have hgt : decide (g < v) = false := by simp; omega
  have hgt2 : decide ((g : Int) < (v : Int)) = false := by simp; omega
  clear h h1 h3 hE hd hg h2
  go_enter Tryd.func30, Tryd.ntmps30
  go_wp2_with (go_at_call 42; refine (HD.out _).mono ?_; rintro e w2 ⟨rfl, hb2⟩; refine Hid.out ?_)
  refine Lib.hid ?_
  go_wp2_with (go_at_call 43; refine (printed_any v H3.out _ (HE.out.on hb2).here).mono ?_; rintro e w3 ⟨rfl, hb3⟩; rw [HH.out]; refine Hid.out ?_)
  have hs2 := hb2.size
  refine Lib.hid ?_
  go_wp2
  go_ret2
  exact ⟨rfl, hb2.trans (hb3.mono hs2)⟩

set_option maxHeartbeats 2000000 in
theorem number_no (g : Nat) (d : List UInt8) (h : numLe g d = none) (hg : g < 18446744073709551616) (hd : d.length ≤ 4294967296) (w : World) (hE : Env w.heap.size w) :
    Calls Tryd.prog 30 #[.string (str d), .int .u64 g] w fun e w' => e = .returned (.tuple #[.int .u64 0, .bool false]) ∧ Below w.heap.size w w' := by
  have HE := Lib.hid hE
  by_cases hok : ∃ u, Lib.parseUintB 64 d = .ok u
  · obtain ⟨u, hu⟩ := hok
    have hu64 : u < 18446744073709551616 := by have := Lib.parseUintB_le hu; omega
    have HD := Lib.hid (parse_ok d u hu hd)
    have HU := Lib.hid hu64
    obtain ⟨X, HX⟩ : ∃ X, Hid (X = str d) := ⟨_, rfl⟩
    by_cases hle : u ≤ g
    · have hne : Lib.decDigits u ≠ d := fun e => by rw [← e, numLe_dec hle hu64] at h; cases h
      have hb : ((str (Lib.decDigits u)).toList == (str d).toList) = false := by
        rw [str_toList, str_toList]
        simpa using hne
      obtain ⟨Y, HY⟩ : ∃ Y, Hid (Y = str (Lib.decDigits u)) := ⟨_, rfl⟩
      rw [← HX.out] at HD hb ⊢
      rw [← HY.out] at hb
      have hgt : decide (g < u) = false := by simp; omega
      have hgt2 : decide ((g : Int) < (u : Int)) = false := by simp; omega
      clear h hu hu64 hE hd hg hle hne
      go_enter Tryd.func30, Tryd.ntmps30
      go_wp2_with (go_at_call 42; refine (HD.out _).mono ?_; rintro e w2 ⟨rfl, hb2⟩; refine Hid.out ?_)
      refine Lib.hid ?_
      go_wp2_with (go_at_call 43; refine (printed_any u HU.out _ (HE.out.on hb2).here).mono ?_; rintro e w3 ⟨rfl, hb3⟩; rw [← HY.out]; refine Hid.out ?_)
      have hs2 := hb2.size
      refine Lib.hid ?_
      go_wp2
      go_ret2
      exact ⟨rfl, hb2.trans (hb3.mono hs2)⟩
    · rw [← HX.out] at HD ⊢
      have hgt : decide (g < u) = true := by simp; omega
      have hgt2 : decide ((g : Int) < (u : Int)) = true := by simp; omega
      clear h hu hu64 hE hd hg hle
      go_enter Tryd.func30, Tryd.ntmps30
      go_wp2_with (go_at_call 42; refine (HD.out _).mono ?_; rintro e w2 ⟨rfl, hb2⟩; refine Hid.out ?_)
      refine Lib.hid ?_
      go_wp2
      go_ret2
      exact ⟨rfl, hb2⟩
  · have HD := Lib.hid (fun w => parse_err d (fun u hu => hok ⟨u, hu⟩) hd w)
    obtain ⟨X, HX⟩ : ∃ X, Hid (X = str d) := ⟨_, rfl⟩
    rw [← HX.out] at HD ⊢
    clear hok h hd hE hg
    go_enter Tryd.func30, Tryd.ntmps30
    go_wp2_with (go_at_call 42; refine (HD.out _ HE.out.here).mono ?_; rintro e w2 ⟨x, N, rfl, hb2⟩; refine Hid.out ?_)
    refine Lib.hid ?_
    go_wp2
    go_ret2
    exact ⟨rfl, hb2⟩

/-- number, whatever the word -/
theorem number_any (g : Nat) (d : List UInt8) (hg : g < 18446744073709551616) (hd : d.length ≤ 4294967296) (w : World) (hE : Env w.heap.size w) :
    Calls Tryd.prog 30 #[.string (str d), .int .u64 g] w fun e w' => e = .returned (.tuple #[.int .u64 ((numLe g d).getD 0 : Nat), .bool (numLe g d).isSome]) ∧ Below w.heap.size w w' := by
  cases h : numLe g d with
  | none => exact number_no g d h hg hd w hE
  | some v => exact number_yes g v d h hg hd w hE

set_option maxHeartbeats 2000000 in
theorem keepOf_any (d : List UInt8) (hd : d.length ≤ 4294967296) (w : World) (hE : Env w.heap.size w) :
    Calls Tryd.prog 32 #[.string (str d)] w fun e w' => e = .returned (.tuple #[.int .i64 ((keepL d).getD 0), .bool (keepL d).isSome]) ∧ Below w.heap.size w w' := by
  by_cases h : d = [45]
  · have hb : ((str d).toList == [45]) = true := by rw [str_eqb]; simpa using h
    have HK : Hid (keepL d = some (-1)) := Lib.hid (by subst h; rfl)
    obtain ⟨X, HX⟩ : ∃ X, Hid (X = str d) := ⟨_, rfl⟩
    rw [← HX.out] at hb ⊢
    rw [HK.out]
    clear h hd hE
    go_enter Tryd.func32, Tryd.ntmps32
    go_wp2
    go_ret2
    exact ⟨rfl, Below.refl _ _⟩
  · have hb : ((str d).toList == [45]) = false := by rw [str_eqb]; simpa using h
    have HN := Lib.hid (number_any 254 d (by omega) hd w hE)
    obtain ⟨X, HX⟩ : ∃ X, Hid (X = str d) := ⟨_, rfl⟩
    obtain ⟨v, hv⟩ : ∃ v, (numLe 254 d).getD 0 = v := ⟨_, rfl⟩
    have hv2 : v ≤ 254 := by
      rw [← hv]
      cases hn : numLe 254 d with
      | none => simp
      | some u => simp; exact (numLe_some hn).2.1
    have HK : Hid ((.returned (.tuple #[.int .i64 (v : Int), .bool (numLe 254 d).isSome]) : Ending) = .returned (.tuple #[.int .i64 ((keepL d).getD 0), .bool (keepL d).isSome])) := by
      show _ = _
      unfold keepL
      rw [if_neg h, ← hv]
      cases numLe 254 d <;> rfl
    rw [hv] at HN
    obtain ⟨ok, hok⟩ : ∃ ok, (numLe 254 d).isSome = ok := ⟨_, rfl⟩
    rw [hok] at HN HK
    rw [← HX.out] at HN hb ⊢
    clear h hd hE hv hok
    go_enter Tryd.func32, Tryd.ntmps32
    go_wp2_with (go_at_call 30; refine HN.out.mono ?_; rintro e w2 ⟨rfl, hb2⟩; refine Hid.out ?_)
    refine Lib.hid ?_
    go_wp2
    go_ret2
    exact ⟨HK.out, hb2⟩
end Go.Proofs.YtbpobbadmbafaaaDoor
