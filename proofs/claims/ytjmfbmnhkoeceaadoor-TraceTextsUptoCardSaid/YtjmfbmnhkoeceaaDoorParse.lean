/-
  Package trace's reading of words: numberBehind, eventOf, endOf.
-/
import Derived.Test.YtjmfbmnhkoeceaaDoorText
import Derived.Test.YtjmfbmnhkoeceaaDoorShelfP
namespace Go.Proofs.YtjmfbmnhkoeceaaDoor
set_option linter.unusedVariables false
open Go.ChangeShapes Go.WideShapes Go.ChangeAt Go.RowKit

/-- what the library's variables hold -/
structure Vars (w : World) : Prop where
  tab : Lib.TabIs Tryd.prog w "internal/strconv.uint64pow10" .u64 Lib.pow10Tab
  syn : ∃ tp p, w.var? Tryd.prog "strconv.ErrSyntax" = some #[.iface tp p]
  rng : ∃ tp p, w.var? Tryd.prog "strconv.ErrRange" = some #[.iface tp p]
  cut : ∃ m, w.cell? ⟨0, 0, none⟩ = some (.int .i64 m)
/-- .. whatever is done from block B on -/
def Env (B : Nat) (w : World) : Prop := ∀ w', Below B w w' → Vars w'
theorem Env.here {B : Nat} {w : World} (h : Env B w) : Vars w := h w (Below.refl _ _)
theorem Env.on {B : Nat} {w w' : World} (h : Env B w) (hb : Below B w w') : Env B w' := fun w2 h2 => h w2 (hb.trans h2)
theorem Env.more {B B' : Nat} {w : World} (h : Env B w) (hB : B ≤ B') : Env B' w := fun w2 h2 => h w2 (h2.mono hB)
theorem Env.tabFor {B : Nat} {w : World} (h : Env B w) (u : Nat) : TabFor w u := .inr h.here.tab

theorem str_list (l : List UInt8) : (str l).data.toList = l := by simp [str]
theorem prefix_yes (p wd : List UInt8) (h : p.isPrefixOf wd = true) (w : World) :
    Calls Tryd.prog 45 #[.string (str wd), .string (str p)] w fun e w' => e = .returned (.tuple #[.string (str (wd.drop p.length)), .bool true]) ∧ w = w' := by
  refine (Tryd.strings_CutPrefix (str wd) (str p) w).mono ?_
  rintro e w' ⟨rfl, rfl⟩
  refine ⟨?_, rfl⟩
  rw [str_list, str_list]
  unfold Lib.trimPrefix Lib.hasPrefix
  rw [h]
  rfl
theorem prefix_no (p wd : List UInt8) (h : p.isPrefixOf wd = false) (w : World) :
    Calls Tryd.prog 45 #[.string (str wd), .string (str p)] w fun e w' => e = .returned (.tuple #[.string (str wd), .bool false]) ∧ w = w' := by
  refine (Tryd.strings_CutPrefix (str wd) (str p) w).mono ?_
  rintro e w' ⟨rfl, rfl⟩
  refine ⟨?_, rfl⟩
  rw [str_list, str_list]
  unfold Lib.trimPrefix Lib.hasPrefix
  rw [h]
  rfl
theorem bytes_below (w : World) (s : ByteArray) : Below w.heap.size w (Lib.bytesWorld w 5 s) := Lib.bytesWorld_below _ _ _
/-- ParseUint at a numeral -/
theorem parse_ok (d : List UInt8) (u : Nat) (h : Lib.parseUintB 64 d = .ok u) (hd : d.length ≤ 1073741824) (w : World) :
    Calls Tryd.prog 46 #[.string (str d), .int .i64 10, .int .i64 64] w fun e w' => e = .returned (.tuple #[.int .u64 u, .nilIface]) ∧ Below w.heap.size w w' := by
  refine (Tryd.strconv_ParseUint_10_at64_ok (str d) (by rw [str_size]; omega) u (by rw [str_list]; exact h) w).mono ?_
  rintro e w' ⟨rfl, hw⟩
  refine ⟨rfl, ?_⟩
  rcases hw with rfl | rfl
  · exact Below.refl _ _
  · exact bytes_below _ _
/-- .. and at every other text -/
theorem parse_err (d : List UInt8) (h : ∀ u, Lib.parseUintB 64 d ≠ .ok u) (hd : d.length ≤ 1073741824) (w : World) (hV : Vars w) :
    Calls Tryd.prog 46 #[.string (str d), .int .i64 10, .int .i64 64] w fun e w' => ∃ (x : Int) (N : Nat), e = .returned (.tuple #[.int .u64 x, .iface 110 (.pointer (some ⟨N, 0, none⟩))]) ∧ Below w.heap.size w w' := by
  obtain ⟨tp, p, hs⟩ := hV.syn
  obtain ⟨tq, q, hr⟩ := hV.rng
  cases hh : Lib.parseUintB 64 d with
  | ok u => exact absurd hh (h u)
  | range =>
    refine (Tryd.strconv_ParseUint_10_at64_range_var (str d) (by rw [str_size]; omega) (by rw [str_list]; exact hh) tq q w hr).mono ?_
    rintro e w' ⟨N, rfl, _, _, hb⟩
    exact ⟨_, N, rfl, hb⟩
  | _ =>
    refine (Tryd.strconv_ParseUint_10_at64_syntax_var (str d) (by rw [str_size]; omega) (by rw [str_list]; exact hh) tp p w hs).mono ?_
    rintro e w' ⟨N, rfl, _, _, hb⟩
    exact ⟨_, N, rfl, hb⟩

set_option maxHeartbeats 2000000 in
theorem num_yes (p wd : List UInt8) (v : Nat) (h : numB p wd = some v) (hd : wd.length ≤ 1073741824) (w : World) (hE : Env w.heap.size w) :
    Calls Tryd.prog 41 #[.string (str wd), .string (str p)] w fun e w' => e = .returned (.tuple #[.int .u64 v, .bool true]) ∧ Below w.heap.size w w' := by
  have HE := Lib.hid hE
  have hp : p.isPrefixOf wd = true := by
    unfold numB at h
    split at h
    · assumption
    · cases h
  have hn : numOf (wd.drop p.length) = some v := by
    unfold numB at h
    rw [hp] at h
    exact h
  obtain ⟨h1, h2⟩ := numOf_some hn
  have HP := Lib.hid (prefix_yes p wd hp)
  have HD : Hid (∀ w, Calls Tryd.prog 46 #[.string (str (wd.drop p.length)), .int .i64 10, .int .i64 64] w fun e w' => e = .returned (.tuple #[.int .u64 v, .nilIface]) ∧ Below w.heap.size w w') :=
    parse_ok _ v (by rw [← h1]; exact parse_dec h2) (by rw [List.length_drop]; omega)
  have HH : Hid (str (Lib.decDigits v) = str (wd.drop p.length)) := by show _ = _; rw [h1]
  have H2 := Lib.hid h2
  obtain ⟨X, HX⟩ : ∃ X, Hid (X = str (wd.drop p.length)) := ⟨_, rfl⟩
  rw [← HX.out] at HP HD HH
  clear h hp hn h1 h2 hE
  go_enter Tryd.func41, Tryd.ntmps41
  go_wp2_with (go_at_call 45; refine (HP.out _).mono ?_; rintro e w' ⟨rfl, rfl⟩; refine Hid.out ?_)
  refine Lib.hid ?_
  go_wp2_with (go_at_call 46; refine (HD.out _).mono ?_; rintro e w2 ⟨rfl, hb2⟩; refine Hid.out ?_)
  refine Lib.hid ?_
  go_wp2_with (go_at_call 39; refine (fmt_any v H2.out _ ((HE.out.on hb2).tabFor v)).mono ?_; rintro e w3 ⟨rfl, hb3⟩; rw [show (⟨(Lib.decDigits v).toArray⟩ : ByteArray) = X from HH.out]; refine Hid.out ?_)
  have hs2 := hb2.size
  refine Lib.hid ?_
  go_wp2
  go_ret2
  exact ⟨rfl, hb2.trans (hb3.mono hs2)⟩

set_option maxHeartbeats 2000000 in
theorem num_no (p wd : List UInt8) (h : numB p wd = none) (hd : wd.length ≤ 1073741824) (w : World) (hE : Env w.heap.size w) :
    Calls Tryd.prog 41 #[.string (str wd), .string (str p)] w fun e w' => e = .returned (.tuple #[.int .u64 0, .bool false]) ∧ Below w.heap.size w w' := by
  have HE := Lib.hid hE
  clear hE
  by_cases hp : p.isPrefixOf wd = true
  · have HP := Lib.hid (prefix_yes p wd hp)
    have hn : numOf (wd.drop p.length) = none := by
      unfold numB at h
      rw [hp] at h
      exact h
    have hlen : (wd.drop p.length).length ≤ 1073741824 := by rw [List.length_drop]; omega
    obtain ⟨d, HDD⟩ : ∃ d, Hid (d = wd.drop p.length) := ⟨_, rfl⟩
    rw [← HDD.out] at HP hn hlen
    clear h hp
    by_cases hok : ∃ u, Lib.parseUintB 64 d = .ok u
    · obtain ⟨u, hu⟩ := hok
      have hu64 : u < 18446744073709551616 := by have := Lib.parseUintB_le hu; omega
      have HD := Lib.hid (parse_ok d u hu hlen)
      have hne : Lib.decDigits u ≠ d := by
        intro e
        rw [← e, numOf_dec hu64] at hn
        cases hn
      have hb : ((⟨(Lib.decDigits u).toArray⟩ : ByteArray).toList == (str d).toList) = false := by
        simp only [beq_eq_false_iff_ne, ne_eq]
        intro e
        rw [ByteArray.toList_eq, ByteArray.toList_eq] at e
        apply hne
        simpa [str] using e
      have HH := Lib.hid hu64
      obtain ⟨X, HX⟩ : ∃ X, Hid (X = str d) := ⟨_, rfl⟩
      obtain ⟨Y, HY⟩ : ∃ Y, Hid (Y = (⟨(Lib.decDigits u).toArray⟩ : ByteArray)) := ⟨_, rfl⟩
      rw [← HX.out] at HP HD hb
      rw [← HY.out] at hb
      clear hu hu64 hne hn hlen
      go_enter Tryd.func41, Tryd.ntmps41
      go_wp2_with (go_at_call 45; refine (HP.out _).mono ?_; rintro e w' ⟨rfl, rfl⟩; refine Hid.out ?_)
      refine Lib.hid ?_
      go_wp2_with (go_at_call 46; refine (HD.out _).mono ?_; rintro e w2 ⟨rfl, hb2⟩; refine Hid.out ?_)
      refine Lib.hid ?_
      go_wp2_with (go_at_call 39; refine (fmt_any u HH.out _ ((HE.out.on hb2).tabFor u)).mono ?_; rintro e w3 ⟨rfl, hb3⟩; rw [← HY.out]; refine Hid.out ?_)
      have hs2 := hb2.size
      refine Lib.hid ?_
      go_wp2
      go_ret2
      exact ⟨rfl, hb2.trans (hb3.mono hs2)⟩
    · have HD := Lib.hid (fun w => parse_err d (fun u hu => hok ⟨u, hu⟩) hlen w)
      obtain ⟨X, HX⟩ : ∃ X, Hid (X = str d) := ⟨_, rfl⟩
      rw [← HX.out] at HP HD
      clear hok hn hlen
      go_enter Tryd.func41, Tryd.ntmps41
      go_wp2_with (go_at_call 45; refine (HP.out _).mono ?_; rintro e w' ⟨rfl, rfl⟩; refine Hid.out ?_)
      refine Lib.hid ?_
      go_wp2_with (go_at_call 46; refine (HD.out _ HE.out.here).mono ?_; rintro e w2 ⟨x, N, rfl, hb2⟩; refine Hid.out ?_)
      refine Lib.hid ?_
      go_wp2
      go_ret2
      exact ⟨rfl, hb2⟩
  · have hp0 : p.isPrefixOf wd = false := Bool.eq_false_iff.2 hp
    have HP := Lib.hid (prefix_no p wd hp0)
    clear h hp hp0
    go_enter Tryd.func41, Tryd.ntmps41
    go_wp2_with (go_at_call 45; refine (HP.out _).mono ?_; rintro e w' ⟨rfl, rfl⟩; refine Hid.out ?_)
    refine Lib.hid ?_
    go_wp2
    go_ret2
    exact ⟨rfl, Below.refl _ _⟩
end Go.Proofs.YtjmfbmnhkoeceaaDoor
