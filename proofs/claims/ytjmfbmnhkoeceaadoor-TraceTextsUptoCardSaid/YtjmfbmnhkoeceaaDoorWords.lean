/-
  The walk through TraceWords: one word for each event, one for the ending.
-/
import Derived.Test.YtjmfbmnhkoeceaaDoorFirst
import Derived.Test.YtjmfbmnhkoeceaaDoorEq
import Derived.Deep.RegionHeld3
import Derived.BigGuardPart
namespace Go.Proofs.YtjmfbmnhkoeceaaDoor
set_option linter.unusedVariables false
open Go.ChangeShapes Go.WideShapes Go.ChangeAt Go.RowKit

theorem dec_digit (u : Nat) : ∀ b ∈ Lib.decDigits u, 48 ≤ b.toNat ∧ b.toNat ≤ 57 := by
  induction u using Nat.strongRecOn with
  | _ u ih =>
    intro b hb
    rw [Lib.decDigits] at hb
    split at hb
    · simp at hb
      subst hb
      simp
      omega
    · simp at hb
      rcases hb with hb | hb
      · exact ih (u / 10) (by omega) b hb
      · subst hb
        simp
        omega
theorem dec_ne (u : Nat) : 0 < (Lib.decDigits u).length := by
  rw [Lib.decDigits]
  split <;> simp
/-- how many blanks -/
def blanks (l : List UInt8) : Nat := l.count 32
theorem blanks_append (a b : List UInt8) : blanks (a ++ b) = blanks a + blanks b := List.count_append
theorem blanks_dec (u : Nat) : blanks (Lib.decDigits u) = 0 := by
  unfold blanks
  rw [List.count_eq_zero]
  intro h
  have := dec_digit u 32 h
  simp at this
theorem blanks_evW (x : Ev) : blanks (evW x) = 0 := by
  unfold evW numWord
  split
  · rw [blanks_append, blanks_dec]; rfl
  · split
    · rw [blanks_append, blanks_dec]; rfl
    · rfl
theorem blanks_endW (x : Ev) : blanks (endW x) = 0 := by
  unfold endW numWord
  split
  · rw [blanks_append, blanks_dec]; rfl
  · split
    · rw [blanks_append, blanks_dec]; rfl
    · split
      · rfl
      · split
        · rfl
        · split <;> rfl
theorem blanks_evs (l : List Ev) : blanks (evsW l) = l.length := by
  induction l with
  | nil => rfl
  | cons x l ih =>
    have e : evsW (x :: l) = (evW x ++ [32]) ++ evsW l := rfl
    rw [e, blanks_append, blanks_append, blanks_evW, ih, List.length_cons]
    simp [blanks]; omega
theorem blanks_print (l : List Ev) (e : Ev) : blanks (printL l e) = l.length := by
  unfold printL
  rw [blanks_append, blanks_evs, blanks_endW]; rfl
theorem endW_pos (e : Ev) : 0 < (endW e).length := by
  unfold endW numWord
  split
  · simp
  · split
    · simp
    · split
      · simp
      · split
        · simp
        · split <;> simp
theorem evsW_take (l : List Ev) (i : Nat) : evsW l = evsW (l.take i) ++ evsW (l.drop i) := by
  unfold evsW
  rw [← List.flatMap_append, List.take_append_drop]
theorem blanks_snoc (s : ByteArray) (k : Nat) (h : k < s.size) : blanks (s.data.toList.take (k + 1)) = blanks (s.data.toList.take k) + if s[k] = 32 then 1 else 0 := by
  have e : s.data.toList.take (k + 1) = s.data.toList.take k ++ [s[k]] := by
    rw [List.take_succ_eq_append_getElem (by simpa using h)]; rfl
  rw [e, blanks_append]
  unfold blanks
  split
  · rename_i h1; rw [h1]; rfl
  · rename_i h1; simp [h1]
theorem blanks_le (l : List UInt8) : blanks l ≤ l.length := List.count_le_length

theorem print_le (l : List Ev) (e : Ev) {B : Nat} {w : World} (hn : l.length ≤ 1048576) (hl : ∀ x ∈ l, EvOk B w x) (he : EvOk B w e) : (printL l e).length ≤ 30000000 := by
  have h1 := evsW_le l (fun x hx => by have := (hl x hx).1; have := (hl x hx).2.1; omega)
  have h2 := endW_le e (by have := he.1; have := he.2.1; omega)
  unfold printL
  rw [List.length_append]
  omega

theorem str_extract (l : List UInt8) (a b : Nat) : (str l).extract a b = str ((l.drop a).take (b - a)) := by
  apply ByteArray.ext
  simp [str, ByteArray.data_extract]

set_option maxHeartbeats 8000000 in
theorem words_walk (ao : Option Addr) (n c : Nat) (l : List Ev) (k u : Int) (x : Int) (w : World) (h : Reads w w.heap.size 2 ao n (evc l)) (hl : l.length = n) (hnc : n ≤ c) (hc : c ≤ 1048576)
    (hev : ∀ x ∈ l, EvOk w.heap.size w x) (he : EvOk w.heap.size w (k, u)) :
    Calls Tryd.prog 7 #[.slice ao n c, .agg #[.int .i64 k, .int .u64 u], .int .i64 x] w fun e w' => e = .returned (.bool true) ∧ Below w.heap.size w w' := by
  have HR := Lib.hid h
  have HL := Lib.hid hl
  have HE := Lib.hid hev
  have HF := Lib.hid he
  obtain ⟨i, hi, hie⟩ : ∃ i : Nat, i ≤ n ∧ wrap64 ((IntKind.u64.wrap x).tmod ((n : Int) + 1)) = i := by
    rw [IntKind.wrap_u64]
    have h0 : 0 ≤ x % 18446744073709551616 := Int.emod_nonneg _ (by omega)
    rw [Int.tmod_eq_emod_of_nonneg h0]
    have h1 := Int.emod_nonneg (x % 18446744073709551616) (show (n : Int) + 1 ≠ 0 by omega)
    have h2 := Int.emod_lt_of_pos (x % 18446744073709551616) (show (0 : Int) < (n : Int) + 1 by omega)
    generalize x % 18446744073709551616 % ((n : Int) + 1) = r at h1 h2
    exact ⟨r.toNat, by omega, by rw [IntWalk.wrap64_in r ⟨by omega, by omega⟩]; omega⟩
  have HI := Lib.hid hie
  clear h hl hev he hie
  go_enter Tryd.func7, Tryd.ntmps7
  go_wp2_with (go_at_call 9; refine (first_any _).mono ?_; rintro e w1 ⟨rfl, hb1⟩; refine Hid.out ?_)
  have d0 : w1.cell? ⟨w.heap.size, 0, none⟩ = some (.int .i64 k) := by rw [hb1.cell (p := ⟨w.heap.size, 0, none⟩) (by simp), (Blk.new w _ _).cell]; rfl
  have d1 : w1.cell? ⟨w.heap.size, 1, none⟩ = some (.int .u64 u) := by rw [hb1.cell (p := ⟨w.heap.size, 1, none⟩) (by simp), (Blk.new w _ _).cell]; rfl
  have hs1 : w.heap.size < w1.heap.size := by have := hb1.size; simp at this; omega
  have hb : Below w.heap.size w w1 := ((Below.refl _ _).alloc (Nat.le_refl _) _).trans (hb1.mono (by simp))
  have HP : Hid (∀ (A : Option Addr) (j d : Nat) (r : List Ev), Reads w w.heap.size 2 A j (evc r) → r.length = j → j ≤ 1048576 → (∀ x ∈ r, EvOk w.heap.size w x) → ∀ (W : World), (W.cell? ⟨w.heap.size, 0, none⟩ = some (.int .i64 k) ∧ W.cell? ⟨w.heap.size, 1, none⟩ = some (.int .u64 u) ∧ Below w1.heap.size w1 W) →
      Calls Tryd.prog 19 #[.slice A j d, .agg #[.int .i64 k, .int .u64 u]] W fun e W' => e = .returned (.string (str (printL r (k, u)))) ∧ (W'.cell? ⟨w.heap.size, 0, none⟩ = some (.int .i64 k) ∧ W'.cell? ⟨w.heap.size, 1, none⟩ = some (.int .u64 u) ∧ Below w1.heap.size w1 W')) := by
    intro A j d r hr hrl hj hok W ⟨g0, g1, hW⟩
    have hW2 : Below w.heap.size w W := hb.trans (hW.mono (by omega))
    have hws := hW.size
    refine (print_any A j d r k u W ((hr.below hW2).more hW2.size) hrl (by omega) (fun x hx => ⟨(hok x hx).1, (hok x hx).2.1, ((hok x hx).2.2.on hW2).more hW2.size⟩) ⟨HF.out.1, HF.out.2.1, (HF.out.2.2.on hW2).more hW2.size⟩).mono ?_
    rintro e W' ⟨rfl, hb'⟩
    exact ⟨rfl, by rw [hb'.cell (p := ⟨w.heap.size, 0, none⟩) (by show w.heap.size < W.heap.size; omega)]; exact g0, by rw [hb'.cell (p := ⟨w.heap.size, 1, none⟩) (by show w.heap.size < W.heap.size; omega)]; exact g1, hW.trans (hb'.mono hws)⟩
  have HB := Lib.hid hb
  have HP1 : Hid (∀ (W : World), (W.cell? ⟨w.heap.size, 0, none⟩ = some (.int .i64 k) ∧ W.cell? ⟨w.heap.size, 1, none⟩ = some (.int .u64 u) ∧ Below w1.heap.size w1 W) →
      Calls Tryd.prog 19 #[.slice ao n c, .agg #[.int .i64 k, .int .u64 u]] W fun e W' => e = .returned (.string (str (printL l (k, u)))) ∧ (W'.cell? ⟨w.heap.size, 0, none⟩ = some (.int .i64 k) ∧ W'.cell? ⟨w.heap.size, 1, none⟩ = some (.int .u64 u) ∧ Below w1.heap.size w1 W')) :=
    HP.out ao n c l HR.out HL.out (by omega) HE.out
  have HP2 : Hid (∀ (W : World), (W.cell? ⟨w.heap.size, 0, none⟩ = some (.int .i64 k) ∧ W.cell? ⟨w.heap.size, 1, none⟩ = some (.int .u64 u) ∧ Below w1.heap.size w1 W) →
      Calls Tryd.prog 19 #[.slice ao i c, .agg #[.int .i64 k, .int .u64 u]] W fun e W' => e = .returned (.string (str (printL (l.take i) (k, u)))) ∧ (W'.cell? ⟨w.heap.size, 0, none⟩ = some (.int .i64 k) ∧ W'.cell? ⟨w.heap.size, 1, none⟩ = some (.int .u64 u) ∧ Below w1.heap.size w1 W')) :=
    HP.out ao i c (l.take i) (HR.out.take HL.out hi) (by have := HL.out; rw [List.length_take]; omega) (by omega) (fun x hx => HE.out x (List.mem_of_mem_take hx))
  have HP3 : Hid (∀ (W : World), (W.cell? ⟨w.heap.size, 0, none⟩ = some (.int .i64 k) ∧ W.cell? ⟨w.heap.size, 1, none⟩ = some (.int .u64 u) ∧ Below w1.heap.size w1 W) →
      Calls Tryd.prog 19 #[.slice none 0 0, .agg #[.int .i64 k, .int .u64 u]] W fun e W' => e = .returned (.string (str (printL [] (k, u)))) ∧ (W'.cell? ⟨w.heap.size, 0, none⟩ = some (.int .i64 k) ∧ W'.cell? ⟨w.heap.size, 1, none⟩ = some (.int .u64 u) ∧ Below w1.heap.size w1 W')) :=
    HP.out none 0 0 [] Reads.none_ rfl (by omega) (fun x hx => by cases hx)
  have hb11 : Below w1.heap.size w1 w1.drew := (Below.refl _ _).drew
  have z1 : (0 : Int) ≤ (i : Int) := by omega
  have z2 : (i : Int) ≤ (c : Int) := by omega
  have z3 : (i : Int) ≤ (n : Int) := by omega
  clear hb1 hb HP
  refine Lib.hid ?_
  go_wp2
  rw [HI.out]
  go_region_held3 (fun W => W.cell? ⟨w.heap.size, 0, none⟩ = some (.int .i64 k) ∧ W.cell? ⟨w.heap.size, 1, none⟩ = some (.int .u64 u) ∧ Below w1.heap.size w1 W) ((first | assumption | (refine ⟨?_, ?_, ?_⟩ <;> assumption)))
    (first
      | (go_at_call 19; with_reducible refine (HP1.out _ (by first | assumption | (refine ⟨?_, ?_, ?_⟩ <;> assumption))).mono ?_; rintro e W' ⟨rfl, hS⟩)
      | (go_at_call 19; with_reducible refine (HP2.out _ (by first | assumption | (refine ⟨?_, ?_, ?_⟩ <;> assumption))).mono ?_; rintro e W' ⟨rfl, hS⟩))
  obtain ⟨g0, g1, hW⟩ := hS
  have hlp : (printL l (k, u)).length ≤ 30000000 := print_le l (k, u) (by have := HL.out; omega) HE.out HF.out
  have hlp2 : (printL (l.take i) (k, u)).length ≤ 30000000 := print_le _ (k, u) (by rw [List.length_take]; omega) (fun x hx => HE.out x (List.mem_of_mem_take hx)) HF.out
  obtain ⟨S1, HS1⟩ : ∃ S, Hid (S = str (printL l (k, u))) := ⟨_, rfl⟩
  obtain ⟨S2, HS2⟩ : ∃ S, Hid (S = str (printL (l.take i) (k, u))) := ⟨_, rfl⟩
  rw [← HS1.out, ← HS2.out]
  have hz1 : S1.size ≤ 30000000 := by rw [HS1.out, str_size]; exact hlp
  have hz2 : S2.size ≤ 30000000 := by rw [HS2.out, str_size]; exact hlp2
  have HG0 := Lib.hid g0
  have HG1 := Lib.hid g1
  have HWW := Lib.hid hW
  clear g0 g1 hW hlp hlp2 d0 d1
  go_wp2
  go_loop [10, 11] (fun c i => ∃ j : Nat, j ≤ S1.size ∧ i = .int .i64 j ∧ ∃ b : Nat, b ≤ j ∧ Hid (b = blanks (S1.data.toList.take j)) ∧ c = .int .i64 b) (fun _ i => S1.size - (intOf i).toNat)
  case atStart => exact ⟨0, Nat.zero_le _, rfl, 0, Nat.le_refl _, by show 0 = blanks _; rw [List.take_zero]; rfl, rfl⟩
  case round =>
    obtain ⟨j, hj, rfl, b, hbj, HBj, rfl⟩ := hrel
    by_cases hlt : j < S1.size
    · have hsn := blanks_snoc S1 j hlt
      by_cases h32 : S1[j] = 32
      · have hq : ((S1[j].toNat : Int) == 32) = true := by rw [h32]; rfl
        have HN : Hid (b + 1 = blanks (S1.data.toList.take (j + 1))) := by rw [hsn, if_pos h32, ← HBj.out]; rfl
        clear hsn h32
        go_wp2
        go_round
        case rel => exact ⟨j + 1, by omega, by go_num, b + 1, by omega, HN, by go_num⟩
        case measure => simp [intOf]; omega
      · have hq : ((S1[j].toNat : Int) == 32) = false := by
          simp only [beq_eq_false_iff_ne, ne_eq]
          intro e
          exact h32 (UInt8.toNat_inj.1 (by simpa using (by omega : S1[j].toNat = 32)))
        have HN : Hid (b = blanks (S1.data.toList.take (j + 1))) := by rw [hsn, if_neg h32, ← HBj.out]; rfl
        clear hsn h32
        go_wp2
        go_round
        case rel => exact ⟨j + 1, by omega, by go_num, b, by omega, HN, rfl⟩
        case measure => simp [intOf]; omega
    · obtain rfl : j = S1.size := by omega
      have hbn : b = n := by
        have h1 : S1.data.toList.take S1.size = printL l (k, u) := by
          have e : S1.data.toList = printL l (k, u) := by rw [HS1.out]; simp [str]
          rw [List.take_of_length_le (by rw [e, HS1.out, str_size]; exact Nat.le_refl _), e]
        rw [HBj.out, h1, blanks_print, HL.out]
      subst hbn
      have c0 := HG0.out
      have c1 := HG1.out
      go_wp2_with (go_at_call 19; refine (HP3.out _ ⟨HG0.out, HG1.out, HWW.out⟩).mono ?_; rintro e W2 ⟨rfl, hS2⟩; refine Hid.out ?_)
      obtain ⟨S3, HS3⟩ : ∃ S, Hid (S = str (printL [] (k, u))) := ⟨_, rfl⟩
      rw [← HS3.out]
      have hz3 : S3.size ≤ 26 := by
        rw [HS3.out, str_size]
        exact endW_le (k, u) (by have := HF.out.1; have := HF.out.2.1; omega)
      have h12 : S2.size = (evsW (l.take i)).length + S3.size := by
        rw [HS2.out, HS3.out, str_size, str_size]
        unfold printL
        rw [List.length_append]; rfl
      have hhd : ((S2.size : Int) - (S3.size : Int)) = ((evsW (l.take i)).length : Int) := by omega
      obtain ⟨hh, HH⟩ : ∃ hh, Hid (hh = (evsW (l.take i)).length) := ⟨_, rfl⟩
      rw [← HH.out] at hhd h12
      have h13 : hh ≤ S1.size := by
        rw [HH.out, HS1.out, str_size]
        unfold printL
        rw [evsW_take l i, List.length_append, List.length_append]
        omega
      have h14 : hh ≤ S2.size := by omega
      have h15 : 0 < S3.size := by rw [HS3.out, str_size]; exact endW_pos _
      have H12 := Lib.hid h12
      have HD := Lib.hid hhd
      have q1 : IntKind.i64.wrap ((S2.size : Int) - (S3.size : Int)) = (hh : Int) := by rw [hhd]; exact IntWalk.i64_in _ (by omega)
      clear h12 hhd
      refine Lib.hid ?_
      go_wp2
      have e1 : decide ((0 : Int) ≤ (hh : Int)) = true := by simp
      have e2 : (0 : Int) ≤ (hh : Int) := by omega
      have e3 : (hh : Int) ≤ (S2.size : Int) := by omega
      have e4 : (hh : Int) ≤ (S1.size : Int) := by omega
      have e5 : decide ((0 : Int) < (S3.size : Int)) = true := by simp; omega
      have x2 : S2.extract hh S2.size = S3 := by
        rw [HS2.out, HS3.out, str_extract, HH.out]
        unfold printL
        rw [str_size, List.drop_left, List.take_of_length_le (by simp)]
        rfl
      have x3 : S1.extract 0 hh = S2.extract 0 hh := by
        rw [HS1.out, HS2.out, str_extract, str_extract, HH.out]
        unfold printL
        rw [evsW_take l i, List.append_assoc, List.drop_zero, List.drop_zero, Nat.sub_zero, List.take_left, List.take_left]
      have q2 : ((S2.extract hh S2.size).toList == S3.toList) = true := by rw [x2]; simp
      have q3 : ((S1.extract 0 hh).toList == (S2.extract 0 hh).toList) = true := by rw [x3]; simp
      clear x2 x3
      go_quiet (fail)
      go_wp2
      go_ret
      exact ⟨rfl, below_drewN (HB.out.trans (hS2.2.2.mono (by omega))) _⟩
end Go.Proofs.YtjmfbmnhkoeceaaDoor
