/-
  The document's answer for Print: Number and Text.
-/
import Derived.Test.YtjmfbmnhkoeceaaDoorNum
namespace Go.Proofs.YtjmfbmnhkoeceaaDoor
set_option linter.unusedVariables false
open Go.ChangeShapes Go.WideShapes Go.ChangeAt Go.RowKit

theorem one_string (w : World) (x : Nat) (hx : x ≤ 9) : (convert 59 9 (.slice (some ⟨w.heap.size, 0, none⟩) 1 1)).run Tryd.prog (w.alloc (.cells #[.int .u8 (48 + (x : Int))] 5)) = .ok (.string (str [UInt8.ofNat (48 + x)])) (w.alloc (.cells #[.int .u8 (48 + (x : Int))] 5)) := by
  have h := run_convert_bytes_back (P := Tryd.prog) (w.alloc (.cells #[.int .u8 (48 + (x : Int))] 5)) 59 9 5 ⟨w.heap.size, 0, none⟩ 1 [UInt8.ofNat (48 + x)] Tryd.underlying59 Tryd.underlying5 Tryd.underlying9 (fun j hj => by
    simp only [List.length_cons, List.length_nil] at hj
    obtain rfl : j = 0 := by omega
    have ea : (⟨w.heap.size, 0, none⟩ : Addr).add 0 = ⟨w.heap.size, 0, none⟩ := by simp [Addr.add]
    rw [ea, (Blk.new w _ _).cell]
    have := dig_val x (by omega)
    simp only [List.getElem_cons_zero, this]
    rfl)
  exact h

set_option maxHeartbeats 2000000 in
theorem number_any (u : Nat) (hu : u < 18446744073709551616) (w : World) :
    Calls Tryd.prog 31 #[.int .u64 u] w fun e w' => e = .returned (.string (str (Lib.decDigits u))) ∧ Below w.heap.size w w' := by
  have hul := nDigits_le u hu
  have HUU := Lib.hid hu
  clear hu
  go_enter Tryd.func31, Tryd.ntmps31
  go_wp2
  go_loopw [0, 3] (fun n s wr => ∃ (z : Int) (m : Nat) (acc : List UInt8), 0 ≤ z ∧ z ≤ 18446744073709551615 ∧ Hid (z = (m : Int)) ∧ n = .int .u64 z ∧ s = .string (str acc) ∧ Hid (Lib.decDigits u = Lib.decDigits m ++ acc) ∧ Hid (Below w.heap.size w wr)) (fun n _ _ => (intOf n).toNat)
  case atStart => exact ⟨u, u, [], Int.natCast_nonneg u, by have := HUU.out; omega, rfl, rfl, rfl, by show _ = _; rw [List.append_nil], Below.refl _ _⟩
  case round =>
    obtain ⟨z, m, acc, hz0, hz1, HZ, rfl, rfl, HD, HW⟩ := hrel
    have hal : (str acc).size ≤ 20 := by
      rw [str_size]
      have := congrArg List.length HD.out
      rw [List.length_append] at this
      omega
    obtain ⟨x, hx, hmx⟩ : ∃ x : Nat, x ≤ 9 ∧ m % 10 = x := ⟨m % 10, by omega, rfl⟩
    have hx2 : z % 10 = (x : Int) := by have := HZ.out; omega
    have hcv := one_string wr x hx
    obtain ⟨S, HS⟩ : ∃ S, Hid (S = str acc) := ⟨_, rfl⟩
    obtain ⟨T, HT⟩ : ∃ T, Hid (T = str [UInt8.ofNat (48 + x)]) := ⟨_, rfl⟩
    rw [← HS.out] at hal ⊢
    rw [← HT.out] at hcv
    have htl : T.size = 1 := by rw [HT.out]; rfl
    have HMX := Lib.hid hmx
    clear hmx
    by_cases hlt : z < 10
    · have hm : m < 10 := by have := HZ.out; omega
      have HE : Hid (T ++ S = str (Lib.decDigits u)) := by
        show _ = _
        rw [HT.out, HS.out, str_append, HD.out, Lib.decDigits_one hm]
        have : x = m := by have := HMX.out; omega
        rw [this]
      have hq : z / 10 = 0 := by omega
      clear hm
      go_wp2
      go_ret
      exact ⟨ret_str HE.out, HW.out.alloc HW.out.size _⟩
    · have hm : ¬ m < 10 := by have := HZ.out; omega
      have HE : Hid (T ++ S = str (UInt8.ofNat (48 + x) :: acc)) := by
        show _ = _
        rw [HT.out, HS.out, str_append]; rfl
      have HDn : Hid (Lib.decDigits u = Lib.decDigits (m / 10) ++ (UInt8.ofNat (48 + x) :: acc)) := by
        show _ = _
        rw [HD.out, ← HMX.out]
        conv => lhs; rw [Lib.decDigits, dif_neg hm]
        simp
      obtain ⟨q, hq, hq0, hqz⟩ : ∃ q : Int, z / 10 = q ∧ 1 ≤ q ∧ q < z := ⟨z / 10, rfl, by omega, by omega⟩
      have HQ : Hid (q = ((m / 10 : Nat) : Int)) := by show _ = _; have := HZ.out; omega
      have hb : (q == 0) = false := by simp only [beq_eq_false_iff_ne, ne_eq]; omega
      clear hlt hm
      go_wp2
      go_roundw
      case rel => exact ⟨q, m / 10, _, by omega, by omega, HQ, by rw [hq], by rw [HE.out], HDn, HW.out.alloc HW.out.size _⟩
      case measure => simp [intOf]; omega

/-- a text of so many bytes, behind what there is -/
theorem add_str (a b : List UInt8) : str a ++ str b = str (a ++ b) := str_append a b

set_option maxHeartbeats 4000000 in
theorem text_any (ao : Option Addr) (n c : Nat) (l : List Ev) (ek : Int) (eu : Int) (w : World) (h : Reads w w.heap.size 2 ao n (evc l)) (hl : l.length = n) (hn : n ≤ 1099511627776)
    (hev : ∀ x ∈ l, 0 ≤ x.2 ∧ x.2 < 18446744073709551616) (he : 0 ≤ eu ∧ eu < 18446744073709551616) :
    Calls Tryd.prog 20 #[.slice ao n c, .agg #[.int .i64 ek, .int .u64 eu]] w fun e w' => e = .returned (.string (str (printL l (ek, eu)))) ∧ Below w.heap.size w w' := by
  have HR := Lib.hid h
  have HL := Lib.hid hl
  have HE := Lib.hid hev
  obtain ⟨u, rfl⟩ : ∃ u : Nat, eu = u := ⟨eu.toNat, by omega⟩
  have HU : Hid (u < 18446744073709551616) := Lib.hid (by omega)
  clear h hl hev he
  go_enter Tryd.func20, Tryd.ntmps20
  go_wp2
  go_loopw [5, 10] (fun s i wr => ∃ k : Nat, k ≤ n ∧ i = .int .i64 k ∧ s = .string (str (evsW (l.take k))) ∧ Hid (Below (w.heap.size + 1) (w.alloc (.cells #[.int .i64 ek, .int .u64 u] 38)) wr)) (fun _ i _ => n - (intOf i).toNat)
  case atStart => exact ⟨0, Nat.zero_le _, rfl, rfl, Below.refl _ _⟩
  case round =>
    obtain ⟨k, hk, rfl, rfl, HB⟩ := hrel
    have hsz := HB.out.size
    simp only [World.size_alloc] at hsz
    have hw : Below w.heap.size w wr := ((Below.refl _ _).alloc (Nat.le_refl _) _).trans (HB.out.mono (by omega))
    have hlk : (str (evsW (l.take k))).size ≤ 27487790694400 := by
      have h := evsW_le (l.take k) (fun x hx => by have := HE.out x (List.mem_of_mem_take hx); omega)
      rw [List.length_take] at h
      rw [str_size]
      omega
    obtain ⟨S, HS⟩ : ∃ S, Hid (S = str (evsW (l.take k))) := ⟨_, rfl⟩
    rw [← HS.out] at hlk ⊢
    by_cases hlt : k < n
    · obtain ⟨b1, o1, x, rfl, hb1, HX, x1, x2⟩ := (HR.out.below hw).ev HL.out hlt
      have hxm : x ∈ l := List.mem_of_getElem? HX.out
      obtain ⟨xk, xv⟩ := x
      obtain ⟨hx0, hx1⟩ := HE.out _ hxm
      simp only at hx0 hx1 x1 x2
      obtain ⟨xu, rfl⟩ : ∃ xu : Nat, xv = xu := ⟨xv.toNat, by omega⟩
      have hxu : xu < 18446744073709551616 := by omega
      have HXU := Lib.hid hxu
      have HSn : Hid (str (evsW (l.take (k + 1))) = S ++ (str (evW (xk, (xu : Int))) ++ str [32])) := by
        show _ = _
        rw [evsW_snoc _ _ _ HX.out, HS.out, str_append, str_append, List.append_assoc]
      have hdl := nDigits_le xu hxu
      obtain ⟨D, HD⟩ : ∃ D, Hid (D = str (Lib.decDigits xu)) := ⟨_, rfl⟩
      have hDs : D.size ≤ 20 := by rw [HD.out, str_size]; exact hdl
      clear hx0 hx1 hxm hw hxu hdl
      by_cases h1 : xk = 1
      · subst h1
        have HT : Hid (S ++ (⟨#[111, 117, 116, 61]⟩ ++ D ++ ⟨#[32]⟩) = str (evsW (l.take (k + 1)))) := by
          show _ = _
          rw [HSn.out, HD.out]
          exact congrArg (S ++ ·) (congrArg (· ++ str [32]) (str_append [111, 117, 116, 61] (Lib.decDigits xu)))
        go_wp2_with (go_at_call 31; refine (number_any xu HXU.out _).mono ?_; rintro e w2 ⟨rfl, hb2⟩; rw [← HD.out]; refine Hid.out ?_)
        have HBn : Hid (Below (w.heap.size + 1) (w.alloc (.cells #[.int .i64 ek, .int .u64 u] 38)) w2) := (HB.out.alloc (by omega) _).trans (hb2.mono (by simp; omega))
        refine Lib.hid ?_
        go_wp2
        go_roundw
        case rel => exact ⟨k + 1, by omega, by go_num, by rw [HT.out], HBn⟩
        case measure => simp [intOf]; omega
      · by_cases h2 : xk = 2
        · subst h2
          have HT : Hid (S ++ (⟨#[105, 110, 61]⟩ ++ D ++ ⟨#[32]⟩) = str (evsW (l.take (k + 1)))) := by
            show _ = _
            rw [HSn.out, HD.out]
            exact congrArg (S ++ ·) (congrArg (· ++ str [32]) (str_append [105, 110, 61] (Lib.decDigits xu)))
          go_wp2_with (go_at_call 31; refine (number_any xu HXU.out _).mono ?_; rintro e w2 ⟨rfl, hb2⟩; rw [← HD.out]; refine Hid.out ?_)
          have HBn : Hid (Below (w.heap.size + 1) (w.alloc (.cells #[.int .i64 ek, .int .u64 u] 38)) w2) := (HB.out.alloc (by omega) _).trans (hb2.mono (by simp; omega))
          refine Lib.hid ?_
          go_wp2
          go_roundw
          case rel => exact ⟨k + 1, by omega, by go_num, by rw [HT.out], HBn⟩
          case measure => simp [intOf]; omega
        · have hr : evW (xk, (xu : Int)) = [63] := by simp [evW, h1, h2]
          have b1 : (xk == 1) = false := by simpa using h1
          have b2 : (xk == 2) = false := by simpa using h2
          have HT : Hid (S ++ ⟨#[63, 32]⟩ = str (evsW (l.take (k + 1)))) := by
            show _ = _
            rw [HSn.out, hr, str_append]; rfl
          have HBn : Hid (Below (w.heap.size + 1) (w.alloc (.cells #[.int .i64 ek, .int .u64 u] 38)) (wr.alloc (.cells #[.int .i64 xk, .int .u64 xu] 31))) := HB.out.alloc (by omega) _
          clear hr
          go_wp2
          go_roundw
          case rel => exact ⟨k + 1, by omega, by go_num, by rw [HT.out], HBn⟩
          case measure => simp [intOf]; omega
    · obtain rfl : k = n := by omega
      have c0 : wr.cell? ⟨w.heap.size, 0, none⟩ = some (.int .i64 ek) := by rw [HB.out.cell (p := ⟨w.heap.size, 0, none⟩) (by simp), (Blk.new w _ _).cell]; rfl
      have c1 : wr.cell? ⟨w.heap.size, 1, none⟩ = some (.int .u64 u) := by rw [HB.out.cell (p := ⟨w.heap.size, 1, none⟩) (by simp), (Blk.new w _ _).cell]; rfl
      have hfull : l.take k = l := by rw [← HL.out]; exact List.take_length
      have HSl : Hid (S = str (evsW l)) := by
        show _ = _
        rw [HS.out, hfull]
      have HW := Lib.hid hw
      have hdl := nDigits_le u HU.out
      obtain ⟨D, HD⟩ : ∃ D, Hid (D = str (Lib.decDigits u)) := ⟨_, rfl⟩
      have hDs : D.size ≤ 20 := by rw [HD.out, str_size]; exact hdl
      clear hw hdl hfull hlt
      by_cases h1 : ek = 1
      · subst h1
        have HT : Hid (S ++ ⟨#[101, 120, 105, 116, 61]⟩ ++ D = str (printL l (1, (u : Int)))) := by
          show _ = _
          rw [HSl.out, HD.out]
          exact (congrArg (· ++ str (Lib.decDigits u)) (str_append (evsW l) [101, 120, 105, 116, 61])).trans ((str_append _ _).trans (by rw [List.append_assoc]; rfl))
        go_wp2_with (go_at_call 31; refine (number_any u HU.out _).mono ?_; rintro e w2 ⟨rfl, hb2⟩; rw [← HD.out]; refine Hid.out ?_)
        have HBn := Lib.hid (HW.out.trans (hb2.mono HW.out.size))
        refine Lib.hid ?_
        go_wp2
        go_ret
        exact ⟨ret_str HT.out, HBn.out⟩
      · by_cases h2 : ek = 2
        · subst h2
          have HT : Hid (S ++ ⟨#[112, 97, 110, 105, 99, 61]⟩ ++ D = str (printL l (2, (u : Int)))) := by
            show _ = _
            rw [HSl.out, HD.out]
            exact (congrArg (· ++ str (Lib.decDigits u)) (str_append (evsW l) [112, 97, 110, 105, 99, 61])).trans ((str_append _ _).trans (by rw [List.append_assoc]; rfl))
          go_wp2_with (go_at_call 31; refine (number_any u HU.out _).mono ?_; rintro e w2 ⟨rfl, hb2⟩; rw [← HD.out]; refine Hid.out ?_)
          have HBn := Lib.hid (HW.out.trans (hb2.mono HW.out.size))
          refine Lib.hid ?_
          go_wp2
          go_ret
          exact ⟨ret_str HT.out, HBn.out⟩
        · have b1 : (ek == 1) = false := by simpa using h1
          have b2 : (ek == 2) = false := by simpa using h2
          by_cases h3 : ek = 3
          · subst h3
            have HT : Hid (S ++ ⟨#[102, 117, 101, 108]⟩ = str (printL l (3, (u : Int)))) := by
              show _ = _
              rw [HSl.out]
              exact str_append (evsW l) [102, 117, 101, 108]
            go_wp2
            go_ret
            exact ⟨ret_str HT.out, HW.out⟩
          · by_cases h4 : ek = 4
            · subst h4
              have HT : Hid (S ++ ⟨#[115, 116, 97, 99, 107]⟩ = str (printL l (4, (u : Int)))) := by
                show _ = _
                rw [HSl.out]
                exact str_append (evsW l) [115, 116, 97, 99, 107]
              go_wp2
              go_ret
              exact ⟨ret_str HT.out, HW.out⟩
            · by_cases h5 : ek = 5
              · subst h5
                have HT : Hid (S ++ ⟨#[115, 116, 117, 99, 107]⟩ = str (printL l (5, (u : Int)))) := by
                  show _ = _
                  rw [HSl.out]
                  exact str_append (evsW l) [115, 116, 117, 99, 107]
                go_wp2
                go_ret
                exact ⟨ret_str HT.out, HW.out⟩
              · have b3 : (ek == 3) = false := by simpa using h3
                have b4 : (ek == 4) = false := by simpa using h4
                have b5 : (ek == 5) = false := by simpa using h5
                have hr : endW (ek, (u : Int)) = [63] := by simp [endW, h1, h2, h3, h4, h5]
                have HT : Hid (S ++ ⟨#[63]⟩ = str (printL l (ek, (u : Int)))) := by
                  show _ = _
                  rw [HSl.out]
                  unfold printL
                  rw [hr]
                  exact str_append (evsW l) [63]
                clear hr
                go_wp2
                go_ret
                exact ⟨ret_str HT.out, HW.out⟩
end Go.Proofs.YtjmfbmnhkoeceaaDoor
