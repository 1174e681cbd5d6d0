/-
  The document's answer for words: behind, value.
-/
import Derived.Test.YtjmfbmnhkoeceaaDoorRead
namespace Go.Proofs.YtjmfbmnhkoeceaaDoor
set_option linter.unusedVariables false
open Go.ChangeShapes Go.WideShapes Go.ChangeAt Go.RowKit

theorem ext_list (l : List UInt8) (n : Nat) : ((str l).extract 0 n).toList = l.take n := by
  rw [str_extract, ByteArray.toList_eq]
  simp [str]
theorem str_toList (l : List UInt8) : (str l).toList = l := by rw [ByteArray.toList_eq]; simp [str]
theorem take_prefix (p wd : List UInt8) : (wd.take p.length == p) = p.isPrefixOf wd := by
  rw [Bool.eq_iff_iff, List.isPrefixOf_iff_prefix, List.prefix_iff_eq_take, beq_iff_eq]
  exact ⟨Eq.symm, Eq.symm⟩

set_option maxHeartbeats 2000000 in
theorem behind_any (p wd : List UInt8) (hd : wd.length ≤ 1073741824) (hp : p.length ≤ 100) (w : World) :
    Calls Tryd.prog 36 #[.string (str wd), .string (str p)] w fun e w' => e = .returned (.tuple #[.string (str (if p.isPrefixOf wd then wd.drop p.length else [])), .bool (p.isPrefixOf wd)]) ∧ w = w' := by
  have hX : (str wd).size ≤ 1073741824 := by rw [str_size]; exact hd
  have hP : (str p).size ≤ 100 := by rw [str_size]; exact hp
  have hq : (((str wd).extract 0 (str p).size).toList == (str p).toList) = p.isPrefixOf wd := by rw [ext_list, str_toList, str_size, take_prefix]
  have hr : (str wd).extract (str p).size (str wd).size = str (wd.drop p.length) := by
    rw [str_extract, str_size, str_size, List.take_of_length_le (by rw [List.length_drop]; exact Nat.le_refl _)]
  have hlt : (str wd).size < (str p).size → p.isPrefixOf wd = false := by
    rw [str_size, str_size]
    intro h
    rw [Bool.eq_false_iff, ne_eq, List.isPrefixOf_iff_prefix]
    intro h2
    have := h2.length_le
    omega
  obtain ⟨X, HX⟩ : ∃ X, Hid (X = str wd) := ⟨_, rfl⟩
  obtain ⟨P, HP⟩ : ∃ P, Hid (P = str p) := ⟨_, rfl⟩
  rw [← HX.out] at hX hq hr hlt ⊢
  rw [← HP.out] at hP hq hr hlt ⊢
  have HR := Lib.hid hr
  by_cases h : X.size < P.size
  · rw [hlt h]
    clear hq hr hlt
    go_enter Tryd.func36, Tryd.ntmps36
    go_wp2
    go_ret2
    exact ⟨rfl, rfl⟩
  · have hn : (P.size : Int) ≤ (X.size : Int) := by omega
    cases hpf : p.isPrefixOf wd with
    | true =>
      rw [hpf] at hq
      clear hr hlt hpf
      go_enter Tryd.func36, Tryd.ntmps36
      go_wp2
      go_ret2
      exact ⟨by rw [← HR.out]; rfl, rfl⟩
    | false =>
      rw [hpf] at hq
      clear hr hlt hpf
      go_enter Tryd.func36, Tryd.ntmps36
      go_wp2
      go_ret2
      exact ⟨rfl, rfl⟩

theorem take_snoc8 {l : List UInt8} {k : Nat} {x : UInt8} (h : l[k]? = some x) : l.take (k + 1) = l.take k ++ [x] := by
  rw [List.take_add_one, h]; rfl

def ValuePost (d : List UInt8) (w : World) (e : Ending) (w' : World) : Prop := e = .returned (.tuple #[.int .u64 ((numOf d).getD 0 : Nat), .bool (numOf d).isSome]) ∧ w = w'
theorem value_none {d : List UInt8} {w : World} (h : numOf d = none) : ValuePost d w (.returned (.tuple #[.int .u64 0, .bool false])) w := by
  unfold ValuePost
  rw [h]
  exact ⟨rfl, rfl⟩
theorem value_some {d : List UInt8} {w : World} {z : Int} {v : Nat} (h : numOf d = some v) (hz : z = (v : Int)) : ValuePost d w (.returned (.tuple #[.int .u64 z, .bool true])) w := by
  unfold ValuePost
  rw [h, hz]
  exact ⟨rfl, rfl⟩

set_option maxHeartbeats 4000000 in
theorem value_any (d : List UInt8) (hd : d.length ≤ 1073741824) (w : World) : Calls Tryd.prog 37 #[.string (str d)] w (ValuePost d w) := by
  have hX : (str d).size ≤ 1073741824 := by rw [str_size]; exact hd
  obtain ⟨X, HX⟩ : ∃ X, Hid (X = str d) := ⟨_, rfl⟩
  have HL : Hid (X.size = d.length) := by show _ = _; rw [HX.out, str_size]
  have HB : Hid (∀ (k : Nat) (h : k < X.size), d[k]? = some X[k]) := by
    intro k h
    have e : d = X.data.toList := by rw [HX.out, str_list]
    have h2 : k < X.data.toList.length := by simpa using h
    rw [e, List.getElem?_eq_getElem h2]
    rfl
  rw [← HX.out] at hX ⊢
  by_cases h0 : X.size = 0
  · have hn : numOf d = none := numOf_none (fun h => h.1 (List.eq_nil_of_length_eq_zero (by have := HL.out; omega)))
    have HN := Lib.hid hn
    clear hn
    go_enter Tryd.func37, Tryd.ntmps37
    go_wp2
    go_ret2
    exact value_none HN.out
  · have hpos : 0 < X.size := by omega
    have hb0 := HB.out 0 hpos
    by_cases hlead : 1 < X.size ∧ X[0] = 48
    · obtain ⟨h1, h2⟩ := hlead
      have hn : numOf d = none := numOf_none (fun h => by
        obtain ⟨_, _, h3⟩ := h
        have hh : d.head? = some 48 := by rw [List.head?_eq_getElem?, hb0, h2]
        rcases h3 with h3 | h3
        · have := HL.out; omega
        · exact h3 hh)
      have HN := Lib.hid hn
      have hq : ((X[0].toNat : Int) == 48) = true := by rw [h2]; rfl
      have h0' : decide ((1 : Int) < (X.size : Int)) = true := by simp; omega
      clear hn h2 hb0
      go_enter Tryd.func37, Tryd.ntmps37
      go_wp2
      go_ret2
      exact value_none HN.out
    · have hg : decide ((1 : Int) < (X.size : Int)) = false ∨ (decide ((1 : Int) < (X.size : Int)) = true ∧ ((X[0].toNat : Int) == 48) = false) := by
        by_cases h1 : 1 < X.size
        · right
          refine ⟨by simp; omega, ?_⟩
          simp only [beq_eq_false_iff_ne, ne_eq]
          intro e
          exact hlead ⟨h1, UInt8.toNat_inj.1 (by simpa using (by omega : X[0].toNat = 48))⟩
        · left; simp; omega
      have HF : Hid (d ≠ [] ∧ (d.length = 1 ∨ d.head? ≠ some 48)) := by
        refine ⟨fun h => h0 (by rw [HL.out, h]; rfl), ?_⟩
        by_cases h1 : 1 < X.size
        · right
          rw [List.head?_eq_getElem?, hb0]
          intro e
          exact hlead ⟨h1, Option.some.inj e⟩
        · left; have := HL.out; omega
      clear hlead hb0
      go_enter Tryd.func37, Tryd.ntmps37
      rcases hg with hg | ⟨hg1, hg2⟩
      all_goals
        go_wp2
        go_loopw [4, 5] (fun n i wr => ∃ (k : Nat) (z : Int), k ≤ X.size ∧ 0 ≤ z ∧ z ≤ 18446744073709551615 ∧ n = .int .u64 z ∧ i = .int .i64 k ∧ Hid (z = (valOf (d.take k) : Int)) ∧ Hid (AllDig (d.take k)) ∧ Hid (w = wr)) (fun _ i _ => X.size - (intOf i).toNat)
        case atStart => exact ⟨0, 0, by omega, by omega, by omega, rfl, rfl, rfl, fun b hb => by simp at hb, rfl⟩
        case round =>
          obtain ⟨k, z, hk, hz0, hz1, rfl, rfl, HZ, HA, HW⟩ := hrel
          by_cases hlt : k < X.size
          · have hsn := take_snoc8 (HB.out k hlt)
            have HV : Hid (∀ y : Nat, X[k].toNat = y → valOf (d.take (k + 1)) = 10 * valOf (d.take k) + (y - 48)) := by
              rintro y rfl
              rw [hsn, valOf_snoc]
            have HNot : Hid (¬ (48 ≤ X[k].toNat ∧ X[k].toNat ≤ 57) → numOf d = none) := fun h => numOf_none (fun h2 => h (h2.2.1 X[k] (by have := List.mem_of_getElem? (HB.out k hlt); exact this)))
            have HA2 : Hid (48 ≤ X[k].toNat ∧ X[k].toNat ≤ 57 → AllDig (d.take (k + 1))) := by
              intro h b hb
              rw [hsn, List.mem_append] at hb
              rcases hb with hb | hb
              · exact HA.out b hb
              · simp at hb; subst hb; exact h
            have HBig : Hid (18446744073709551616 ≤ valOf (d.take (k + 1)) → numOf d = none) := fun h => numOf_big (by
              have := valOf_le (d.take (k + 1)) (d.drop (k + 1))
              rw [List.take_append_drop] at this
              omega)
            clear hsn
            obtain ⟨y, hy⟩ : ∃ y : Nat, X[k].toNat = y := ⟨_, rfl⟩
            have hyb : y ≤ 255 := by have := UInt8.toNat_lt X[k]; omega
            rw [hy] at HV HNot HA2
            have HVy := Lib.hid (HV.out y rfl)
            clear HV
            by_cases hd1 : y < 48
            · have g1 : decide ((y : Int) < 48) = true := by simp; omega
              have HN : Hid (ValuePost d w (.returned (.tuple #[.int .u64 0, .bool false])) wr) := HW.out ▸ value_none (HNot.out (by omega))
              go_wp2
              go_ret2
              exact HN.out
            · have g1 : decide ((y : Int) < 48) = false := by simp; omega
              by_cases hd2 : 57 < y
              · have g2 : decide ((57 : Int) < (y : Int)) = true := by simp; omega
                have HN : Hid (ValuePost d w (.returned (.tuple #[.int .u64 0, .bool false])) wr) := HW.out ▸ value_none (HNot.out (by omega))
                go_wp2
                go_ret2
                exact HN.out
              · have g2 : decide ((57 : Int) < (y : Int)) = false := by simp; omega
                obtain ⟨x, hx⟩ : ∃ x : Int, (y : Int) - 48 = x := ⟨_, rfl⟩
                have hx0 : 0 ≤ x := by omega
                have hx9 : x ≤ 9 := by omega
                have HVx : Hid ((valOf (d.take (k + 1)) : Int) = 10 * z + x) := by show _ = _; rw [HVy.out, HZ.out]; omega
                have HAn := Lib.hid (HA2.out (by omega))
                clear HVy HA2
                by_cases hz2 : 1844674407370955161 < z
                · have g3 : decide ((1844674407370955161 : Int) < z) = true := by simp; omega
                  have HN : Hid (ValuePost d w (.returned (.tuple #[.int .u64 0, .bool false])) wr) := HW.out ▸ value_none (HBig.out (by have := HVx.out; omega))
                  go_wp2
                  go_ret2
                  exact HN.out
                · have g3 : decide ((1844674407370955161 : Int) < z) = false := by simp; omega
                  by_cases hz3 : z = 1844674407370955161
                  · have g4 : (z == 1844674407370955161) = true := by simp; omega
                    by_cases hx5 : 5 < x
                    · have HN : Hid (ValuePost d w (.returned (.tuple #[.int .u64 0, .bool false])) wr) := HW.out ▸ value_none (HBig.out (by have := HVx.out; omega))
                      go_wp2
                      go_ret2
                      exact HN.out
                    · go_wp2
                      go_roundw
                      case rel => exact ⟨k + 1, _, by omega, by omega, by omega, rfl, by go_num, (by show _ = _; have := HVx.out; omega), HAn.out, HW⟩
                      case measure => simp [intOf]; omega
                  · have g4 : (z == 1844674407370955161) = false := by simp; omega
                    go_wp2
                    go_roundw
                    case rel => exact ⟨k + 1, _, by omega, by omega, by omega, rfl, by go_num, (by show _ = _; have := HVx.out; omega), HAn.out, HW⟩
                    case measure => simp [intOf]; omega
          · obtain rfl : k = X.size := by omega
            have HN : Hid (ValuePost d w (.returned (.tuple #[.int .u64 z, .bool true])) wr) := by
              have e : d.take X.size = d := List.take_of_length_le (by have := HL.out; omega)
              have h1 := HZ.out
              have h2 := HA.out
              rw [e] at h1 h2
              exact HW.out ▸ value_some (numOf_canon ⟨HF.out.1, h2, HF.out.2⟩ (by omega)) h1
            go_wp2
            go_ret2
            exact HN.out
end Go.Proofs.YtjmfbmnhkoeceaaDoor
