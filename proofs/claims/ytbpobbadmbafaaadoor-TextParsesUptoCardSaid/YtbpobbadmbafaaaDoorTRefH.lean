/-
  The document's Head.
-/
import Derived.Test.YtbpobbadmbafaaaDoorTRefL
namespace Go.Proofs.YtbpobbadmbafaaaDoor
set_option linter.unusedVariables false
open Go.ChangeShapes Go.WideShapes Go.ChangeAt Go.RowKit

def headU (pn : Nat) (l : List UInt8) : List UInt8 := funcW ++ 32 :: (Lib.decDigits pn ++ 32 :: l)
theorem headU_app (pn : Nat) (a b : List UInt8) : headU pn (a ++ b) = headU pn a ++ b := by simp [headU]
theorem headU_len (pn : Nat) (l : List UInt8) (hp : pn < 18446744073709551616) : (headU pn l).length ≤ 26 + l.length := by
  have := nDigits_le pn hp
  unfold headU funcW
  simp only [List.length_append, List.length_cons, List.length_nil]
  omega
theorem headW_U (pn : Nat) (ls : List Int) (fl : Bool) (kp : Int) (c : List Ins) : headW ⟨pn, ls, fl, kp, c⟩ = headU pn (localsW ls ++ (32 :: (flagW fl ++ 32 :: keepW kp))) := by
  simp [headW, headU]

set_option maxRecDepth 100000 in
set_option maxHeartbeats 8000000 in
theorem head_any (B : Nat) (pn : Nat) (ls : List Int) (fl : Bool) (kp : Int) (lo co : Option Addr) (lc nc cc : Nat) (c : List Ins) (w : World) (hp : pn ≤ 9223372036854775807) (hr : Reads w B 1 lo ls.length (u8c ls)) (hB : B ≤ w.heap.size) (hl : ls.length ≤ 1073741824) (hk0 : -1 ≤ kp) (hk1 : kp ≤ 9223372036854775807) :
    Calls Tryd.prog 22 #[.agg #[.int .i64 pn, .slice lo ls.length lc, .bool fl, .int .i64 kp, .slice co nc cc]] w fun e w' => e = .returned (.string (str (headW ⟨pn, ls, fl, kp, c⟩))) ∧ Below w.heap.size w w' := by
  rw [headW_U]
  obtain ⟨nl, HNL⟩ : ∃ x, Hid (x = ls.length) := ⟨_, rfl⟩
  rw [← HNL.out] at hr hl ⊢
  have HR := Lib.hid hr
  have HBX := Lib.hid (Blk.new w 36 #[.int .i64 pn, .slice lo nl lc, .bool fl, .int .i64 kp, .slice co nc cc])
  have HB0 : Hid (Below w.heap.size w (w.alloc (.cells #[.int .i64 pn, .slice lo nl lc, .bool fl, .int .i64 kp, .slice co nc cc] 36))) := Lib.hid ((Below.refl _ _).alloc (Nat.le_refl _) _)
  have hwp : IntKind.u64.wrap (pn : Int) = (pn : Int) := by rw [IntKind.wrap_u64]; omega
  obtain ⟨D, HD⟩ : ∃ S, Hid (S = str (Lib.decDigits pn)) := ⟨_, rfl⟩
  have hds : D.size ≤ 20 := by rw [HD.out, str_size]; exact nDigits_le pn (by omega)
  have HU0 : Hid ((⟨#[102, 117, 110, 99, 32]⟩ ++ D) ++ ⟨#[32]⟩ = str (headU pn [])) := Lib.hid (by
    rw [HD.out]
    show (str [102, 117, 110, 99, 32] ++ str _) ++ str [32] = _
    rw [str_append, str_append]
    simp [headU, funcW])
  clear hr
  go_enter Tryd.func22, Tryd.ntmps22
  go_wp2_with (go_at_call 37; refine (rnumber_any pn (by omega) _).mono ?_; rintro e w2 ⟨rfl, hb2⟩; rw [← HD.out]; refine Hid.out ?_)
  have hx2 := HBX.out.below hb2 (by simp)
  have HX2 := Lib.hid hx2
  have HB2 := Lib.hid (HB0.out.trans (hb2.mono (by simp)))
  have hz2 : w.heap.size < w2.heap.size := hx2.lt
  have c1 : w2.cell? ⟨w.heap.size, 1, none⟩ = some (.slice lo nl lc) := hx2.cell 1
  clear hb2 hx2 hwp
  refine Lib.hid ?_
  go_wp2
  clear c1
  go_loopw [3, 15] (fun s i wr => ∃ k : Nat, k ≤ nl ∧ i = .int .i64 k ∧ s = .string (str (headU pn ((ls.take k).map letterW))) ∧ wr = w2) (fun _ i _ => nl - (intOf i).toNat)
  case atStart => exact ⟨0, by omega, rfl, by rw [HU0.out]; rfl, rfl⟩
  case round =>
    obtain ⟨k, hk, rfl, rfl, rfl⟩ := hrel
    have hql : (headU pn ((ls.take k).map letterW)).length ≤ 1073741900 := by
      have := headU_len pn ((ls.take k).map letterW) (by omega)
      rw [List.length_map, List.length_take] at this
      omega
    obtain ⟨Q, HQ⟩ : ∃ Q, Hid (Q = str (headU pn ((ls.take k).map letterW))) := ⟨_, rfl⟩
    have hqs : Q.size ≤ 1073741900 := by rw [HQ.out, str_size]; exact hql
    clear hql
    rw [← HQ.out]
    by_cases hlt : k < nl
    · obtain ⟨b2, off2, x, rfl, hb2, HXJ, cx⟩ := (HR.out.below (HB2.out.mono hB)).byte hlt
      have HSN : Hid (∀ T, T = str [letterW x] → Q ++ T = str (headU pn ((ls.take (k + 1)).map letterW))) := Lib.hid (by
        rintro T rfl
        rw [HQ.out, str_append, List.take_add_one, HXJ.out, List.map_append, headU_app]
        rfl)
      by_cases hx : x = 0
      · have g : (x == 0) = true := by simp; omega
        have HR1 := Lib.hid (HSN.out ⟨#[110]⟩ (by rw [hx]; rfl))
        clear hx
        go_wp2
        go_roundw
        case rel => exact ⟨k + 1, by omega, by go_num, by rw [HR1.out], by trivial⟩
        case measure => simp [intOf]; omega
      · have g : (x == 0) = false := by simp; omega
        have HR1 := Lib.hid (HSN.out ⟨#[112]⟩ (by unfold letterW; rw [if_neg hx]; rfl))
        clear hx
        go_wp2
        go_roundw
        case rel => exact ⟨k + 1, by omega, by go_num, by rw [HR1.out], by trivial⟩
        case measure => simp [intOf]; omega
    · obtain rfl : k = nl := by omega
      have htl : ls.take k = ls := List.take_of_length_le (by have := HNL.out; omega)
      rw [htl] at HQ
      clear htl hlt
      have c1 : wr.cell? ⟨w.heap.size, 1, none⟩ = some (.slice lo k lc) := HX2.out.cell 1
      have c2 : wr.cell? ⟨w.heap.size, 2, none⟩ = some (.bool fl) := HX2.out.cell 2
      have c3 : wr.cell? ⟨w.heap.size, 3, none⟩ = some (.int .i64 kp) := HX2.out.cell 3
      have HN : Hid (∀ kn : Nat, kp = kn → Calls Tryd.prog 37 #[.int .u64 kp] wr fun e w' => e = .returned (.string (str (keepW kp))) ∧ Below wr.heap.size wr w') := Lib.hid (by
        intro kn hkn
        have hkk : keepW kp = Lib.decDigits kn := by unfold keepW; rw [if_neg (by omega), hkn]; rfl
        rw [hkk, hkn]
        exact rnumber_any kn (by omega) wr)
      have HL0 : Hid (k = 0 → ∀ b, (Q ++ ⟨#[45]⟩) ++ str (32 :: (flagW fl ++ 32 :: b)) = str (headU pn (localsW ls ++ (32 :: (flagW fl ++ 32 :: b))))) := Lib.hid (by
        intro h b
        have hls : ls = [] := List.length_eq_zero_iff.1 (by have := HNL.out; omega)
        subst hls
        rw [HQ.out]
        show (str _ ++ str [45]) ++ str _ = _
        rw [str_append, str_append]
        simp [headU, localsW])
      have HL1 : Hid (k ≠ 0 → ∀ b, Q ++ str (32 :: (flagW fl ++ 32 :: b)) = str (headU pn (localsW ls ++ (32 :: (flagW fl ++ 32 :: b))))) := Lib.hid (by
        intro h b
        have hls : ls ≠ [] := fun e => h (by rw [HNL.out, e]; rfl)
        rw [HQ.out, str_append, headU_app]
        unfold localsW
        rw [if_neg hls])
      have HT : Hid (∀ b, str (32 :: (true |> flagW) ++ 32 :: b) = ⟨#[32, 49, 32]⟩ ++ str b ∧ str (32 :: (false |> flagW) ++ 32 :: b) = ⟨#[32, 48, 32]⟩ ++ str b) := Lib.hid (by
        intro b
        refine ⟨?_, ?_⟩
        · show _ = str [32, 49, 32] ++ str b; rw [str_append]; rfl
        · show _ = str [32, 48, 32] ++ str b; rw [str_append]; rfl)
      have HW : Hid (Below w.heap.size w wr) := HB2
      clear hk
      by_cases hk0' : k = 0
      · have g1 : ((k : Int) == 0) = true := by simp; omega
        have g1' : (k == 0) = true := by simp; omega
        cases fl
        · by_cases hkn : kp < 0
          · have HF : Hid (((Q ++ ⟨#[45]⟩) ++ ⟨#[32, 48, 32]⟩) ++ ⟨#[45]⟩ = str (headU pn (localsW ls ++ (32 :: (flagW false ++ 32 :: keepW kp))))) := Lib.hid (by
              have hkk : keepW kp = [45] := by unfold keepW; rw [if_pos (by omega)]
              rw [hkk, ← HL0.out hk0', ByteArray.append_assoc]
              congr 1
              all_goals exact ((HT.out [45]).2).symm)
            have g3 : decide (kp < 0) = true := by simp; omega
            clear hkn hk0'
            go_wp2
            go_ret
            exact ⟨by rw [HF.out]; rfl, HW.out⟩
          · obtain ⟨KS, HKS⟩ : ∃ S, Hid (S = str (keepW kp)) := ⟨_, rfl⟩
            have hks : KS.size ≤ 20 := by rw [HKS.out, str_size]; unfold keepW; rw [if_neg (by omega)]; exact nDigits_le _ (by omega)
            have HF : Hid (((Q ++ ⟨#[45]⟩) ++ ⟨#[32, 48, 32]⟩) ++ KS = str (headU pn (localsW ls ++ (32 :: (flagW false ++ 32 :: keepW kp))))) := Lib.hid (by
              rw [← HL0.out hk0', ByteArray.append_assoc, HKS.out]
              congr 1
              all_goals exact ((HT.out (keepW kp)).2).symm)
            have HNK := Lib.hid (HN.out kp.toNat (by omega))
            have g3 : decide (kp < 0) = false := by simp; omega
            have hwk : IntKind.u64.wrap kp = kp := by rw [IntKind.wrap_u64]; omega
            clear hkn hk0'
            go_wp2_with (go_at_call 37; refine HNK.out.mono ?_; rintro e w5 ⟨rfl, hb5⟩; rw [← HKS.out]; have HB5 := Lib.hid (HW.out.trans (hb5.mono HW.out.size)); clear hb5)
            go_ret
            exact ⟨by rw [HF.out]; rfl, HB5.out⟩
        · by_cases hkn : kp < 0
          · have HF : Hid (((Q ++ ⟨#[45]⟩) ++ ⟨#[32, 49, 32]⟩) ++ ⟨#[45]⟩ = str (headU pn (localsW ls ++ (32 :: (flagW true ++ 32 :: keepW kp))))) := Lib.hid (by
              have hkk : keepW kp = [45] := by unfold keepW; rw [if_pos (by omega)]
              rw [hkk, ← HL0.out hk0', ByteArray.append_assoc]
              congr 1
              all_goals exact ((HT.out [45]).1).symm)
            have g3 : decide (kp < 0) = true := by simp; omega
            clear hkn hk0'
            go_wp2
            go_ret
            exact ⟨by rw [HF.out]; rfl, HW.out⟩
          · obtain ⟨KS, HKS⟩ : ∃ S, Hid (S = str (keepW kp)) := ⟨_, rfl⟩
            have hks : KS.size ≤ 20 := by rw [HKS.out, str_size]; unfold keepW; rw [if_neg (by omega)]; exact nDigits_le _ (by omega)
            have HF : Hid (((Q ++ ⟨#[45]⟩) ++ ⟨#[32, 49, 32]⟩) ++ KS = str (headU pn (localsW ls ++ (32 :: (flagW true ++ 32 :: keepW kp))))) := Lib.hid (by
              rw [← HL0.out hk0', ByteArray.append_assoc, HKS.out]
              congr 1
              all_goals exact ((HT.out (keepW kp)).1).symm)
            have HNK := Lib.hid (HN.out kp.toNat (by omega))
            have g3 : decide (kp < 0) = false := by simp; omega
            have hwk : IntKind.u64.wrap kp = kp := by rw [IntKind.wrap_u64]; omega
            clear hkn hk0'
            go_wp2_with (go_at_call 37; refine HNK.out.mono ?_; rintro e w5 ⟨rfl, hb5⟩; rw [← HKS.out]; have HB5 := Lib.hid (HW.out.trans (hb5.mono HW.out.size)); clear hb5)
            go_ret
            exact ⟨by rw [HF.out]; rfl, HB5.out⟩
      · have g1 : ((k : Int) == 0) = false := by simp; omega
        have g1' : (k == 0) = false := by simp; omega
        cases fl
        · by_cases hkn : kp < 0
          · have HF : Hid ((Q ++ ⟨#[32, 48, 32]⟩) ++ ⟨#[45]⟩ = str (headU pn (localsW ls ++ (32 :: (flagW false ++ 32 :: keepW kp))))) := Lib.hid (by
              have hkk : keepW kp = [45] := by unfold keepW; rw [if_pos (by omega)]
              rw [hkk, ← HL1.out hk0', ByteArray.append_assoc]
              congr 1
              all_goals exact ((HT.out [45]).2).symm)
            have g3 : decide (kp < 0) = true := by simp; omega
            clear hkn hk0'
            go_wp2
            go_ret
            exact ⟨by rw [HF.out]; rfl, HW.out⟩
          · obtain ⟨KS, HKS⟩ : ∃ S, Hid (S = str (keepW kp)) := ⟨_, rfl⟩
            have hks : KS.size ≤ 20 := by rw [HKS.out, str_size]; unfold keepW; rw [if_neg (by omega)]; exact nDigits_le _ (by omega)
            have HF : Hid ((Q ++ ⟨#[32, 48, 32]⟩) ++ KS = str (headU pn (localsW ls ++ (32 :: (flagW false ++ 32 :: keepW kp))))) := Lib.hid (by
              rw [← HL1.out hk0', ByteArray.append_assoc, HKS.out]
              congr 1
              all_goals exact ((HT.out (keepW kp)).2).symm)
            have HNK := Lib.hid (HN.out kp.toNat (by omega))
            have g3 : decide (kp < 0) = false := by simp; omega
            have hwk : IntKind.u64.wrap kp = kp := by rw [IntKind.wrap_u64]; omega
            clear hkn hk0'
            go_wp2_with (go_at_call 37; refine HNK.out.mono ?_; rintro e w5 ⟨rfl, hb5⟩; rw [← HKS.out]; have HB5 := Lib.hid (HW.out.trans (hb5.mono HW.out.size)); clear hb5)
            go_ret
            exact ⟨by rw [HF.out]; rfl, HB5.out⟩
        · by_cases hkn : kp < 0
          · have HF : Hid ((Q ++ ⟨#[32, 49, 32]⟩) ++ ⟨#[45]⟩ = str (headU pn (localsW ls ++ (32 :: (flagW true ++ 32 :: keepW kp))))) := Lib.hid (by
              have hkk : keepW kp = [45] := by unfold keepW; rw [if_pos (by omega)]
              rw [hkk, ← HL1.out hk0', ByteArray.append_assoc]
              congr 1
              all_goals exact ((HT.out [45]).1).symm)
            have g3 : decide (kp < 0) = true := by simp; omega
            clear hkn hk0'
            go_wp2
            go_ret
            exact ⟨by rw [HF.out]; rfl, HW.out⟩
          · obtain ⟨KS, HKS⟩ : ∃ S, Hid (S = str (keepW kp)) := ⟨_, rfl⟩
            have hks : KS.size ≤ 20 := by rw [HKS.out, str_size]; unfold keepW; rw [if_neg (by omega)]; exact nDigits_le _ (by omega)
            have HF : Hid ((Q ++ ⟨#[32, 49, 32]⟩) ++ KS = str (headU pn (localsW ls ++ (32 :: (flagW true ++ 32 :: keepW kp))))) := Lib.hid (by
              rw [← HL1.out hk0', ByteArray.append_assoc, HKS.out]
              congr 1
              all_goals exact ((HT.out (keepW kp)).1).symm)
            have HNK := Lib.hid (HN.out kp.toNat (by omega))
            have g3 : decide (kp < 0) = false := by simp; omega
            have hwk : IntKind.u64.wrap kp = kp := by rw [IntKind.wrap_u64]; omega
            clear hkn hk0'
            go_wp2_with (go_at_call 37; refine HNK.out.mono ?_; rintro e w5 ⟨rfl, hb5⟩; rw [← HKS.out]; have HB5 := Lib.hid (HW.out.trans (hb5.mono HW.out.size)); clear hb5)
            go_ret
            exact ⟨by rw [HF.out]; rfl, HB5.out⟩
end Go.Proofs.YtbpobbadmbafaaaDoor
