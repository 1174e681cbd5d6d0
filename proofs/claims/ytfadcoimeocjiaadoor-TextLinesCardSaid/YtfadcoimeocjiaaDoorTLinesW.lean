/-
  The walk through TextLines.
-/
import Derived.Test.YtfadcoimeocjiaaDoorTPre
import Derived.Test.YtfadcoimeocjiaaDoorTLoose
namespace Go.Proofs.YtfadcoimeocjiaaDoor
set_option linter.unusedVariables false
open Go.ChangeShapes Go.WideShapes Go.ChangeAt Go.RowKit

theorem joinW_ge (ls : List (List UInt8)) : ls.length ≤ (joinW ls).length := by
  induction ls with
  | nil => simp [joinW]
  | cons l r ih => rw [joinW_cons, List.length_append, List.length_cons, List.length_cons]; omega
theorem linesW_snoc {fs : List Fn} {k : Nat} {f : Fn} (h : fs[k]? = some f) : (linesW (fs.take (k + 1))).length = (linesW (fs.take k)).length + (1 + f.code.length) := by
  rw [List.take_add_one, h, linesW_append, List.length_append]
  congr 1
  simp [linesW, fnLs]
  omega
theorem linesW_take (fs : List Fn) (k : Nat) : (linesW (fs.take k)).length ≤ (linesW fs).length := by
  have : fs = fs.take k ++ fs.drop k := (List.take_append_drop k fs).symm
  conv => rhs; rw [this]
  rw [linesW_append, List.length_append]
  omega
theorem endSt_at (t : List UInt8) (k : Nat) : (k = 0 → endSt true (t.take k) = true) ∧ (∀ p b, k = p + 1 → t[p]? = some b → endSt true (t.take k) = (b == 10)) := by
  refine ⟨fun h => by subst h; simp [endSt], fun p b h hb => ?_⟩
  subst h
  rw [take_snoc8 hb, endSt_snoc]
theorem badGo_snoc (j : Nat) {t : List UInt8} {k : Nat} {b : UInt8} (h : t[k]? = some b) : badGo j true 0 (t.take (k + 1)) = badGo j true 0 (t.take k) ++ ((if cnt10 (t.take k) = j ∧ endSt true (t.take k) = true then flyN else []) ++ [b]) := by
  rw [take_snoc8 h, badGo_app, Nat.zero_add]
  simp [badGo]
theorem cnt10_snoc {t : List UInt8} {k : Nat} {b : UInt8} (h : t[k]? = some b) : cnt10 (t.take (k + 1)) = cnt10 (t.take k) + (if b = 10 then 1 else 0) := by
  rw [take_snoc8 h, cnt10_app]
  simp [cnt10]

set_option maxRecDepth 100000 in
set_option maxHeartbeats 16000000 in
theorem lines_walk (A : Option Addr) (n c : Nat) (rs : List Raw) (x : Int) (w : World) (h : RdP w w.heap.size A n rs) (hE : Env w.heap.size w) :
    Calls Tryd.prog 7 #[.agg #[.slice A n c], .int .i64 x] w fun e w' => e = .returned (.bool true) ∧ Below w.heap.size w w' := by
  have HB0 : Hid (Below w.heap.size w (w.alloc (.cells #[.slice A n c] 25))) := Lib.hid ((Below.refl _ _).alloc (Nat.le_refl _) _)
  have HX0 : Hid (Blk (w.alloc (.cells #[.slice A n c] 25)) w.heap.size 25 #[.slice A n c]) := Lib.hid (Blk.new w _ _)
  have HP := Lib.hid h
  have HE := Lib.hid hE
  clear h hE
  obtain ⟨S, hS⟩ : ∃ S, S = str (if okP (fns rs) then printT (fns rs) else []) := ⟨_, rfl⟩
  obtain ⟨pe, hpe⟩ : ∃ e : Int, e = if okP (fns rs) then 0 else 30 := ⟨_, rfl⟩
  have HS := Lib.hid hS
  have HPE := Lib.hid hpe
  clear hS hpe
  go_enter Tryd.func7, Tryd.ntmps7
  go_wp2_with (go_at_call 8; refine (first_any _ (HE.out.at_ HB0.out HB0.out.size)).mono ?_; rintro e w1 ⟨rfl, hb1⟩; refine Hid.out ?_)
  have hz1 : w.heap.size + 1 ≤ w1.heap.size := by have := hb1.size; simp at this; omega
  have HB1 := Lib.hid (HB0.out.trans (hb1.mono HB0.out.size))
  have HX1 := Lib.hid (HX0.out.below hb1 (by simp))
  have x1 : w1.cell? ⟨w.heap.size, 0, none⟩ = some (.slice A n c) := HX1.out.cell 0
  clear hb1
  refine Lib.hid ?_
  go_wp2_with (go_at_call 12; refine (print_S w.heap.size A n c rs S pe HS.out HPE.out _ (HP.out.below HB1.out) (by omega) (HE.out.at_ HB1.out (by omega))).mono ?_; rintro e w2 ⟨rfl, hb2⟩; refine Hid.out ?_)
  have hz2 : w1.heap.size ≤ w2.heap.size := hb2.size
  have HB2 := Lib.hid (HB1.out.trans (hb2.mono (by omega)))
  have HX2 := Lib.hid (HX1.out.below hb2 (by omega))
  clear hb2 x1
  cases hok : okP (fns rs) with
  | false =>
    have h1 : pe = 30 := by have := HPE.out; rw [hok] at this; simpa using this
    have h2 : S = str [] := by have := HS.out; rw [hok] at this; simpa using this
    subst h1
    have hs : (S.toList == []) = true := by rw [h2, str_toList]; rfl
    have hs2 : S.toList.isEmpty = true := by rw [h2, str_toList]; rfl
    clear h2 hok
    refine Lib.hid ?_
    go_wp2
    go_ret
    exact ⟨rfl, HB2.out⟩
  | true =>
    have h1 : pe = 0 := by have := HPE.out; rw [hok] at this; simpa using this
    have h2 : S = str (printT (fns rs)) := by have := HS.out; rw [hok] at this; simpa using this
    subst h1
    have hl := printT_len hok
    have hX : S.size ≤ 484755000 := by rw [h2, str_size]; exact hl
    have HOK := Lib.hid (okP_fns hok)
    obtain ⟨m, HM⟩ : ∃ m, Hid (m = (linesW (fns rs)).length) := ⟨_, rfl⟩
    have hm : m ≤ 484755000 := by have := joinW_ge (linesW (fns rs)); have := HM.out; unfold printT at hl; omega
    have HC10 : Hid (cnt10 (printT (fns rs)) = m) := Lib.hid (by rw [HM.out]; exact cnt10_join _ (lines_no10 (okP_fns hok)))
    obtain ⟨t, ht⟩ : ∃ t, t = printT (fns rs) := ⟨_, rfl⟩
    have HTD : Hid (t = printT (fns rs)) := Lib.hid ht
    rw [← ht] at h2 hl HC10
    have HTL : Hid (t.length ≤ 484755000) := Lib.hid hl
    have HSX := Lib.hid h2
    have HL : Hid (S.size = t.length) := Lib.hid (by rw [h2, str_size])
    have HBy : Hid (∀ (k : Nat) (h : k < S.size), t[k]? = some S[k] ∧ S.extract k (k + 1) = str [S[k]]) := Lib.hid (by
      intro k hk
      have e : t = S.data.toList := by rw [h2, str_list]
      have h3 : k < S.data.toList.length := by simpa using hk
      have h4 : t[k]? = some S[k] := by
        rw [e, List.getElem?_eq_getElem h3]
        rfl
      refine ⟨h4, ?_⟩
      conv => lhs; rw [h2]
      rw [str_extract, show k + 1 - k = 1 by omega]
      have hkt : k < t.length := (List.getElem?_eq_some_iff.1 h4).1
      rw [List.drop_eq_getElem_cons hkt]
      rw [List.getElem?_eq_getElem hkt] at h4
      rw [Option.some.inj h4]
      rfl)
    have hn := (okP_len hok).2
    rw [length_fns, HP.out.len] at hn
    have x2 : w2.cell? ⟨w.heap.size, 0, none⟩ = some (.slice A n c) := HX2.out.cell 0
    have hz0 : w.heap.size < w2.heap.size := by omega
    clear hl hok h2 ht
    refine Lib.hid ?_
    go_wp2
    clear x2
    go_loopw [7, 31] (fun s i wr => ∃ k : Nat, k ≤ n ∧ i = .int .i64 k ∧ s = .int .i64 ((linesW ((fns rs).take k)).length : Nat) ∧ Hid (Below w.heap.size w wr) ∧ Hid (Blk wr w.heap.size 25 #[.slice A n c])) (fun _ i _ => n - (intOf i).toNat)
    case atStart => exact ⟨0, by omega, rfl, rfl, HB2, HX2⟩
    case round =>
      clear HB2 HX2 HB1 HX1 HB0 HX0
      obtain ⟨k, hk, rfl, rfl, HW, HXr⟩ := hrel
      have hsz := HW.out.size
      by_cases hlt : k < n
      · obtain ⟨b1, o1, r, rfl, hbk1, HX, HRF, HWF, x0, x1, x2, x3, x4⟩ := (HP.out.below HW.out).fn hlt
        have HFK : Hid ((fns rs)[k]? = some r.fn) := Lib.hid (by unfold fns; rw [List.getElem?_map, HX.out]; rfl)
        have hcl := (okF_iff.1 (HOK.out r.fn (List.mem_of_getElem? HFK.out))).2.1
        have HSN := Lib.hid (linesW_snoc HFK.out)
        have hql : (linesW ((fns rs).take k)).length ≤ 484755000 := by have := linesW_take (fns rs) k; have := HM.out; omega
        obtain ⟨q, HQ⟩ : ∃ q, Hid (q = (linesW ((fns rs).take k)).length) := ⟨_, rfl⟩
        rw [← HQ.out] at hql ⊢
        obtain ⟨fn, lo, lc, co, cc⟩ := r
        simp only at x0 x1 x2 x3 x4 hcl HSN
        obtain ⟨nc, HNC⟩ : ∃ x, Hid (x = fn.code.length) := ⟨_, rfl⟩
        rw [← HNC.out] at x4 hcl
        have HSM : Hid ((q : Int) + (1 + (nc : Int)) = (((linesW ((fns rs).take (k + 1))).length : Nat) : Int)) := Lib.hid (by rw [HSN.out, ← HQ.out, ← HNC.out]; omega)
        clear HX HRF HWF HFK
        go_wp2
        go_roundw
        case rel => exact ⟨k + 1, by omega, by go_num, by rw [HSM.out], Lib.hid (HW.out.alloc (by omega) _), Lib.hid (HXr.out.alloc _)⟩
        case measure => simp [intOf]; omega
      · obtain rfl : k = n := by omega
        have htl : (fns rs).take k = fns rs := List.take_of_length_le (by rw [length_fns, HP.out.len]; omega)
        rw [htl, ← HM.out]
        clear htl hlt
        obtain ⟨y, hw, hy0⟩ : ∃ y : Int, IntKind.u64.wrap x = y ∧ 0 ≤ y := ⟨_, rfl, by rw [IntKind.wrap_u64]; omega⟩
        obtain ⟨j, hj, hjk⟩ : ∃ j : Nat, y % ((m : Int) + 1) = (j : Int) ∧ j ≤ m := by
          have h1 := Int.emod_nonneg y (show (m : Int) + 1 ≠ 0 by omega)
          have h2 := Int.emod_lt_of_pos y (show (0 : Int) < (m : Int) + 1 by omega)
          exact ⟨(y % ((m : Int) + 1)).toNat, by omega, by omega⟩
        have hm1 : ((m : Int) + 1 == 0) = false := by simp only [beq_eq_false_iff_ne, ne_eq]; omega
        have HPB : Hid (∀ w3 : World, Below w.heap.size w w3 → ∀ Z, Z = str (badT j (linesW (fns rs))) → Calls Tryd.prog 9 #[.string Z] w3 fun e w' => e = .returned (.tuple #[.agg #[.slice none 0 0], .int .i64 ((j : Int) + 1), .int .i64 40]) ∧ Below w3.heap.size w3 w') := Lib.hid (by
          intro w3 hb Z hZ
          rw [hZ]
          have hlen := badT_len (fns rs) HOK.out j
          rw [← HTD.out] at hlen
          have := HTL.out
          exact parse_bad _ (j + 1) (badT_parse _ HOK.out j (by rw [← HM.out]; exact hjk)) (by omega) w3 (HE.out.at_ hb hb.size))
        have hzr : w.heap.size < wr.heap.size := HXr.out.lt
        go_wp2
        clear hw hj hm1 hy0
        obtain ⟨wo, rfl⟩ : ∃ wo, wo = wr := ⟨_, rfl⟩
        go_loopw [11, 12, 13] (fun s l i wr => ∃ k : Nat, k ≤ S.size ∧ i = .int .i64 k ∧ l = .int .i64 (cnt10 (t.take k) : Nat) ∧ s = .string (str (badGo j true 0 (t.take k))) ∧ Hid (Below w.heap.size w wr)) (fun _ _ i _ => S.size - (intOf i).toNat)
        case atStart => exact ⟨0, by omega, rfl, rfl, rfl, HW⟩
        case round =>
          clear HW HXr
          obtain ⟨i, hi, rfl, rfl, rfl, HW⟩ := hrel
          have hsr := HW.out.size
          have hql : (badGo j true 0 (t.take i)).length ≤ 4847550000 := by
            have h1 := badGo_le j (t.take i) true 0
            have h2 := HTL.out
            rw [List.length_take] at h1
            omega
          have hcl : cnt10 (t.take i) ≤ 484755000 := by have h1 := cnt10_le (t.take i); have h2 := HTL.out; rw [List.length_take] at h1; omega
          obtain ⟨Q, HQ⟩ : ∃ Q, Hid (Q = str (badGo j true 0 (t.take i))) := ⟨_, rfl⟩
          have hqs : Q.size ≤ 4847550000 := by rw [HQ.out, str_size]; exact hql
          by_cases hlt : i < S.size
          · obtain ⟨hy1, hy2⟩ := HBy.out i hlt
            have HQn := Lib.hid (badGo_snoc j hy1)
            have HCn := Lib.hid (cnt10_snoc hy1)
            obtain ⟨q, HQC⟩ : ∃ q, Hid (q = cnt10 (t.take i)) := ⟨_, rfl⟩
            rw [← HQ.out, ← HQC.out]
            rw [← HQC.out] at hcl HQn HCn
            obtain ⟨T1, hT1⟩ : ∃ T, S.extract i (i + 1) = T := ⟨_, rfl⟩
            have HT1 : Hid (T1 = str [S[i]]) := Lib.hid (by rw [← hT1, hy2])
            have hT1s : T1.size = 1 := by rw [HT1.out]; rfl
            have HYES : Hid (q = j → endSt true (t.take i) = true → (Q ++ ⟨#[102, 108, 121, 32, 97, 119, 97, 121, 10]⟩) ++ T1 = str (badGo j true 0 (t.take (i + 1)))) := Lib.hid (fun h1 h2 => by
              rw [HQn.out, if_pos ⟨h1, h2⟩, HQ.out, HT1.out]
              show (str _ ++ str flyN) ++ str _ = _
              rw [str_append, str_append, List.append_assoc])
            have HNO : Hid (¬ (q = j ∧ endSt true (t.take i) = true) → Q ++ T1 = str (badGo j true 0 (t.take (i + 1)))) := Lib.hid (fun h1 => by
              rw [HQn.out, if_neg h1, HQ.out, HT1.out, str_append]
              rfl)
            have HE1 := Lib.hid (endSt_at t i)
            clear hy1 hy2 hql
            by_cases hqj : q = j
            · have g1 : ((q : Int) == (j : Int)) = true := by simp; omega
              have g1' : (q == j) = true := by simp; omega
              by_cases hi0 : i = 0
              · have g2 : ((i : Int) == 0) = true := by simp; omega
                have g2' : (i == 0) = true := by simp; omega
                have HR := Lib.hid (HYES.out hqj (HE1.out.1 hi0))
                clear hqj hi0
                by_cases h10 : S[i] = 10
                · have g5 : ((S[i].toNat : Int) == 10) = true := by rw [h10]; rfl
                  have HC := Lib.hid (HCn.out.trans (by rw [if_pos h10]))
                  clear h10
                  go_wp2
                  go_roundw
                  case rel => exact ⟨i + 1, by omega, by go_num, by rw [HC.out]; go_num, by rw [← HR.out], HW⟩
                  case measure => simp [intOf]; omega
                · have g5 : ((S[i].toNat : Int) == 10) = false := by simp only [beq_eq_false_iff_ne, ne_eq]; intro e; exact h10 (UInt8.toNat_inj.1 (by simpa using (by omega : S[i].toNat = 10)))
                  have HC := Lib.hid (HCn.out.trans (by rw [if_neg h10]))
                  clear h10
                  go_wp2
                  go_roundw
                  case rel => exact ⟨i + 1, by omega, by go_num, by rw [HC.out]; go_num, by rw [← HR.out], HW⟩
                  case measure => simp [intOf]; omega
              · have g2 : ((i : Int) == 0) = false := by simp; omega
                have g2' : (i == 0) = false := by simp; omega
                obtain ⟨p, hp, hp1, hps⟩ : ∃ p : Nat, (i : Int) - 1 = (p : Int) ∧ Hid (i = p + 1) ∧ p < S.size := ⟨i - 1, by omega, Lib.hid (by omega), by omega⟩
                have hp2 : i - 1 = p := by omega
                by_cases hb10 : S[p] = 10
                · have g3 : ((S[p].toNat : Int) == 10) = true := by rw [hb10]; rfl
                  have HR := Lib.hid (HYES.out hqj ((HE1.out.2 p _ hp1.out (HBy.out p hps).1).trans (by rw [hb10]; rfl)))
                  clear hqj hi0 hb10
                  by_cases h10 : S[i] = 10
                  · have g5 : ((S[i].toNat : Int) == 10) = true := by rw [h10]; rfl
                    have HC := Lib.hid (HCn.out.trans (by rw [if_pos h10]))
                    clear h10
                    go_wp2
                    go_roundw
                    case rel => exact ⟨i + 1, by omega, by go_num, by rw [HC.out]; go_num, by rw [← HR.out], HW⟩
                    case measure => simp [intOf]; omega
                  · have g5 : ((S[i].toNat : Int) == 10) = false := by simp only [beq_eq_false_iff_ne, ne_eq]; intro e; exact h10 (UInt8.toNat_inj.1 (by simpa using (by omega : S[i].toNat = 10)))
                    have HC := Lib.hid (HCn.out.trans (by rw [if_neg h10]))
                    clear h10
                    go_wp2
                    go_roundw
                    case rel => exact ⟨i + 1, by omega, by go_num, by rw [HC.out]; go_num, by rw [← HR.out], HW⟩
                    case measure => simp [intOf]; omega
                · have g3 : ((S[p].toNat : Int) == 10) = false := by simp only [beq_eq_false_iff_ne, ne_eq]; intro e; exact hb10 (UInt8.toNat_inj.1 (by simpa using (by omega : S[p].toNat = 10)))
                  have HR := Lib.hid (HNO.out (fun h => hb10 (by have h1 := h.2; rw [HE1.out.2 p _ hp1.out (HBy.out p hps).1] at h1; simpa using h1)))
                  clear hqj hi0 hb10
                  by_cases h10 : S[i] = 10
                  · have g5 : ((S[i].toNat : Int) == 10) = true := by rw [h10]; rfl
                    have HC := Lib.hid (HCn.out.trans (by rw [if_pos h10]))
                    clear h10
                    go_wp2
                    go_roundw
                    case rel => exact ⟨i + 1, by omega, by go_num, by rw [HC.out]; go_num, by rw [← HR.out], HW⟩
                    case measure => simp [intOf]; omega
                  · have g5 : ((S[i].toNat : Int) == 10) = false := by simp only [beq_eq_false_iff_ne, ne_eq]; intro e; exact h10 (UInt8.toNat_inj.1 (by simpa using (by omega : S[i].toNat = 10)))
                    have HC := Lib.hid (HCn.out.trans (by rw [if_neg h10]))
                    clear h10
                    go_wp2
                    go_roundw
                    case rel => exact ⟨i + 1, by omega, by go_num, by rw [HC.out]; go_num, by rw [← HR.out], HW⟩
                    case measure => simp [intOf]; omega
            · have g1 : ((q : Int) == (j : Int)) = false := by simp; omega
              have g1' : (q == j) = false := by simp; omega
              have HR := Lib.hid (HNO.out (fun h => hqj h.1))
              clear hqj
              by_cases h10 : S[i] = 10
              · have g5 : ((S[i].toNat : Int) == 10) = true := by rw [h10]; rfl
                have HC := Lib.hid (HCn.out.trans (by rw [if_pos h10]))
                clear h10
                go_wp2
                go_roundw
                case rel => exact ⟨i + 1, by omega, by go_num, by rw [HC.out]; go_num, by rw [← HR.out], HW⟩
                case measure => simp [intOf]; omega
              · have g5 : ((S[i].toNat : Int) == 10) = false := by simp only [beq_eq_false_iff_ne, ne_eq]; intro e; exact h10 (UInt8.toNat_inj.1 (by simpa using (by omega : S[i].toNat = 10)))
                have HC := Lib.hid (HCn.out.trans (by rw [if_neg h10]))
                clear h10
                go_wp2
                go_roundw
                case rel => exact ⟨i + 1, by omega, by go_num, by rw [HC.out]; go_num, by rw [← HR.out], HW⟩
                case measure => simp [intOf]; omega
          · obtain rfl : i = S.size := by omega
            have htl : t.take S.size = t := List.take_of_length_le (by have := HL.out; omega)
            rw [htl] at HQ ⊢
            rw [HC10.out, ← HQ.out]
            clear htl hlt hcl
            have gm : ((m : Int) == (m : Int)) = true := by simp
            by_cases hjm : j = m
            · have HZ : Hid (Q ++ ⟨#[102, 108, 121, 32, 97, 119, 97, 121]⟩ = str (badT j (linesW (fns rs)))) := Lib.hid (by
                unfold badT
                rw [if_pos (by rw [← HM.out]; exact hjm), HQ.out, HTD.out]
                exact str_append _ flyL)
              have g3 : ((j : Int) == (m : Int)) = true := by simp; omega
              have g3' : (j == m) = true := by simp; omega
              clear hjm
              go_wp2_with (go_at_call 9; refine (HPB.out _ HW.out _ HZ.out).mono ?_; rintro e w7 ⟨rfl, hb7⟩; have HB7 := Lib.hid (HW.out.trans (hb7.mono (by omega))); have hz7 := HB7.out.size; clear hb7)
              go_ret
              exact ⟨rfl, HB7.out.alloc (by omega) _⟩
            · have HZ : Hid (Q = str (badT j (linesW (fns rs)))) := Lib.hid (by
                unfold badT
                rw [if_neg (by rw [← HM.out]; exact hjm), HQ.out, HTD.out, List.append_nil]
                rfl)
              have g3 : ((j : Int) == (m : Int)) = false := by simp; omega
              have g3' : (j == m) = false := by simp; omega
              clear hjm
              go_wp2_with (go_at_call 9; refine (HPB.out _ HW.out _ HZ.out).mono ?_; rintro e w7 ⟨rfl, hb7⟩; have HB7 := Lib.hid (HW.out.trans (hb7.mono (by omega))); have hz7 := HB7.out.size; clear hb7)
              go_ret
              exact ⟨rfl, HB7.out.alloc (by omega) _⟩
end Go.Proofs.YtfadcoimeocjiaaDoor
