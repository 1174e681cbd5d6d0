/-
  The document's Text.
-/
import Derived.Test.YtfadcoimeocjiaaGreatDoorTRefH
import Derived.Test.YtfadcoimeocjiaaGreatDoorTPre
namespace Go.Proofs.YtfadcoimeocjiaaGreatDoor
set_option linter.unusedVariables false
open Go.ChangeShapes Go.WideShapes Go.ChangeAt Go.RowKit

theorem printT_pre (fs : List Fn) (k : Nat) : (printT (fs.take k)).length ≤ (printT fs).length := by
  have e : fs = fs.take k ++ fs.drop k := (List.take_append_drop k fs).symm
  conv => rhs; rw [e, printT_append]
  rw [List.length_append]
  omega

set_option maxRecDepth 100000 in
set_option maxHeartbeats 8000000 in
theorem rtext_any (B : Nat) (A : Option Addr) (n c : Nat) (rs : List Raw) (w : World) (h : RdP w B A n rs) (hB : B ≤ w.heap.size) (hok : okP (fns rs) = true) :
    Calls Tryz.prog 10 #[.agg #[.slice A n c]] w fun e w' => e = .returned (.string (str (printT (fns rs)))) ∧ Below w.heap.size w w' := by
  have HB0 : Hid (Below w.heap.size w (w.alloc (.cells #[.slice A n c] 24))) := Lib.hid ((Below.refl _ _).alloc (Nat.le_refl _) _)
  have H := Lib.hid h
  have HOK := Lib.hid (okP_fns hok)
  have HPL := Lib.hid (printT_len hok)
  have HN : Hid ((fns rs).length = n) := Lib.hid (by rw [length_fns, h.len])
  have hn255 : n ≤ 255 := by have := (okP_len hok).2; rw [length_fns, h.len] at this; exact this
  clear h hok
  go_enter Tryz.func10, Tryz.ntmps10
  go_wp2
  go_loopw [3, 11] (fun s i wr => ∃ k : Nat, k ≤ n ∧ i = .int .i64 k ∧ s = .string (str (printT ((fns rs).take k))) ∧ Hid (Below w.heap.size w wr)) (fun _ i _ => n - (intOf i).toNat)
  case atStart => exact ⟨0, by omega, rfl, rfl, HB0⟩
  case round =>
    clear HB0
    obtain ⟨k, hk, rfl, rfl, HW⟩ := hrel
    have hzr : w.heap.size ≤ wr.heap.size := HW.out.size
    have hql : (printT ((fns rs).take k)).length ≤ 484755000 := by have := printT_pre (fns rs) k; have := HPL.out; omega
    obtain ⟨Q, HQ⟩ : ∃ Q, Hid (Q = str (printT ((fns rs).take k))) := ⟨_, rfl⟩
    have hqs : Q.size ≤ 484755000 := by rw [HQ.out, str_size]; exact hql
    clear hql
    by_cases hlt : k < n
    · rw [← HQ.out]
      obtain ⟨b1, o1, r, rfl, hbk1, HX, HRF, HWF, x0, x1, x2, x3, x4⟩ := (H.out.below (HW.out.mono hB)).fn hlt
      have HFK : Hid ((fns rs)[k]? = some r.fn) := Lib.hid (by unfold fns; rw [List.getElem?_map, HX.out]; rfl)
      have hof := HOK.out r.fn (List.mem_of_getElem? HFK.out)
      have ⟨o1', o2, o3, o4, o5, o6, o7, o8⟩ := okF_iff.1 hof
      have H8 := Lib.hid o8
      have HSN := Lib.hid (printT_snoc HFK.out)
      have HRL := Lib.hid HRF.out.locals
      have HRC := Lib.hid HRF.out.code
      have hhw := headW_le hof
      clear hof o7 o8 HX HRF HWF
      obtain ⟨⟨p, ls, fl, kp, is⟩, lo, lc, co, cc⟩ := r
      simp only at x0 x1 x2 x3 x4 o1' o2 o3 o4 o5 o6 HRL HRC H8 HSN hhw
      obtain ⟨pn, rfl⟩ : ∃ pn : Nat, p = pn := ⟨p.toNat, by omega⟩
      have HHD : Hid (∀ W : World, Below wr.heap.size wr W → Calls Tryz.prog 25 #[.agg #[.int .i64 pn, .slice lo ls.length lc, .bool fl, .int .i64 kp, .slice co is.length cc]] W fun e w' => e = .returned (.string (str (headW ⟨pn, ls, fl, kp, is⟩))) ∧ Below W.heap.size W w') := Lib.hid (fun W hW =>
        head_any B pn ls fl kp lo co lc is.length cc is W (by omega) (HRL.out.below (hW.mono (by omega))) (by have := hW.size; omega) (by omega) o5 (by omega))
      obtain ⟨nl, HNL⟩ : ∃ x, Hid (x = ls.length) := ⟨_, rfl⟩
      obtain ⟨nc, HNC⟩ : ∃ x, Hid (x = is.length) := ⟨_, rfl⟩
      rw [← HNL.out] at x1 HHD
      rw [← HNC.out] at x4 o2 HRC HHD
      have HBa := Lib.hid (HW.out.alloc hzr (.cells #[.int .i64 pn, .slice lo nl lc, .bool fl, .int .i64 kp, .slice co nc cc] 41))
      have HXa := Lib.hid (Blk.new wr 41 #[.int .i64 pn, .slice lo nl lc, .bool fl, .int .i64 kp, .slice co nc cc])
      have HC1 := Lib.hid (HHD.out _ ((Below.refl _ _).alloc (Nat.le_refl _) (.cells #[.int .i64 pn, .slice lo nl lc, .bool fl, .int .i64 kp, .slice co nc cc] 41)))
      obtain ⟨HS, HHS⟩ : ∃ S, Hid (S = str (headW ⟨pn, ls, fl, kp, is⟩)) := ⟨_, rfl⟩
      have hhs : HS.size ≤ 310 := by rw [HHS.out, str_size]; exact hhw
      rw [← HHS.out] at HC1
      have HU : Hid (Q ++ (HS ++ ⟨#[10]⟩) = str (printT ((fns rs).take k) ++ (headW ⟨pn, ls, fl, kp, is⟩ ++ [10]) ++ (is.take 0).flatMap insT)) := Lib.hid (by
        rw [HQ.out, HHS.out]
        show str _ ++ (str _ ++ str [10]) = _
        rw [str_append, str_append]
        simp)
      clear hhw HHD
      go_wp2_with (go_at_call 25; refine HC1.out.mono ?_; rintro e w5 ⟨rfl, hb5⟩; refine Hid.out ?_)
      have hx5 := HXa.out.below hb5 (by simp)
      have x5 : w5.cell? ⟨wr.heap.size, 4, none⟩ = some (.slice co nc cc) := hx5.cell 4
      have hz5 : wr.heap.size < w5.heap.size := hx5.lt
      have HB5 := Lib.hid (HBa.out.trans (hb5.mono (by simp; omega)))
      clear hb5 hx5 x0 x1 x2 x3 x4
      refine Lib.hid ?_
      go_wp2
      clear x5
      obtain ⟨wo, rfl⟩ : ∃ wo, wo = wr := ⟨_, rfl⟩
      go_loopw [3, 23] (fun s i wr => ∃ j : Nat, j ≤ nc ∧ i = .int .i64 j ∧ s = .string (str (printT ((fns rs).take k) ++ (headW ⟨pn, ls, fl, kp, is⟩ ++ [10]) ++ (is.take j).flatMap insT)) ∧ Hid (Below w.heap.size w wr)) (fun _ i _ => nc - (intOf i).toNat)
      case atStart => exact ⟨0, by omega, rfl, by rw [HU.out], HB5⟩
      case round =>
        clear HB5 HU
        obtain ⟨j, hj, rfl, rfl, HWj⟩ := hrel
        have hzj : w.heap.size ≤ wr.heap.size := HWj.out.size
        have hlj : ((is.take j).flatMap insT).length ≤ 29 * 65535 := by
          have h1 := flatI_le (is.take j) (fun i hi => H8.out i (List.mem_of_mem_take hi))
          rw [List.length_take] at h1
          have : min j is.length ≤ 65535 := by have := HNC.out; omega
          omega
        obtain ⟨Q2, HQ2⟩ : ∃ S, Hid (S = str (printT ((fns rs).take k) ++ (headW ⟨pn, ls, fl, kp, is⟩ ++ [10]) ++ (is.take j).flatMap insT)) := ⟨_, Lib.hid rfl⟩
        have hq2 : Q2.size ≤ 487000000 := by
          rw [HQ2.out, str_size]
          have h1 : (printT ((fns rs).take k)).length ≤ 484755000 := by rw [← str_size, ← HQ.out]; exact hqs
          have h2 : (headW ⟨pn, ls, fl, kp, is⟩).length ≤ 310 := by rw [← str_size, ← HHS.out]; exact hhs
          simp only [List.length_append, List.length_cons, List.length_nil]
          omega
        by_cases hjl : j < nc
        · rw [← HQ2.out]
          obtain ⟨b2, o2', x, rfl, hbk2, HXJ, y0, y1, y2⟩ := (HRC.out.keep (w' := wr) fun q hq => (HWj.out.cell (p := q) (by omega)).trans (HW.out.cell (p := q) (by omega)).symm).ins hjl
          have hoi := H8.out x (List.mem_of_getElem? HXJ.out)
          have HFS := Lib.hid (flatI_snoc HXJ.out)
          have HWa := Lib.hid (HWj.out.alloc hzj (.cells #[.int .u8 x.op, .int .i64 x.arg, .int .u64 x.imm] 45))
          have HLN := Lib.hid (line_any x hoi (wr.alloc (.cells #[.int .u8 x.op, .int .i64 x.arg, .int .u64 x.imm] 45)))
          obtain ⟨LS, HLS⟩ : ∃ S, Hid (S = str (insW x)) := ⟨_, rfl⟩
          have hls : LS.size ≤ 29 := by rw [HLS.out, str_size]; have := insT_le hoi; unfold insT at this; simp at this; omega
          rw [← HLS.out] at HLN
          have HU2 : Hid (Q2 ++ (LS ++ ⟨#[10]⟩) = str (printT ((fns rs).take k) ++ (headW ⟨pn, ls, fl, kp, is⟩ ++ [10]) ++ (is.take (j + 1)).flatMap insT)) := Lib.hid (by
            rw [HQ2.out, HLS.out, HFS.out]
            show str _ ++ (str _ ++ str [10]) = _
            rw [str_append, str_append]
            unfold insT
            simp)
          clear hoi hlj
          go_wp2_with (go_at_call 26; refine HLN.out.mono ?_; rintro e w6 ⟨rfl, hb6⟩; have K6 := Lib.hid (HWa.out.trans (hb6.mono (by simp; omega))); clear hb6)
          go_roundw
          case rel => exact ⟨j + 1, by omega, by go_num, by rw [← HU2.out], K6⟩
          case measure => simp [intOf]; omega
        · obtain rfl : j = nc := by omega
          have hfull : is.take j = is := List.take_of_length_le (by have := HNC.out; omega)
          have HBN : Hid (str (printT ((fns rs).take k) ++ (headW ⟨pn, ls, fl, kp, is⟩ ++ [10]) ++ (is.take j).flatMap insT) = str (printT ((fns rs).take (k + 1)))) := Lib.hid (by
            rw [HSN.out, hfull]
            unfold fnT
            simp)
          rw [HBN.out]
          clear hfull hlj
          go_wp2
          go_roundw
          case rel => exact ⟨k + 1, by omega, by go_num, rfl, HWj⟩
          case measure => simp [intOf]; omega
    · obtain rfl : k = n := by omega
      have htl : (fns rs).take k = fns rs := List.take_of_length_le (by have := HN.out; omega)
      rw [htl]
      clear htl
      go_wp2
      go_ret
      exact ⟨rfl, HW.out⟩
end Go.Proofs.YtfadcoimeocjiaaGreatDoor
