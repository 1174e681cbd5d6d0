/-
  The document's lists of places: In, add.
-/
import Derived.Test.YtihfihockobpjaaRw
namespace Go.Proofs.Ytihfihockobpjaa
set_option linter.unusedVariables false
set_option linter.unusedSimpArgs false
open Go.ChangeShapes Go.WideShapes Go.ChangeAt Go.RowKit

set_option maxHeartbeats 1600000 in
theorem in_any (B : Nat) (A : Option Addr) (n c : Nat) (l : List Int) (x : Int) (w : World) (h : Reads w B 1 A n (i64c l)) (hn : l.length = n) (hnb : n ≤ 140737488351232) :
    Calls Try.prog 35 #[.slice A n c, .int .i64 x] w fun e w' => e = .returned (.bool (decide (x ∈ l))) ∧ w' = w := by
  have H := Lib.hid h
  have HN := Lib.hid hn
  clear h hn
  go_enter Try.func35, Try.ntmps35
  go_wp2
  go_loopw [9] (fun i wr => ∃ k : Nat, k ≤ n ∧ i = .int .i64 k ∧ Hid (x ∉ l.take k) ∧ wr = w) (fun i _ => n - (intOf i).toNat)
  case atStart => exact ⟨0, Nat.zero_le _, rfl, Lib.hid (by simp), rfl⟩
  case round =>
    obtain ⟨k, hk, rfl, HP, rfl⟩ := hrel
    by_cases hlt : k < n
    · obtain ⟨b, off, y, rfl, hb, HX, x1⟩ := H.out.int hlt
      by_cases hxy : y = x
      · have hd : (y == x) = true := by simpa using hxy
        have HR : Hid (decide (x ∈ l) = true) := Lib.hid (by rw [decide_eq_true_eq, ← hxy]; exact List.mem_of_getElem? HX.out)
        clear hxy
        go_wp2
        go_ret
        exact ⟨by rw [HR.out]; rfl, rfl⟩
      · have hd : (y == x) = false := by simpa using hxy
        have HQ : Hid (x ∉ l.take (k + 1)) := Lib.hid (by
          rw [take_at HX.out]
          simp only [List.mem_append, List.mem_singleton, not_or]
          exact ⟨HP.out, fun e => hxy e.symm⟩)
        clear hxy
        go_wp2
        go_roundw
        case rel => exact ⟨k + 1, by omega, by go_num, HQ, by first | rfl | trivial⟩
        case measure => simp [intOf]; omega
    · obtain rfl : n = k := by omega
      have HR : Hid (decide (x ∈ l) = false) := Lib.hid (by
        have h := HP.out
        rw [List.take_of_length_le (by rw [HN.out]; omega)] at h
        simpa using h)
      go_wp2
      go_ret
      exact ⟨by rw [HR.out]; rfl, rfl⟩

/-- the document's gathering loop -/
structure RaI (w : World) (zs : List Int) (k : Nat) (v : Value) (wr : World) : Prop where
  own : wr.ownsRow w.heap.size 3 1 v (addL [] (zs.take k)).length (i64c (addL [] (zs.take k)))
  below : Below w.heap.size w wr

set_option maxRecDepth 100000 in
set_option maxHeartbeats 1600000 in
theorem radd_any (B : Nat) (A : Option Addr) (n c : Nat) (zs : List Int) (w : World) (h : Reads w B 1 A n (i64c zs)) (hn : zs.length = n) (hz : ∀ x ∈ zs, I64 x) (hB : B ≤ w.heap.size) (hnb : n * 8 ≤ 140737488351232) :
    Calls Try.prog 27 #[.slice none 0 0, .slice A n c] w (NewI w (addL [] zs)) := by
  obtain ⟨i0, hi, hz0, hz1, hz2⟩ := info_parts Try.info3
  have H := Lib.hid h
  have HN := Lib.hid hn
  have HZ := Lib.hid hz
  clear h hn hz
  go_enter Try.func27, Try.ntmps27
  go_wp2
  go_loopw [0, 9] (fun v i wr => ∃ k : Nat, k ≤ n ∧ i = .int .i64 k ∧ Hid (RaI w zs k v wr)) (fun _ i _ => n - (intOf i).toNat)
  case atStart => exact ⟨0, Nat.zero_le _, rfl, ⟨World.ownsRow_nil _ _ _ _, Below.refl _ _⟩⟩
  case round =>
    obtain ⟨k, hk, rfl, HI⟩ := hrel
    have hrow := HI.out.own
    obtain ⟨A1, c1, rfl⟩ := own_slice hrow
    have hws := HI.out.below.size
    by_cases hlt : k < n
    · obtain ⟨b, off, x, rfl, hb, HX, x1⟩ := (H.out.below (HI.out.below.mono hB)).int hlt
      have hal := addL_len [] (zs.take k)
      have htk : (zs.take k).length = k := by rw [List.length_take, HN.out]; omega
      have hadd : addL [] (zs.take (k + 1)) = add1 (addL [] (zs.take k)) x := by rw [take_at HX.out, addL_snoc]
      have hbr : b < wr.heap.size := by omega
      simp only [List.length_nil, Nat.zero_add, htk] at hal
      have HADD := Lib.hid hadd
      have HRD : Hid (Reads wr wr.heap.size 1 A1 (addL [] (zs.take k)).length (i64c (addL [] (zs.take k)))) := Reads.of_own hrow
      clear hadd htk
      by_cases hneg : x < 0
      · have hg : (addL [] (zs.take (k + 1))) = addL [] (zs.take k) := by
          rw [HADD.out, add1, if_neg]
          rintro ⟨h2, _⟩
          omega
        have HG := Lib.hid hg
        clear hg
        have hd : decide (x ≥ 0) = false := by simp; omega
        go_wp2
        go_roundw
        case rel => exact ⟨k + 1, by omega, by go_num, ⟨by rw [HG.out]; exact hrow, HI.out.below⟩⟩
        case measure => simp [intOf]; omega
      · have hd : decide (x ≥ 0) = true := by simp; omega
        by_cases hin : x ∈ addL [] (zs.take k)
        · have hg : (addL [] (zs.take (k + 1))) = addL [] (zs.take k) := by
            rw [HADD.out, add1, if_neg]
            rintro ⟨_, h2⟩
            exact h2 hin
          have HG := Lib.hid hg
          have hm : decide (x ∈ addL [] (zs.take k)) = true := by simpa using hin
          have HM := Lib.hid hm
          clear hg hin hm
          go_wp2_with (first | (go_at_call 35; refine (in_any _ _ _ _ _ _ _ HRD.out rfl (by omega)).mono ?_; rintro e w2 ⟨rfl, rfl⟩; rw [HM.out]))
          go_roundw
          case rel => exact ⟨k + 1, by omega, by go_num, ⟨by rw [HG.out]; exact hrow, HI.out.below⟩⟩
          case measure => simp [intOf]; omega
        · have hg : (addL [] (zs.take (k + 1))) = addL [] (zs.take k) ++ [x] := by
            rw [HADD.out, add1, if_pos]
            exact ⟨by omega, hin⟩
          have HG := Lib.hid hg
          have hm : decide (x ∈ addL [] (zs.take k)) = false := by simpa using hin
          have HM := Lib.hid hm
          clear hg hin hm
          go_wp2_with (first
            | (go_at_call 35; refine (in_any _ _ _ _ _ _ _ HRD.out rfl (by omega)).mono ?_; rintro e w2 ⟨rfl, rfl⟩; rw [HM.out])
            | (at_builtin; refine wpList_append_own _ rfl _ _ 36 rfl w.heap.size 3 i0 (.int .i64 0) 1 8 Try.underlying36 hi hz0 hz1 hz2 rfl (by decide) _ _ _ rfl (hrow.alloc _) ⟨_, 0, none⟩ 1 1 [.int .i64 x] rfl rfl (cell_one_new _ _ _) (ints_oneCell .i64 [x]) (by unfold maxLen; omega) (by omega) (by simp; omega) ?_; intro v' w3 hown' hgrow2 hnil2))
          have s2 := hgrow2.size
          simp at s2
          go_roundw
          case rel =>
            refine ⟨k + 1, by omega, by go_num, ⟨?_, ?_⟩⟩
            · rw [HG.out]
              simpa [i64c] using hown'
            · exact ((HI.out.below.alloc hws _).grown hgrow2 (by simp; omega) (fun j hj => (hrow.lt j hj).1))
          case measure => simp [intOf]; omega
    · obtain rfl : n = k := by omega
      have hall : zs.take n = zs := List.take_of_length_le (by rw [HN.out]; omega)
      rw [hall] at hrow ⊢
      have HR : Hid (Reads wr wr.heap.size 1 A1 (addL [] zs).length (i64c (addL [] zs))) := Reads.of_own hrow
      have HC : Hid ((addL [] zs).length ≤ c1) := own_cap hrow
      have HBL := Lib.hid HI.out.below
      clear hrow hall
      go_wp2
      go_ret
      exact ⟨A1, c1, rfl, HR.out, HC.out, HBL.out⟩
end Go.Proofs.Ytihfihockobpjaa
