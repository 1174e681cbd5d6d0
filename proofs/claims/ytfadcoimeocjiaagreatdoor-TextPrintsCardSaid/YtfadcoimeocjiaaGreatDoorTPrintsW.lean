/-
  The walk through TextPrints.
-/
import Derived.Test.YtfadcoimeocjiaaGreatDoorTRefT
import Derived.Test.YtfadcoimeocjiaaGreatDoorCopy
import Derived.Test.YtfadcoimeocjiaaGreatDoorRefBytes
namespace Go.Proofs.YtfadcoimeocjiaaGreatDoor
set_option linter.unusedVariables false
open Go.ChangeShapes Go.WideShapes Go.ChangeAt Go.RowKit

theorem CpR.rdP {w w' : World} {n c : Nat} {A A' : Option Addr} {rs rs' : List Raw} {W : World} {B : Nat} (h : CpR w n (fns rs) A c rs' w') (h0 : RdP W B A' n rs) : RdP w' w'.heap.size A n rs' := by
  refine ⟨Reads.of_own h.own, ?_, fun r hr => ⟨Reads.of_own (h.each r hr).locals, Reads.of_own (h.each r hr).code⟩, fun r hr => ?_, h0.sz⟩
  · rw [← length_fns, h.eq, length_fns, h0.len]
  · have : r.fn ∈ fns rs := by rw [← h.eq]; exact List.mem_map_of_mem hr
    obtain ⟨r0, h1, h2⟩ := List.mem_map.1 this
    rw [← h2]
    exact h0.wf r0 h1

set_option maxRecDepth 100000 in
set_option maxHeartbeats 16000000 in
theorem prints_walk (A : Option Addr) (n c : Nat) (rs : List Raw) (w : World) (h : RdP w w.heap.size A n rs) (hE : Env w.heap.size w) :
    Calls Tryz.prog 3 #[.agg #[.slice A n c]] w fun e w' => e = .returned (.bool true) ∧ Below w.heap.size w w' := by
  have HB0 : Hid (Below w.heap.size w (w.alloc (.cells #[.slice A n c] 24))) := Lib.hid ((Below.refl _ _).alloc (Nat.le_refl _) _)
  have HX0 : Hid (Blk (w.alloc (.cells #[.slice A n c] 24)) w.heap.size 24 #[.slice A n c]) := Lib.hid (Blk.new w _ _)
  have HP := Lib.hid h
  have HE := Lib.hid hE
  clear h hE
  obtain ⟨S, HS⟩ : ∃ S, Hid (S = str (if okP (fns rs) then printT (fns rs) else [])) := ⟨_, Lib.hid rfl⟩
  obtain ⟨pe, HPE⟩ : ∃ e : Int, Hid (e = if okP (fns rs) then 0 else 30) := ⟨_, Lib.hid rfl⟩
  go_enter Tryz.func3, Tryz.ntmps3
  go_wp2_with (go_at_call 4; refine (first_any _ (HE.out.at_ HB0.out HB0.out.size)).mono ?_; rintro e w1 ⟨rfl, hb1⟩; refine Hid.out ?_)
  have hz1 : w.heap.size + 1 ≤ w1.heap.size := by have := hb1.size; simp at this; omega
  have HB1 := Lib.hid (HB0.out.trans (hb1.mono HB0.out.size))
  have HX1 := Lib.hid (HX0.out.below hb1 (by simp))
  have x1 : w1.cell? ⟨w.heap.size, 0, none⟩ = some (.slice A n c) := HX1.out.cell 0
  clear hb1
  refine Lib.hid ?_
  go_wp2_with (go_at_call 5; refine (rcopy_any w.heap.size A n c rs _ (HP.out.below HB1.out) (by omega)).mono ?_; rintro e w2 ⟨A2, c2, rs2, rfl, hc2⟩; refine Hid.out ?_)
  have hz2 : w1.heap.size ≤ w2.heap.size := hc2.below.size
  have HB2 := Lib.hid (HB1.out.trans (hc2.below.mono (by omega)))
  have HX2 := Lib.hid (HX1.out.below hc2.below (by omega))
  have HEQ := Lib.hid hc2.eq
  have HP2 : Hid (RdP w2 w2.heap.size A2 n rs2) := Lib.hid (hc2.rdP HP.out)
  have HB2a := Lib.hid (HB2.out.alloc (by omega) (.cells #[.slice A2 n c2] 24))
  have HX2a := Lib.hid (HX2.out.alloc (.cells #[.slice A2 n c2] 24))
  have HY2a := Lib.hid (Blk.new w2 24 #[.slice A2 n c2])
  have HP2a := Lib.hid (HP2.out.alloc (Nat.le_refl _) (.cells #[.slice A2 n c2] 24))
  have x2 : w2.cell? ⟨w.heap.size, 0, none⟩ = some (.slice A n c) := HX2.out.cell 0
  have hz2' : w.heap.size < w2.heap.size := by omega
  clear hc2 x1
  refine Lib.hid ?_
  go_wp2_with (go_at_call 6; refine (print_S w.heap.size A n c rs S pe HS.out HPE.out _ (HP.out.below HB2a.out) (by simp; omega) (HE.out.at_ HB2a.out HB2a.out.size)).mono ?_; rintro e w3 ⟨rfl, hb3⟩; refine Hid.out ?_)
  have hz3 : w2.heap.size + 1 ≤ w3.heap.size := by have := hb3.size; simp at this; omega
  have HB3 := Lib.hid (HB2a.out.trans (hb3.mono HB2a.out.size))
  have HX3 := Lib.hid (HX2a.out.below hb3 (by simp; omega))
  have HY3 := Lib.hid (HY2a.out.below hb3 (by simp))
  have HP3 := Lib.hid (HP2a.out.below (hb3.mono (by simp)))
  have x3 : w3.cell? ⟨w.heap.size, 0, none⟩ = some (.slice A n c) := HX3.out.cell 0
  have y3 : w3.cell? ⟨w2.heap.size, 0, none⟩ = some (.slice A2 n c2) := HY3.out.cell 0
  have HD3 : Hid (decide (fns rs = fns rs2) = true) := Lib.hid (by rw [HEQ.out]; simp)
  clear hb3 x2
  refine Lib.hid ?_
  go_wp2_with (go_at_call 7; refine (rsame_any w3.heap.size _ _ _ _ _ _ _ _ _ ((HP.out.below HB3.out).more (by omega)) (HP3.out.more (by omega)) (Nat.le_refl _)).mono ?_; rintro e w4 ⟨rfl, hb4⟩; rw [HD3.out]; refine Hid.out ?_)
  have hz4 : w3.heap.size ≤ w4.heap.size := hb4.size
  have HB4 := Lib.hid (HB3.out.trans (hb4.mono (by omega)))
  have HX4 := Lib.hid (HX3.out.below hb4 (by omega))
  have HY4 := Lib.hid (HY3.out.below hb4 (by omega))
  have HP4 := Lib.hid (HP3.out.below (hb4.mono (by omega)))
  have y4 : w4.cell? ⟨w2.heap.size, 0, none⟩ = some (.slice A2 n c2) := HY4.out.cell 0
  clear hb4 x3 y3
  refine Lib.hid ?_
  go_wp2_with (go_at_call 8; refine (bytes_any w2.heap.size A2 n c2 rs2 _ HP4.out (by omega)).mono ?_; rintro e w5 ⟨A5, k5, c5, rfl, _, _, hb5⟩; rw [HEQ.out]; refine Hid.out ?_)
  have hz5 : w4.heap.size ≤ w5.heap.size := hb5.size
  have HB5 := Lib.hid (HB4.out.trans (hb5.mono (by omega)))
  have HX5 := Lib.hid (HX4.out.below hb5 (by omega))
  have HY5 := Lib.hid (HY4.out.below hb5 (by omega))
  have HP5 := Lib.hid (HP4.out.below (hb5.mono (by omega)))
  clear hb5 y4
  cases hok : okP (fns rs) with
  | false =>
    have h1 : pe = 30 := by have := HPE.out; rw [hok] at this; simpa using this
    have h2 : S = str [] := by have := HS.out; rw [hok] at this; simpa using this
    subst h1
    have hs : (S.toList == []) = true := by rw [h2, str_toList]; rfl
    have hs2 : S.toList.isEmpty = true := by rw [h2, str_toList]; rfl
    clear h2 hok
    refine Lib.hid ?_
    go_wp2
    go_ret
    exact ⟨rfl, HB5.out⟩
  | true =>
    have h1 : pe = 0 := by have := HPE.out; rw [hok] at this; simpa using this
    have h2 : S = str (printT (fns rs)) := by have := HS.out; rw [hok] at this; simpa using this
    subst h1
    have HOK := Lib.hid hok
    have HSP := Lib.hid h2
    have hl := printT_len hok
    have hX : S.size ≤ 484755000 := by rw [h2, str_size]; exact hl
    have HPY : Hid (Calls Tryz.prog 9 #[.string S] w5 fun e w' => ∃ (A7 : Option Addr) (n7 c7 : Nat) (xs : List Raw), fns xs = fns rs ∧ e = .returned (.tuple #[.agg #[.slice A7 n7 c7], .int .i64 0, .int .i64 0]) ∧ RdP w' w'.heap.size A7 n7 xs ∧ n7 ≤ c7 ∧ Below w5.heap.size w5 w') := Lib.hid (by
      rw [h2]
      exact parse_yes _ _ (parse_print _ (okP_fns hok)) (by omega) w5 (HE.out.at_ HB5.out HB5.out.size))
    clear hok h2 hl
    refine Lib.hid ?_
    go_wp2_with (go_at_call 9; refine HPY.out.mono ?_; rintro e w7 ⟨A7, n7, c7, xs, hx, rfl, hr7, hn7, hb7⟩; refine Hid.out ?_)
    have hz7 : w5.heap.size ≤ w7.heap.size := hb7.size
    have HB7 := Lib.hid (HB5.out.trans (hb7.mono (by omega)))
    have HY7 := Lib.hid (HY5.out.below hb7 (by omega))
    have y7 : w7.cell? ⟨w2.heap.size, 0, none⟩ = some (.slice A2 n c2) := HY7.out.cell 0
    have y7a : ∀ o : Obj, (w7.alloc o).cell? ⟨w2.heap.size, 0, none⟩ = some (.slice A2 n c2) := fun o => (HY7.out.alloc o).cell 0
    have hz27 : w2.heap.size < w7.heap.size := by omega
    have HP7 := Lib.hid (HP5.out.below (hb7.mono (by omega)))
    have HBx : Hid (Below w.heap.size w (w7.alloc (.cells #[.slice A7 n7 c7] 24))) := Lib.hid (HB7.out.alloc (by omega) _)
    have HQ8 := Lib.hid (Blk.new w7 24 #[.slice A7 n7 c7])
    have HT7 : Hid (∀ W : World, Below w7.heap.size w7 W → Calls Tryz.prog 10 #[.agg #[.slice A2 n c2]] W fun e w' => e = .returned (.string S) ∧ Below W.heap.size W w') := Lib.hid (fun W hW => by
      rw [HSP.out, ← HEQ.out]
      exact rtext_any w2.heap.size A2 n c2 rs2 W (HP7.out.below (hW.mono (by omega))) (by have := hW.size; omega) (by rw [HEQ.out]; exact HOK.out))
    have HS7 : Hid (∀ W : World, Below w7.heap.size w7 W → Calls Tryz.prog 7 #[.agg #[.slice A7 n7 c7], .agg #[.slice A2 n c2]] W fun e w' => e = .returned (.bool true) ∧ Below W.heap.size W w') := Lib.hid (fun W hW => by
      have hd : decide (fns xs = fns rs2) = true := by rw [hx, HEQ.out]; simp
      rw [← hd]
      exact rsame_any w7.heap.size _ _ _ _ _ _ _ _ W (hr7.below (hW.mono (by omega))) ((HP7.out.below (hW.mono (by omega))).more (by omega)) hW.size)
    have hq : (S.toList == S.toList) = true := by simp
    clear hx hr7 hb7
    refine Lib.hid ?_
    go_wp2_with (first
      | (go_at_call 10; refine (HT7.out _ ((Below.refl _ _).alloc (Nat.le_refl _) _)).mono ?_; rintro e w8 ⟨rfl, hb8⟩; have hz8 : w7.heap.size + 1 ≤ w8.heap.size := by { have := hb8.size; simp at this; omega }; have HB8 := Lib.hid (HBx.out.trans (hb8.mono HBx.out.size)); have HW8 : Hid (Below w7.heap.size w7 w8) := Lib.hid (((Below.refl _ _).alloc (Nat.le_refl _) _).trans (hb8.mono (by simp))); have y8 : w8.cell? ⟨w2.heap.size, 0, none⟩ = some (.slice A2 n c2) := (HY7.out.below HW8.out (by omega)).cell 0; have q8 : w8.cell? ⟨w7.heap.size, 0, none⟩ = some (.slice A7 n7 c7) := (HQ8.out.below hb8 (by simp)).cell 0; clear hb8)
      | (go_at_call 7; refine (HS7.out _ HW8.out).mono ?_; rintro e w9 ⟨rfl, hb9⟩; have HB9 := Lib.hid (HB8.out.trans (hb9.mono HB8.out.size)); clear hb9))
    go_ret
    exact ⟨rfl, HB9.out⟩
end Go.Proofs.YtfadcoimeocjiaaGreatDoor
