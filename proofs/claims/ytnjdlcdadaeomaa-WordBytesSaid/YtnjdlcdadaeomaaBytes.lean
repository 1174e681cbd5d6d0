/-
  The walk through WordBytes: a word put behind bytes is taken again, and nothing beyond the end.
-/
import Derived.Test.YtnjdlcdadaeomaaRefB
import Derived.Deep.RegionHeld3
import Derived.Laws.BytesArg
namespace Go.Proofs.Ytnjdlcdadaeomaa
open Go.ChangeShapes Go.WideShapes Go.ChangeAt Go.RowKit

/-- a slice of bytes reads as this text in the world -/
def Reads (w : World) (ao : Option Addr) (len cap : Nat) (s : ByteArray) : Prop := (convert 32 9 (.slice ao len cap)).run Try.prog w = .ok (.string s) w
theorem reads_of {w : World} {ao : Option Addr} {len cap : Nat} {l : List Int} (h : Holds .u8 w ao len l) : Reads w ao len cap (strOfNums l) := by
  cases ao with
  | none =>
    have h0 : len = 0 := by
      rcases Nat.eq_zero_or_pos len with h0 | h0
      · exact h0
      · obtain ⟨b, off, e, _⟩ := h.2 h0; cases e
    subst h0
    have hl : l = [] := List.eq_nil_of_length_eq_zero h.1
    subst hl
    exact run_convert_bytes_nil w 32 5 Try.underlying32 Try.underlying5 0 cap 9 Try.underlying9
  | some ad =>
    rcases Nat.eq_zero_or_pos len with h0 | h0
    · subst h0
      have hl : l = [] := List.eq_nil_of_length_eq_zero h.1
      subst hl
      unfold Reads
      rw [run_convert_bytes_string w 32 9 5 _ 0 cap Try.underlying32 Try.underlying5 Try.underlying9, run_bytesToString w ad 0 cap [] rfl]
      rfl
    · obtain ⟨b, off, e, _, hc⟩ := h.2 h0
      obtain rfl : ad = ⟨b, off, none⟩ := by simpa using e
      exact run_convert_bytes_arg w 32 5 Try.underlying32 Try.underlying5 b off len cap l h.1 hc 9 Try.underlying9
theorem reads_at {w : World} {ao : Option Addr} {len c : Nat} {l : List Int} (h : Holds .u8 w ao len l) : (convert 32 9 (.slice ao len c)).run Try.prog w = .ok (.string (strOfNums l)) w := reads_of h
theorem strOfNums_append (a b : List Int) : strOfNums (a ++ b) = strOfNums a ++ strOfNums b := by
  apply ByteArray.ext
  simp [strOfNums]

theorem wpAnyH_weaken {P : Program} {md : Region.Mode} {ops : Array Oper} {Q : Exit → Act → World → Prop} {S S' : World → Prop} (hS : ∀ W, S' W → S W) : ∀ (fuel : Nat) (listed : Array Bool) (a : Act) (w : World), wpAnyH P md ops Q S' fuel listed a w → wpAnyH P md ops Q S fuel listed a w
  | 0, _, _, _, h => h
  | fuel + 1, _, _, _, h => ⟨h.1, fun i hi => wpOp_mono (fun a' w' h' => ⟨hS _ h'.1, wpAnyH_weaken hS fuel _ a' w' h'.2⟩) (h.2 i hi)⟩
/-- what was there in the world w2 is as it was -/
def Kn (w2 W : World) : Prop := Below w2.heap.size w2 W

set_option linter.unusedSimpArgs false in
set_option maxHeartbeats 1600000 in
theorem bytes_walk (ao : Option Addr) (n c : Nat) (l : List Int) (v : Int) (i : Int) (w : World) (hh : Holds .u8 w ao n l) (hlb : ∀ x ∈ l, 0 ≤ x ∧ x ≤ 255) (hr : n ≤ 140737488351232) (hv : isW v) :
    Calls Try.prog 5 #[.slice ao n c, .int .u64 v, .int .i64 i] w fun e w' => e = .returned (.bool true) ∧ Below w.heap.size w w' := by
  have HH := Lib.hid hh
  have HV := Lib.hid hv
  clear hh hv
  go_enter Try.func5, Try.ntmps5
  go_wp2_with (first
    | (go_at_call 10; refine (first_any _).mono ?_; rintro e w1 ⟨rfl, hb⟩; have hcv : (convert 32 9 (.slice ao n c)).run Try.prog w1 = .ok (.string (strOfNums l)) w1 := reads_of (HH.out.below hb)))
  (refine (put_any ao n c l v _ (HH.out.below hb) (by omega) HV.out).mono ?_); rintro e w2 ⟨g, rfl, hg, hblk, hb2⟩
  have HB2 := Lib.hid (hb.trans (hb2.mono hb.size))
  have HO := Lib.hid (holds_put HH.out.1 hblk)
  clear hcv hb hb2 hblk
  have hk0 : Kn w2 w2 := Below.refl _ _
  have hkd : ∀ W, Kn w2 W.drew = Kn w2 W := fun W => propext ⟨fun h => ⟨h.os, h.tape, h.output, h.size, h.block⟩, fun h => h.drew⟩
  have hcA : ∀ W, Kn w2 W → (convert 32 9 (.slice ao n c)).run Try.prog W = .ok (.string (strOfNums l)) W := fun W hW => reads_of ((HH.out.below HB2.out).below hW)
  have hcO : ∀ W, Kn w2 W → (convert 32 9 (.slice (some ⟨g, 0, none⟩) (n + 8) (n + 8))).run Try.prog W = .ok (.string (strOfNums (l ++ wbytes v))) W := fun W hW => reads_of (HO.out.below hW)
  have HCA := Lib.hid hcA
  have HCO := Lib.hid hcO
  clear hcA hcO
  go_wp2_with fail
  have hce : ∀ j, j < n + 8 → w2.cell? ⟨g, 0 + j, none⟩ = some (.int .u8 ((l ++ wbytes v).getD j 0)) := by
    obtain ⟨b, off, e, _, hcc⟩ := HO.out.2 (by omega)
    simp only [Option.some.injEq, Addr.mk.injEq, and_true] at e
    obtain ⟨rfl, rfl⟩ := e
    exact hcc
  have HCE := Lib.hid hce
  have ht : take8 (l ++ wbytes v) n 8 = v := by
    have h := take8_mid (a := l) (c := []) HV.out
    rw [List.append_nil, HH.out.1] at h
    exact h
  have HT := Lib.hid ht
  clear hce ht
  (refine (take_at g 0 (n + 8) (n + 8) _ n rfl (l ++ wbytes v) _ HO.out.1 HCE.out (areBytes_of (bytes_append hlb)) (by omega) (by unfold maxLen; omega)).mono ?_); rintro e w' ⟨rfl, rfl⟩
  rw [HT.out]
  go_wp2_with fail
  have hadd : ∀ W, (Op.stringOp .add (strOfNums l) (strOfNums (wbytes v))).run Try.prog W = .ok (.string (strOfNums (l ++ wbytes v))) W := by
    intro W
    rw [run_string_add_sum _ _ _ (by rw [strOfNums_size, strOfNums_size, length_wbytes, HH.out.1]; omega), strOfNums_append]
  have hcA := HCA.out
  have hcO := HCO.out
  refine wp_region_held_drew (S := fun W => Kn w2 W) (by kernel_rfl) (by rw [hkd]; exact hk0) (fun hHeld => ?_)
  refine wpAnyH_take (i := 0) (oi := ⟨some 27, _, _, _, _, _⟩) (v := ?_) rfl (by kernel_rfl) (by kernel_rfl) (by kernel_rfl) (fun _ _ _ h => h) (Or.inl ⟨by rfl, ?_⟩) (by assumption) ?_
  rotate_left
  · intro W hSW
    go_simp
    try with_reducible rfl
  simp only [Act.put, List.setIfInBounds_toArray, List.set_cons_zero, List.set_cons_succ]
  refine wpAnyH_take (i := 1) (oi := ⟨some 28, _, _, _, _, _⟩) (v := ?_) rfl (by kernel_rfl) (by kernel_rfl) (by kernel_rfl) (fun _ _ _ h => h) (Or.inl ⟨by rfl, ?_⟩) (by assumption) ?_
  rotate_left
  · intro W hSW
    go_simp
    try with_reducible rfl
  simp only [Act.put, List.setIfInBounds_toArray, List.set_cons_zero, List.set_cons_succ]
  refine wpAnyH_take (i := 2) (oi := ⟨some 29, _, _, _, _, _⟩) (v := ?_) rfl (by kernel_rfl) (by kernel_rfl) (by kernel_rfl) (fun _ _ _ h => h) (Or.inl ⟨by rfl, ?_⟩) (by assumption) ?_
  rotate_left
  · intro W hSW
    go_simp
    try with_reducible rfl
  simp only [Act.put, List.setIfInBounds_toArray, List.set_cons_zero, List.set_cons_succ]
  refine wpAnyH_take (i := 3) (oi := ⟨some 30, _, _, _, _, _⟩) (v := ?_) rfl (by kernel_rfl) (by kernel_rfl) (by kernel_rfl) (fun _ _ _ h => h) (Or.inl ⟨by rfl, ?_⟩) (by assumption) ?_
  rotate_left
  · intro W hSW
    go_simp
    try with_reducible rfl
  simp only [Act.put, List.setIfInBounds_toArray, List.set_cons_zero, List.set_cons_succ]
  refine wpAnyH_take (i := 4) (oi := ⟨some 31, _, _, _, _, _⟩) (v := ?_) rfl (by kernel_rfl) (by kernel_rfl) (by kernel_rfl) (fun _ _ _ h => h) (Or.inl ⟨by rfl, ?_⟩) (by assumption) ?_
  rotate_left
  · intro W hSW
    go_simp
    try with_reducible rfl
  simp only [Act.put, List.setIfInBounds_toArray, List.set_cons_zero, List.set_cons_succ]
  refine wpAnyH_take (i := 5) (oi := ⟨some 32, _, _, _, _, _⟩) (v := ?_) rfl (by kernel_rfl) (by kernel_rfl) (by kernel_rfl) (fun _ _ _ h => h) (Or.inl ⟨by rfl, ?_⟩) (by assumption) ?_
  rotate_left
  · intro W hSW
    go_simp
    try with_reducible rfl
  simp only [Act.put, List.setIfInBounds_toArray, List.set_cons_zero, List.set_cons_succ]
  refine wpAnyH_take (i := 6) (oi := ⟨some 33, _, _, _, _, _⟩) (v := ?_) rfl (by kernel_rfl) (by kernel_rfl) (by kernel_rfl) (fun _ _ _ h => h) (Or.inl ⟨by rfl, ?_⟩) (by assumption) ?_
  rotate_left
  · intro W hSW
    go_simp
    try with_reducible rfl
  simp only [Act.put, List.setIfInBounds_toArray, List.set_cons_zero, List.set_cons_succ]
  refine wpAnyH_take (i := 7) (oi := ⟨some 34, _, _, _, _, _⟩) (v := ?_) rfl (by kernel_rfl) (by kernel_rfl) (by kernel_rfl) (fun _ _ _ h => h) (Or.inl ⟨by rfl, ?_⟩) (by assumption) ?_
  rotate_left
  · intro W hSW
    go_simp
    try with_reducible rfl
  simp only [Act.put, List.setIfInBounds_toArray, List.set_cons_zero, List.set_cons_succ]
  refine wpAnyH_take (i := 8) (oi := ⟨some 35, _, _, _, _, _⟩) (v := ?_) rfl (by kernel_rfl) (by kernel_rfl) (by kernel_rfl) (fun _ _ _ h => h) (Or.inl ⟨by rfl, ?_⟩) (by assumption) ?_
  rotate_left
  · intro W hSW
    go_simp
    try with_reducible rfl
  simp only [Act.put, List.setIfInBounds_toArray, List.set_cons_zero, List.set_cons_succ]
  refine wpAnyH_ready (rs := [9]) (by kernel_rfl) (by simp) ?_
  refine AllReadyH.cons (o := ⟨some 36, _, _, _, _, _⟩) rfl (fun K hK => ?_) AllReadyH.nil
  go_simp
  (refine (refbytes_any _ HV.out _).mono ?_); rintro e w3 ⟨g3, cap3, rfl, hold3, hg3, hb3⟩
  have hc3 : ∀ W, Kn w3 W → (convert 32 9 (.slice (some ⟨g3, 0, none⟩) 8 cap3)).run Try.prog W = .ok (.string (strOfNums (wbytes v))) W := fun W hW => reads_of (hold3.below hW)
  have hk3 : Kn w2 w3 := Below.trans (Below.drew (Below.refl _ _)) hb3
  go_wp2_with fail
  refine hK.out _ _ hk3 (fun hHeld2 => ?_)
  clear hK hHeld hHeld2
  have hk4 : Kn w3 w3 := Below.refl _ _
  refine wpAnyH_weaken (S' := fun W => Kn w3 W) (fun W hW => Below.trans hk3 (Below.mono hW hk3.size)) _ _ _ _ ?_
  have hcO3 : ∀ W, Kn w3 W → (convert 32 9 (.slice (some ⟨g, 0, none⟩) (n + 8) (n + 8))).run Try.prog W = .ok (.string (strOfNums (l ++ wbytes v))) W := fun W hW => hcO W (Below.trans hk3 (Below.mono hW hk3.size))
  clear hcO hcA
  refine wpAnyH_take (i := 10) (oi := ⟨some 37, _, _, _, _, _⟩) (v := ?_) rfl (by kernel_rfl) (by kernel_rfl) (by kernel_rfl) (fun _ _ _ h => h) (Or.inl ⟨by rfl, ?_⟩) (by assumption) ?_
  rotate_left
  · intro W hSW
    go_simp
    try with_reducible rfl
  simp only [Act.put, List.setIfInBounds_toArray, List.set_cons_zero, List.set_cons_succ]
  refine wpAnyH_take (i := 11) (oi := ⟨some 38, _, _, _, _, _⟩) (v := ?_) rfl (by kernel_rfl) (by kernel_rfl) (by kernel_rfl) (fun _ _ _ h => h) (Or.inl ⟨by rfl, ?_⟩) (by assumption) ?_
  rotate_left
  · intro W hSW
    go_simp
    try with_reducible rfl
  simp only [Act.put, List.setIfInBounds_toArray, List.set_cons_zero, List.set_cons_succ]
  refine wpAnyH_take (i := 12) (oi := ⟨some 39, _, _, _, _, _⟩) (v := ?_) rfl (by kernel_rfl) (by kernel_rfl) (by kernel_rfl) (fun _ _ _ h => h) (Or.inl ⟨by rfl, ?_⟩) (by assumption) ?_
  rotate_left
  · intro W hSW
    go_simp
    try with_reducible rfl
  simp only [Act.put, List.setIfInBounds_toArray, List.set_cons_zero, List.set_cons_succ]
  refine wpAnyH_take (i := 13) (oi := ⟨some 40, _, _, _, _, _⟩) (v := ?_) rfl (by kernel_rfl) (by kernel_rfl) (by kernel_rfl) (fun _ _ _ h => h) (Or.inl ⟨by rfl, ?_⟩) (by assumption) ?_
  rotate_left
  · intro W hSW
    go_simp
    try with_reducible rfl
  simp only [Act.put, List.setIfInBounds_toArray, List.set_cons_zero, List.set_cons_succ]
  refine wpAnyH_take (i := 14) (oi := ⟨some 41, _, _, _, _, _⟩) (v := ?_) rfl (by kernel_rfl) (by kernel_rfl) (by kernel_rfl) (fun _ _ _ h => h) (Or.inl ⟨by rfl, ?_⟩) (by assumption) ?_
  rotate_left
  · intro W hSW
    go_simp
    try with_reducible rfl
  simp only [Act.put, List.setIfInBounds_toArray, List.set_cons_zero, List.set_cons_succ]
  refine wpAnyH_take (i := 15) (oi := ⟨some 42, _, _, _, _, _⟩) (v := ?_) rfl (by kernel_rfl) (by kernel_rfl) (by kernel_rfl) (fun _ _ _ h => h) (Or.inl ⟨by rfl, ?_⟩) (by assumption) ?_
  rotate_left
  · intro W hSW
    go_simp
    try with_reducible rfl
  simp only [Act.put, List.setIfInBounds_toArray, List.set_cons_zero, List.set_cons_succ]
  refine wpAnyH_take (i := 16) (oi := ⟨some 43, _, _, _, _, _⟩) (v := ?_) rfl (by kernel_rfl) (by kernel_rfl) (by kernel_rfl) (fun _ _ _ h => h) (Or.inl ⟨by rfl, ?_⟩) (by assumption) ?_
  rotate_left
  · intro W hSW
    go_simp
    try with_reducible rfl
  simp only [Act.put, List.setIfInBounds_toArray, List.set_cons_zero, List.set_cons_succ]
  refine wpAnyH_take (i := 17) (oi := ⟨some 44, _, _, _, _, _⟩) (v := ?_) rfl (by kernel_rfl) (by kernel_rfl) (by kernel_rfl) (fun _ _ _ h => h) (Or.inl ⟨by rfl, ?_⟩) (by assumption) ?_
  rotate_left
  · intro W hSW
    go_simp
    try with_reducible rfl
  simp only [Act.put, List.setIfInBounds_toArray, List.set_cons_zero, List.set_cons_succ]
  refine wpAnyH_take (i := 18) (oi := ⟨some 45, _, _, _, _, _⟩) (v := ?_) rfl (by kernel_rfl) (by kernel_rfl) (by kernel_rfl) (fun _ _ _ h => h) (Or.inl ⟨by rfl, ?_⟩) (by assumption) ?_
  rotate_left
  · intro W hSW
    go_simp
    try with_reducible rfl
  simp only [Act.put, List.setIfInBounds_toArray, List.set_cons_zero, List.set_cons_succ]
  refine wpAnyH_take (i := 19) (oi := ⟨some 46, _, _, _, _, _⟩) (v := ?_) rfl (by kernel_rfl) (by kernel_rfl) (by kernel_rfl) (fun _ _ _ h => h) (Or.inl ⟨by rfl, ?_⟩) (by assumption) ?_
  rotate_left
  · intro W hSW
    go_simp
    try with_reducible rfl
  simp only [Act.put, List.setIfInBounds_toArray, List.set_cons_zero, List.set_cons_succ]
  refine wpAnyH_take (i := 20) (oi := ⟨some 47, _, _, _, _, _⟩) (v := ?_) rfl (by kernel_rfl) (by kernel_rfl) (by kernel_rfl) (fun _ _ _ h => h) (Or.inl ⟨by rfl, ?_⟩) (by assumption) ?_
  rotate_left
  · intro W hSW
    go_simp
    try with_reducible rfl
  simp only [Act.put, List.setIfInBounds_toArray, List.set_cons_zero, List.set_cons_succ]
  refine wpAnyH_take (i := 21) (oi := ⟨some 48, _, _, _, _, _⟩) (v := ?_) rfl (by kernel_rfl) (by kernel_rfl) (by kernel_rfl) (fun _ _ _ h => h) (Or.inl ⟨by rfl, ?_⟩) (by assumption) ?_
  rotate_left
  · intro W hSW
    go_simp
    try with_reducible rfl
  simp only [Act.put, List.setIfInBounds_toArray, List.set_cons_zero, List.set_cons_succ]
  refine wpAnyH_take (i := 22) (oi := ⟨some 49, _, _, _, _, _⟩) (v := ?_) rfl (by kernel_rfl) (by kernel_rfl) (by kernel_rfl) (fun _ _ _ h => h) (Or.inl ⟨by rfl, ?_⟩) (by assumption) ?_
  rotate_left
  · intro W hSW
    go_simp
    try with_reducible rfl
  simp only [Act.put, List.setIfInBounds_toArray, List.set_cons_zero, List.set_cons_succ]
  refine wpAnyH_done (by kernel_rfl) ?_ _
  clear hcO3 hc3 hk4 hadd
  have hlast : Below w.heap.size w w3 := HB2.out.trans (Below.mono hk3 HB2.out.size)
  have hce3 : ∀ j, j < n + 8 → w3.cell? ⟨g, 0 + j, none⟩ = some (.int .u8 ((l ++ wbytes v).getD j 0)) := by
    obtain ⟨b, off, e, _, hcc⟩ := (HO.out.below hk3).2 (by omega)
    simp only [Option.some.injEq, Addr.mk.injEq, and_true] at e
    obtain ⟨rfl, rfl⟩ := e
    exact hcc
  have HCE3 := Lib.hid hce3
  clear hce3 hk3 hb3 hold3 hk0 hkd HCA HCO HCE hg3 hg
  by_cases hout : i < 0 ∨ (n : Int) < i
  · go_wp2_with (go_at_call 14; refine (take_out _ _ _ _ _ (by unfold maxLen; omega) (by omega)).mono ?_; rintro e w' ⟨rfl, rfl⟩)
    all_goals (go_ret; exact ⟨rfl, hlast⟩)
  · obtain ⟨m, HM⟩ : ∃ m : Nat, Hid (i = m) := ⟨i.toNat, show i = (i.toNat : Int) by omega⟩
    rw [HM.out] at hout ⊢
    obtain ⟨y, HY⟩ : ∃ y, Hid (y = take8 (l ++ wbytes v) m 8) := ⟨_, rfl⟩
    have hmn : m ≤ n := by omega
    clear hout
    obtain ⟨l', HL'⟩ : ∃ l' : List Int, Hid (l' = (l ++ wbytes v).drop m) := ⟨_, rfl⟩
    have hget : ∀ j, (l ++ wbytes v).getD (m + j) 0 = l'.getD j 0 := by
      intro j
      rw [HL'.out, List.getD_eq_getElem?_getD, List.getD_eq_getElem?_getD, List.getElem?_drop]
    have HG := Lib.hid hget
    have hab := areBytes_of (bytes_append (v := v) hlb)
    have hab' : AreBytes l' := fun j => by rw [← HG.out j]; exact hab (m + j)
    have hsame : hacc l' 8 = y := by
      rw [HY.out]
      exact (take8_hacc hab hab' m (fun j _ => HG.out j)).symm
    have HS := Lib.hid hsame
    have HA := Lib.hid hab
    have HA' := Lib.hid hab'
    have hcw : ∀ j, j < 8 → w3.cell? ⟨g, m + j, none⟩ = some (.int .u8 (l'.getD j 0)) := by
      intro j hj
      rw [← HG.out j, ← HCE3.out (m + j) (by omega), Nat.zero_add]
    have HCW := Lib.hid hcw
    clear hget hab hab' hsame hcw hlb
    go_wp2_with (first
      | (go_at_call 14; refine (take_in g 0 (n + 8) (n + 8) m (l ++ wbytes v) _ HO.out.1 HCE3.out HA.out (by omega) (by unfold maxLen; omega)).mono ?_; rintro e w' ⟨rfl, rfl⟩; rw [← HY.out])
      | (go_at_call 16; refine (refword_any g m 8 _ l' _ rfl HCW.out HA'.out).mono ?_; rintro e w' ⟨rfl, rfl⟩; rw [HS.out]))
    go_ret
    exact ⟨rfl, hlast⟩

theorem bytes_all (a0 : Option Addr) (len0 cap0 : Nat) (z0 : List Int) (a1 : Int) (a2 : Int) (w : World) (w0 : IsRow .u8 w a0 len0 cap0 z0) (w1 : (Lit.int .u64 a1).wf = true) (_w2 : (Lit.int .i64 a2).wf = true) (s0 : cap0 * 1 ≤ 140737488351232) :
    Calls Try.prog 5 #[.slice a0 len0 cap0, .int .u64 a1, .int .i64 a2] w fun e w' => e = .returned (.bool true) ∧ Below w.heap.size w w' :=
  bytes_walk a0 len0 cap0 _ a1 a2 w w0.holds w0.bytes (by have := w0.le; omega) (isW_of w1)
end Go.Proofs.Ytnjdlcdadaeomaa
