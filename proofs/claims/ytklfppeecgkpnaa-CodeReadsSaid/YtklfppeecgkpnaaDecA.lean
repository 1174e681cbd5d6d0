/-
  The reader's flag, keep, kinds, instruction, instructions.
-/
import Derived.Test.YtklfppeecgkpnaaRd
import Derived.Test.YtklfppeecgkpnaaApp
import Derived.Test.YtklfppeecgkpnaaOps
namespace Go.Proofs.Ytklfppeecgkpnaa
set_option linter.unusedVariables false
open Go.ChangeShapes Go.WideShapes Go.ChangeAt Go.RowKit

theorem Rdr.byt {w : World} {B g : Nat} {l : List Int} (h : Rdr w B g (some l)) : Byt l := by
  obtain ⟨A, n, c, h1, _, h3, h4, h5⟩ := h
  exact h5.2.2.1
theorem Rdr.num_bd {w : World} {B g : Nat} {s : St} (h : Rdr w B g s) (n : Nat) : 0 ≤ (num n s).1 ∧ (num n s).1 < 256 ^ n := by
  have hp : (0 : Int) < 256 ^ n := Int.pow_pos (by omega)
  cases s with
  | none => exact ⟨Int.le_refl _, hp⟩
  | some l =>
    simp only [num]
    split
    · rename_i hn
      have := leV_bd (h.byt.take n)
      rw [List.length_take, Nat.min_eq_left hn] at this
      exact this
    · exact ⟨Int.le_refl _, hp⟩
theorem Rdr.num1 {w : World} {B g : Nat} {s : St} (h : Rdr w B g s) : 0 ≤ (num 1 s).1 ∧ (num 1 s).1 ≤ 255 := by
  have := h.num_bd 1
  simp only [Int.reducePow] at this
  omega

set_option maxHeartbeats 800000 in
theorem flag_any (B g : Nat) (s : St) (w : World) (h : Rdr w B g s) :
    Calls Try.prog 43 #[.pointer (some ⟨g, 0, none⟩)] w (Rd2 B g w (.bool (pFlag s).1) (pFlag s).2) := by
  have hv := h.num1
  unfold pFlag
  obtain ⟨v, HV⟩ : ∃ v, Hid (v = (num 1 s).1) := ⟨_, rfl⟩
  rw [← HV.out] at hv ⊢
  obtain ⟨hv0, hv1⟩ := hv
  have H := Lib.hid h
  clear h
  have hR : Rd2 B g w (.bool (decide (v = 1))) (need (decide (v ≤ 1)) (num 1 s).2) = Rd2 B g w (.bool (v == 1)) (need (decide (v ≤ 1)) (num 1 s).2) := by
    congr 2
  rw [hR]
  clear hR
  go_enter Try.func43, Try.ntmps43
  go_wp2_with (go_at_call 35; refine (number_any B g 1 s _ H.out (by omega)).mono ?_; rintro e w1 ⟨rfl, h1, hg1⟩; refine Hid.out ?_)
  rw [← HV.out]
  have H1 := Lib.hid h1
  have HG := Lib.hid hg1
  clear h1 hg1
  refine Lib.hid ?_
  go_wp2_with (go_at_call 21; refine (need_any B g _ _ _ H1.out).mono ?_; rintro e w2 ⟨rfl, h2, hg2⟩; refine Hid.out ?_)
  have H2 := Lib.hid h2
  have HG2 := Lib.hid (grown_trans' HG.out hg2)
  clear h2 hg2
  refine Lib.hid ?_
  go_wp2
  go_ret
  exact ⟨rfl, H2.out, HG2.out⟩

set_option maxHeartbeats 800000 in
theorem keep_any (B g : Nat) (s : St) (w : World) (h : Rdr w B g s) :
    Calls Try.prog 44 #[.pointer (some ⟨g, 0, none⟩)] w (Rd2 B g w (.int .i64 (pKeep s).1) (pKeep s).2) := by
  have hv := h.num1
  unfold pKeep
  obtain ⟨v, HV⟩ : ∃ v, Hid (v = (num 1 s).1) := ⟨_, rfl⟩
  rw [← HV.out] at hv ⊢
  obtain ⟨hv0, hv1⟩ := hv
  have H := Lib.hid h
  clear h
  by_cases h5 : v = 255
  · rw [if_pos h5]
    have g5 : (v == 255) = true := by simpa using h5
    clear h5
    go_enter Try.func44, Try.ntmps44
    go_wp2_with (go_at_call 35; refine (number_any B g 1 s _ H.out (by omega)).mono ?_; rintro e w1 ⟨rfl, h1, hg1⟩; refine Hid.out ?_)
    rw [← HV.out]
    have H1 := Lib.hid h1
    have HG := Lib.hid hg1
    clear h1 hg1
    refine Lib.hid ?_
    go_wp2
    go_ret
    exact ⟨rfl, H1.out, HG.out⟩
  · rw [if_neg h5]
    have g5 : (v == 255) = false := by simpa using h5
    clear h5
    go_enter Try.func44, Try.ntmps44
    go_wp2_with (go_at_call 35; refine (number_any B g 1 s _ H.out (by omega)).mono ?_; rintro e w1 ⟨rfl, h1, hg1⟩; refine Hid.out ?_)
    rw [← HV.out]
    have H1 := Lib.hid h1
    have HG := Lib.hid hg1
    clear h1 hg1
    refine Lib.hid ?_
    go_wp2
    go_ret
    exact ⟨rfl, H1.out, HG.out⟩

/-- what a call of the reader's leaves that returns a list -/
def RdL (B g : Nat) (w : World) (t : TypeId) (size n : Nat) (cs : List Value) (s : St) (e : Ending) (w' : World) : Prop :=
  ∃ A c, e = .returned (.slice A n c) ∧ w'.ownsRow w.heap.size t size (.slice A n c) n cs ∧ Rdr w' B g s ∧ w.grownBy w' (some g)

theorem Rdr.app {w w' : World} {B g base size n : Nat} {s : St} {e : TypeId} {v : Value} {xs : List Value} {o : Obj} (h : Rdr w B g s) (hgr : (w.alloc o).grownBy w' v.ownBlock) (hown : w.ownsRow base e size v n xs) (hg : g < base) : Rdr w' B g s := by
  have hz := h.lt
  have h1 : Rdr (w.alloc o) B g s := h.far ((Below.refl (g + 1) w).alloc (by omega) o)
  refine h1.far ((Below.refl (g + 1) _).grown hgr (by simp; omega) fun i hi => ?_)
  have := (own_block_le hown hi).1
  omega
theorem pKinds_step {n k : Nat} {l : List Int} (hk : k < n) : pKinds (n - k) (some l) = ((num 1 (some l)).1 :: (pKinds (n - (k + 1)) (need (kindB (num 1 (some l)).1) (num 1 (some l)).2)).1, (pKinds (n - (k + 1)) (need (kindB (num 1 (some l)).1) (num 1 (some l)).2)).2) := by
  obtain ⟨m, hm⟩ : ∃ m, n - k = m + 1 := ⟨n - k - 1, by omega⟩
  rw [hm, show n - (k + 1) = m by omega]
  rfl
theorem pKinds_none (m : Nat) : pKinds m none = ([], none) := by cases m <;> rfl
theorem pKinds_zero (s : St) : pKinds 0 s = ([], s) := rfl

set_option maxHeartbeats 1600000 in
theorem kinds_any (B g n : Nat) (s : St) (w : World) (h : Rdr w B g s) (hn : n ≤ 255) :
    Calls Try.prog 42 #[.pointer (some ⟨g, 0, none⟩), .int .i64 n] w (RdL B g w 44 1 (pKinds n s).1.length (u8c (pKinds n s).1) (pKinds n s).2) := by
  obtain ⟨i0, hi, hz0, hz1, hz2⟩ := info_parts Try.info44
  have hgl := h.lt
  have H := Lib.hid h
  clear h
  go_enter Try.func42, Try.ntmps42
  go_wp2
  go_loopw [5] (fun v wr => ∃ (ks : List Int) (k : Nat) (s' : St) (A : Option Addr) (c : Nat), v = .slice A k c ∧ k ≤ n ∧ Hid (ks.length = k) ∧ Hid (wr.ownsRow w.heap.size 44 1 (.slice A k c) k (u8c ks)) ∧ Hid (Rdr wr B g s') ∧
      Hid (pKinds n s = (ks ++ (pKinds (n - k) s').1, (pKinds (n - k) s').2)) ∧ Hid (w.grownBy wr (some g))) (fun v _ => n - (match v with | .slice _ k _ => k | _ => 0))
  case atStart => exact ⟨[], 0, s, none, 0, rfl, Nat.zero_le _, rfl, own_none w _ _ _, H, rfl, World.grownBy.refl w _⟩
  case round =>
    obtain ⟨ks, k, s', A, c, rfl, hkn, HL, HO, HR, HP, HG⟩ := hrel
    have hwz : w.heap.size ≤ wr.heap.size := HG.out.size
    by_cases hlt : k < n
    · cases s' with
      | none =>
        have c1 := HR.out.bad
        have HE : Hid (pKinds n s = (ks, none)) := by
          show pKinds n s = _
          rw [HP.out, pKinds_none]; simp
        go_wp2
        go_ret
        rw [HE.out]
        refine ⟨A, c, ?_, ?_, HR.out, HG.out⟩
        · rw [HL.out]; rfl
        · rw [HL.out]; exact HO.out
      | some l =>
        have c1 := HR.out.good
        have hv := HR.out.num1
        have HE := HP.out
        rw [pKinds_step hlt] at HE
        obtain ⟨v, HV⟩ : ∃ v, Hid (v = (num 1 (some l)).1) := ⟨_, rfl⟩
        rw [← HV.out] at hv HE
        obtain ⟨hv0, hv1⟩ := hv
        have HE := Lib.hid HE
        clear HP
        go_wp2_with (go_at_call 35; refine (number_any B g 1 (some l) _ HR.out (by omega)).mono ?_; rintro e w1 ⟨rfl, h1, hg1⟩; refine Hid.out ?_)
        rw [← HV.out]
        have H1 := Lib.hid h1
        have HG1 := Lib.hid hg1
        clear h1 hg1
        refine Lib.hid ?_
        go_wp2_with (first | (go_at_call 47; refine (isKind_any v _).mono ?_; rintro e w1' ⟨rfl, rfl⟩) | (go_at_call 21; refine (need_any B g _ _ _ H1.out).mono ?_; rintro e w2 ⟨rfl, h2, hg2⟩; refine Hid.out ?_))
        have H2 := Lib.hid h2
        have HG2 := Lib.hid (grown_trans' HG1.out hg2)
        clear h2 hg2
        have HO2 : Hid (w2.ownsRow w.heap.size 44 1 (.slice A k c) k (u8c ks)) := own_kept HO.out fun i hi => HG2.out.block i (own_block_le HO.out hi).2 (fun e => by have := (own_block_le HO.out hi).1; injection e with e; omega)
        have hgz : g < w2.heap.size := H2.out.lt
        have hz2 : w.heap.size ≤ w2.heap.size := Nat.le_trans hwz HG2.out.size
        have HRd := Lib.hid (one_reads w2 44 [.int .u8 v] 1 rfl)
        have HOne : Hid (∀ u ∈ [Value.int .u8 v], u.oneCell' = true) := Lib.hid (u8c_one [v])
        have HO2a := Lib.hid (HO2.out.alloc (.cells #[.int .u8 v] 44))
        refine Lib.hid ?_
        go_wp2_with (at_builtin; refine app_kind rfl _ _ rfl w.heap.size (.slice A k c) k (u8c ks) rfl HO2a.out (w2.heap.size + 1) (some ⟨w2.heap.size, 0, none⟩) 1 1 [.int .u8 v] rfl HRd.out HOne.out (by omega) (by simp; omega) ?_; intro v' w3 hown hgr hor; refine Hid.out ?_)
        obtain ⟨A3, c3, rfl⟩ := own_slice hown
        have HO3 : Hid (w3.ownsRow w.heap.size 44 1 (.slice A3 (k + 1) c3) (k + 1) (u8c (ks ++ [v]))) := by
          rw [u8c_append]
          exact hown
        have HG3 : Hid (w.grownBy w3 (some g)) := only_grown (only_alloc (grown_trans' HG.out HG2.out) _) hgr fun i hi => (own_block_le HO2.out hi).1
        have HR3 : Hid (Rdr w3 B g (need (kindB v) (num 1 (some l)).2)) := H2.out.app hgr HO2.out hgl
        have HL3 : Hid ((ks ++ [v]).length = k + 1) := by
          show _ = _
          rw [List.length_append, HL.out]; rfl
        have HE3 : Hid (pKinds n s = ((ks ++ [v]) ++ (pKinds (n - (k + 1)) (need (kindB v) (num 1 (some l)).2)).1, (pKinds (n - (k + 1)) (need (kindB v) (num 1 (some l)).2)).2)) := by
          show _ = _
          rw [HE.out]; simp
        clear hown hgr hor
        refine Lib.hid ?_
        go_wp2
        go_roundw
        case rel => exact ⟨ks ++ [v], k + 1, _, A3, c3, rfl, by omega, HL3, HO3, HR3, HE3, HG3⟩
        case measure => simp; omega
    · obtain rfl : n = k := by omega
      clear hlt hkn
      have HE : Hid (pKinds n s = (ks, s')) := by
        show pKinds n s = _
        rw [HP.out, Nat.sub_self]
        simp [pKinds_zero]
      go_wp2
      go_ret
      rw [HE.out]
      refine ⟨A, c, ?_, ?_, HR.out, HG.out⟩
      · rw [HL.out]; rfl
      · rw [HL.out]; exact HO.out
end Go.Proofs.Ytklfppeecgkpnaa
