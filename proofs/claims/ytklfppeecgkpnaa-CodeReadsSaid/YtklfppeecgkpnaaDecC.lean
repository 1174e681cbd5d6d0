/-
  The reader's instructions.
-/
import Derived.Test.YtklfppeecgkpnaaDecB
namespace Go.Proofs.Ytklfppeecgkpnaa
set_option linter.unusedVariables false
open Go.ChangeShapes Go.WideShapes Go.ChangeAt Go.RowKit

theorem pInss_step {n k : Nat} {l : List Int} (hk : k < n) : pInss (n - k) (some l) = ((pIns (some l)).1 :: (pInss (n - (k + 1)) (pIns (some l)).2).1, (pInss (n - (k + 1)) (pIns (some l)).2).2) := by
  obtain ⟨m, hm⟩ : ∃ m, n - k = m + 1 := ⟨n - k - 1, by omega⟩
  rw [hm, show n - (k + 1) = m by omega]
  rfl
theorem pInss_none (m : Nat) : pInss m none = ([], none) := by cases m <;> rfl
theorem pInss_zero (s : St) : pInss 0 s = ([], s) := rfl

set_option maxHeartbeats 1600000 in
theorem instructions_any (B g n : Nat) (s : St) (w : World) (h : Rdr w B g s) (hn : n ≤ 65535) :
    Calls Try.prog 45 #[.pointer (some ⟨g, 0, none⟩), .int .i64 n] w (RdL B g w 48 3 (pInss n s).1.length (insc (pInss n s).1) (pInss n s).2) := by
  obtain ⟨i0, hi, hz0, hz1, hz2⟩ := info_parts Try.info48
  have hgl := h.lt
  obtain ⟨AL, nL, cL, c0, hnL, hnl⟩ := h.left
  have HNL := Lib.hid hnl
  clear hnl
  have H := Lib.hid h
  clear h
  go_enter Try.func45, Try.ntmps45
  obtain hmn | rfl | hmn : n < nL ∨ n = nL ∨ nL < n := by omega
  all_goals
    go_wp2_with (at_make; refine wpList_make_own _ rfl _ _ 41 rfl w.heap.size 48 i0 (.agg #[.int .u8 0, .int .i64 0, .int .u64 0]) 3 Try.underlying41 hi hz0 hz1 .i64 .i64 _ _ rfl rfl rfl (by rw [hz2]; omega) (by unfold maxLen; omega) (Nat.le_refl _) ?_; intro w0 hown0 hgrow0; refine Hid.out ?_)
    have HO0 := Lib.hid hown0
    have HG0 : Hid (w.grownBy w0 (some g)) := only_grown (World.grownBy.refl w (some g)) hgrow0 (fun i hi => by cases hi)
    have HR0 : Hid (Rdr w0 B g s) := H.out.far ((Below.refl (g + 1) w).grown hgrow0 (by omega) fun i hi => by cases hi)
    clear hown0 hgrow0
    refine Lib.hid ?_
    go_wp2
    go_loopw [5] (fun v wr => ∃ (ks : List Ins) (k : Nat) (s' : St) (A : Option Addr) (c : Nat), v = .slice A k c ∧ k ≤ n ∧ Hid (ks.length = k) ∧ Hid (wr.ownsRow w.heap.size 48 3 (.slice A k c) k (insc ks)) ∧ Hid (Rdr wr B g s') ∧
        Hid (pInss n s = (ks ++ (pInss (n - k) s').1, (pInss (n - k) s').2)) ∧ Hid (w.grownBy wr (some g))) (fun v _ => n - (match v with | .slice _ k _ => k | _ => 0))
    case atStart => exact ⟨[], 0, s, _, _, rfl, Nat.zero_le _, rfl, HO0, HR0, rfl, HG0⟩
    case round =>
      obtain ⟨ks, k, s', A, c, rfl, hkn, HL, HO, HR, HP, HG⟩ := hrel
      have hwz : w.heap.size ≤ wr.heap.size := HG.out.size
      by_cases hlt : k < n
      · cases s' with
        | none =>
          have c1 := HR.out.bad
          have HE : Hid (pInss n s = (ks, none)) := by
            show pInss n s = _
            rw [HP.out, pInss_none]; simp
          go_wp2
          go_ret
          rw [HE.out]
          refine ⟨A, c, ?_, ?_, HR.out, HG.out⟩
          · rw [HL.out]; rfl
          · rw [HL.out]; exact HO.out
        | some l =>
          have c1 := HR.out.good
          have HE := HP.out
          rw [pInss_step hlt] at HE
          obtain ⟨v, HV⟩ : ∃ v, Hid (v = (pIns (some l)).1) := ⟨_, rfl⟩
          obtain ⟨s2, HS2⟩ : ∃ v, Hid (v = (pIns (some l)).2) := ⟨_, rfl⟩
          rw [← HV.out, ← HS2.out] at HE
          have HE := Lib.hid HE
          clear HP
          go_wp2_with (go_at_call 50; refine (instruction_any B g (some l) _ HR.out).mono ?_; rintro e w2 ⟨rfl, h2, hg2⟩; refine Hid.out ?_)
          rw [← HS2.out] at h2
          rw [← HV.out]
          have H2 := Lib.hid h2
          have HG2 := Lib.hid hg2
          clear h2 hg2
          have HO2 : Hid (w2.ownsRow w.heap.size 48 3 (.slice A k c) k (insc ks)) := own_kept HO.out fun i hi => HG2.out.block i (own_block_le HO.out hi).2 (fun e => by have := (own_block_le HO.out hi).1; injection e with e; omega)
          have hgz : g < w2.heap.size := H2.out.lt
          have hz2 : w.heap.size ≤ w2.heap.size := Nat.le_trans hwz HG2.out.size
          have HRd := Lib.hid (one_reads w2 48 (insOne v) 3 rfl)
          have HOne : Hid (∀ u ∈ insOne v, u.oneCell' = true) := Lib.hid (insOne_one v)
          have HO2a := Lib.hid (HO2.out.alloc (.cells #[.int .u8 v.op, .int .i64 v.arg, .int .u64 v.imm] 48))
          refine Lib.hid ?_
          go_wp2_with (at_builtin; refine app_ins rfl _ _ rfl w.heap.size (.slice A k c) k (insc ks) rfl HO2a.out (w2.heap.size + 1) (some ⟨w2.heap.size, 0, none⟩) 1 1 (insOne v) rfl HRd.out HOne.out (by omega) (by simp; omega) ?_; intro v' w3 hown hgr hor; refine Hid.out ?_)
          obtain ⟨A3, c3, rfl⟩ := own_slice hown
          have HO3 : Hid (w3.ownsRow w.heap.size 48 3 (.slice A3 (k + 1) c3) (k + 1) (insc (ks ++ [v]))) := by
            rw [insc_append]
            exact hown
          have HG3 : Hid (w.grownBy w3 (some g)) := only_grown (only_alloc (grown_trans' HG.out HG2.out) _) hgr fun i hi => (own_block_le HO2.out hi).1
          have HR3 : Hid (Rdr w3 B g s2) := H2.out.app hgr HO2.out hgl
          have HL3 : Hid ((ks ++ [v]).length = k + 1) := by
            show _ = _
            rw [List.length_append, HL.out]; rfl
          have HE3 : Hid (pInss n s = ((ks ++ [v]) ++ (pInss (n - (k + 1)) s2).1, (pInss (n - (k + 1)) s2).2)) := by
            show _ = _
            rw [HE.out]; simp
          clear hown hgr hor
          refine Lib.hid ?_
          go_wp2
          go_roundw
          case rel => exact ⟨ks ++ [v], k + 1, _, A3, c3, rfl, by omega, HL3, HO3, HR3, HE3, HG3⟩
          case measure => simp; omega
      · obtain rfl : n = k := by omega
        clear hlt hkn
        have HE : Hid (pInss n s = (ks, s')) := by
          show pInss n s = _
          rw [HP.out, Nat.sub_self]
          simp [pInss_zero]
        go_wp2
        go_ret
        rw [HE.out]
        refine ⟨A, c, ?_, ?_, HR.out, HG.out⟩
        · rw [HL.out]; rfl
        · rw [HL.out]; exact HO.out
end Go.Proofs.Ytklfppeecgkpnaa
