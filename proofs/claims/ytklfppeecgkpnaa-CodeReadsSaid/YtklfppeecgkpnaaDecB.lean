/-
  The reader's instruction, instructions.
-/
import Derived.Test.YtklfppeecgkpnaaDecA
namespace Go.Proofs.Ytklfppeecgkpnaa
set_option linter.unusedVariables false
open Go.ChangeShapes Go.WideShapes Go.ChangeAt Go.RowKit

theorem Blk.only {w w' : World} {q g : Nat} {t : TypeId} {cs : Array Value} (h : Blk w q t cs) (hg : w.grownBy w' (some g)) (hne : q ≠ g) : Blk w' q t cs := h.grown hg (fun e => hne (by injection e))
theorem Rdr.alloc {w : World} {B g : Nat} {s : St} (h : Rdr w B g s) (o : Obj) : Rdr (w.alloc o) B g s := h.far ((Below.refl (g + 1) w).alloc (by have := h.lt; omega) o)
theorem Rdr.store {w : World} {B g : Nat} {s : St} (h : Rdr w B g s) {p : Addr} (hp : g < p.block) (u : Value) : Rdr (w.setCell p u) B g s := h.far ((Below.refl (g + 1) w).setCell (by omega) u)
theorem Rdr.drewN {w : World} {B g : Nat} {s : St} (h : Rdr w B g s) (k : Nat) : Rdr (w.drewN k) B g s := h

set_option maxHeartbeats 1600000 in
theorem instruction_any (B g : Nat) (s : St) (w : World) (h : Rdr w B g s) :
    Calls Try.prog 50 #[.pointer (some ⟨g, 0, none⟩)] w (Rd2 B g w (.agg #[.int .u8 (pIns s).1.op, .int .i64 (pIns s).1.arg, .int .u64 (pIns s).1.imm]) (pIns s).2) := by
  have hgl := h.lt
  have hv := h.num1
  unfold pIns
  obtain ⟨v, HV⟩ : ∃ v, Hid (v = (num 1 s).1) := ⟨_, rfl⟩
  rw [← HV.out] at hv ⊢
  obtain ⟨hv0, hv1⟩ := hv
  obtain ⟨s1, HS1⟩ : ∃ s1, Hid (s1 = need (opB v) (num 1 s).2) := ⟨_, rfl⟩
  rw [← HS1.out]
  obtain ⟨a, HA⟩ : ∃ a, Hid (a = (num (argW v) s1).1) := ⟨_, rfl⟩
  obtain ⟨s2, HS2⟩ : ∃ s2, Hid (s2 = (num (argW v) s1).2) := ⟨_, rfl⟩
  rw [← HA.out, ← HS2.out]
  obtain ⟨m, HM⟩ : ∃ m, Hid (m = (num (immW v) s2).1) := ⟨_, rfl⟩
  obtain ⟨s3, HS3⟩ : ∃ s3, Hid (s3 = (num (immW v) s2).2) := ⟨_, rfl⟩
  rw [← HM.out, ← HS3.out]
  have H := Lib.hid h
  clear h
  go_enter Try.func50, Try.ntmps50
  have HQ := Lib.hid (Blk.new w 48 #[.int .u8 0, .int .i64 0, .int .u64 0])
  have HR := Lib.hid (H.out.alloc (.cells #[.int .u8 0, .int .i64 0, .int .u64 0] 48))
  have HG0 : Hid (w.grownBy (w.alloc (.cells #[.int .u8 0, .int .i64 0, .int .u64 0] 48)) (some g)) := only_alloc (World.grownBy.refl w _) _
  go_wp2_with (go_at_call 35; refine (number_any B g 1 s _ HR.out (by omega)).mono ?_; rintro e w1 ⟨rfl, h1, hg1⟩; refine Hid.out ?_)
  rw [← HV.out]
  have H1 := Lib.hid h1
  have HG1 := Lib.hid (grown_trans' HG0.out hg1)
  have HQ1 := Lib.hid (HQ.out.only hg1 (by omega))
  clear h1 hg1
  refine Lib.hid ?_
  go_wp2_with (first | (go_at_call 51; refine (isOp_any v _).mono ?_; rintro e w1' ⟨rfl, rfl⟩) | (go_at_call 21; refine (need_any B g _ _ _ H1.out).mono ?_; rintro e w2 ⟨rfl, h2, hg2⟩; rw [← HS1.out] at h2; refine Hid.out ?_))
  have H2 := Lib.hid h2
  have HG2 := Lib.hid (grown_trans' HG1.out hg2)
  have HQ2 := Lib.hid (HQ1.out.only hg2 (by omega))
  have ha := h2.num_bd (argW v)
  rw [← HA.out] at ha
  have ha1 : a ≤ 65535 := by
    have h0 := argW_le v
    have : (256 : Int) ^ argW v ≤ 65536 := by
      obtain h | h | h : argW v = 0 ∨ argW v = 1 ∨ argW v = 2 := by omega
      all_goals rw [h]; decide
    omega
  have ha0 := ha.1
  clear h2 hg2 ha
  refine Lib.hid ?_
  go_wp2_with (first | (go_at_call 40; refine (argSize_any v _).mono ?_; rintro e w1' ⟨rfl, rfl⟩) | (go_at_call 35; refine (number_any B g (argW v) s1 _ H2.out (Nat.le_trans (argW_le v) (by omega))).mono ?_; rintro e w3 ⟨rfl, h3, hg3⟩; rw [← HS2.out] at h3; rw [← HA.out]; refine Hid.out ?_))
  have H3 := Lib.hid h3
  have HG3 := Lib.hid (grown_trans' HG2.out hg3)
  have HQ3 := Lib.hid (HQ2.out.only hg3 (by omega))
  clear h3 hg3
  refine Lib.hid ?_
  go_wp2_with (first | (go_at_call 41; refine (immSize_any v _).mono ?_; rintro e w1' ⟨rfl, rfl⟩) | (go_at_call 35; refine (number_any B g (immW v) s2 _ H3.out (immW_le v)).mono ?_; rintro e w4 ⟨rfl, h4, hg4⟩; rw [← HS3.out] at h4; rw [← HM.out]; refine Hid.out ?_))
  have H4 := Lib.hid h4
  have HG4 := Lib.hid (grown_trans' HG3.out hg4)
  have HQ4 := Lib.hid (HQ3.out.only hg4 (by omega))
  clear h4 hg4
  have c0 : w4.cell? ⟨w.heap.size, 0, none⟩ = some (.int .u8 0) := HQ4.out.cell 0
  have c1 : w4.cell? ⟨w.heap.size, 1, none⟩ = some (.int .i64 0) := HQ4.out.cell 1
  have c2 : w4.cell? ⟨w.heap.size, 2, none⟩ = some (.int .u64 0) := HQ4.out.cell 2
  have f0 := HQ4.out.frozen 0
  have f1 := HQ4.out.frozen 1
  have f2 := HQ4.out.frozen 2
  refine Lib.hid ?_
  go_wp2
  exact bodyPost_ret (v := .agg #[.int .u8 v, .int .i64 a, .int .u64 m]) (by simp [results, Try.results50, go_sem, c0, c1, c2]) rfl ⟨rfl, ((H4.out.store hgl _).store hgl _).store hgl _, only_setCell (p := ⟨w.heap.size, 2, none⟩) (only_setCell (p := ⟨w.heap.size, 1, none⟩) (only_setCell (p := ⟨w.heap.size, 0, none⟩) HG4.out (.inr (Nat.le_refl _)) _) (.inr (Nat.le_refl _)) _) (.inr (Nat.le_refl _)) _⟩
end Go.Proofs.Ytklfppeecgkpnaa
