/-
  The reader's function.
-/
import Derived.Test.YtklfppeecgkpnaaDecC
namespace Go.Proofs.Ytklfppeecgkpnaa
set_option linter.unusedVariables false
open Go.ChangeShapes Go.WideShapes Go.ChangeAt Go.RowKit

theorem own_only {w w' : World} {base size n g : Nat} {e : TypeId} {v : Value} {xs : List Value} (h : w.ownsRow base e size v n xs) (hg : w.grownBy w' (some g)) (hlt : g < base) : w'.ownsRow base e size v n xs :=
  own_kept h fun i hi => hg.block i (own_block_le h hi).2 (fun e => by have := (own_block_le h hi).1; injection e with e; omega)
theorem own_store {w : World} {base size n : Nat} {e : TypeId} {v : Value} {xs : List Value} (h : w.ownsRow base e size v n xs) {p : Addr} (hp : p.block < base) (u : Value) : (w.setCell p u).ownsRow base e size v n xs :=
  own_kept h fun i hi => Below.heap_setCell _ _ _ _ (by have := (own_block_le h hi).1; omega)
/-- a function's two slices, each a row of the call's own -/
structure OwnF (w : World) (base : Nat) (r : Raw) : Prop where
  locals : w.ownsRow base 44 1 (.slice r.lo r.fn.locals.length r.lc) r.fn.locals.length (u8c r.fn.locals)
  code : w.ownsRow base 48 3 (.slice r.co r.fn.code.length r.cc) r.fn.code.length (insc r.fn.code)
/-- what 'function' leaves -/
def RdFn (B g : Nat) (w : World) (s : St) (e : Ending) (w' : World) : Prop :=
  ∃ r : Raw, r.fn = (pFn s).1 ∧ e = .returned (.agg #[.int .i64 r.fn.params, .slice r.lo r.fn.locals.length r.lc, .bool r.fn.result, .int .i64 r.fn.keep, .slice r.co r.fn.code.length r.cc]) ∧ OwnF w' w.heap.size r ∧ Rdr w' B g (pFn s).2 ∧ w.grownBy w' (some g)

set_option maxRecDepth 100000 in
set_option maxHeartbeats 3200000 in
theorem function_any (B g : Nat) (s : St) (w : World) (h : Rdr w B g s) :
    Calls Try.prog 36 #[.pointer (some ⟨g, 0, none⟩)] w (RdFn B g w s) := by
  have hgl := h.lt
  obtain ⟨a, HA⟩ : ∃ x, Hid (x = (num 1 s).1) := ⟨_, rfl⟩
  obtain ⟨s1, HS1⟩ : ∃ x, Hid (x = (num 1 s).2) := ⟨_, rfl⟩
  obtain ⟨s2, HS2⟩ : ∃ x, Hid (x = (num 1 s1).2) := ⟨_, rfl⟩
  obtain ⟨b, HB⟩ : ∃ x, Hid (x = (num 1 s1).1.toNat) := ⟨_, rfl⟩
  obtain ⟨s3, HS3⟩ : ∃ x, Hid (x = need (decide (a ≤ (b : Int))) s2) := ⟨_, rfl⟩
  obtain ⟨ks, HK⟩ : ∃ x, Hid (x = (pKinds b s3).1) := ⟨_, rfl⟩
  obtain ⟨s4, HS4⟩ : ∃ x, Hid (x = (pKinds b s3).2) := ⟨_, rfl⟩
  obtain ⟨fl, HF⟩ : ∃ x, Hid (x = (pFlag s4).1) := ⟨_, rfl⟩
  obtain ⟨s5, HS5⟩ : ∃ x, Hid (x = (pFlag s4).2) := ⟨_, rfl⟩
  obtain ⟨kp, HKP⟩ : ∃ x, Hid (x = (pKeep s5).1) := ⟨_, rfl⟩
  obtain ⟨s6, HS6⟩ : ∃ x, Hid (x = (pKeep s5).2) := ⟨_, rfl⟩
  obtain ⟨s7, HS7⟩ : ∃ x, Hid (x = (num 2 s6).2) := ⟨_, rfl⟩
  obtain ⟨nc, HNC⟩ : ∃ x, Hid (x = (num 2 s6).1.toNat) := ⟨_, rfl⟩
  obtain ⟨is, HI⟩ : ∃ x, Hid (x = (pInss nc s7).1) := ⟨_, rfl⟩
  obtain ⟨s8, HS8⟩ : ∃ x, Hid (x = (pInss nc s7).2) := ⟨_, rfl⟩
  have hv := h.num1
  rw [← HA.out] at hv
  obtain ⟨ha0, ha1⟩ := hv
  have H := Lib.hid h
  clear h
  go_enter Try.func36, Try.ntmps36
  have HQ := Lib.hid (Blk.new w 43 #[.int .i64 0, .slice none 0 0, .bool false, .int .i64 0, .slice none 0 0])
  have HR := Lib.hid (H.out.alloc (.cells #[.int .i64 0, .slice none 0 0, .bool false, .int .i64 0, .slice none 0 0] 43))
  have HG0 : Hid (w.grownBy (w.alloc (.cells #[.int .i64 0, .slice none 0 0, .bool false, .int .i64 0, .slice none 0 0] 43)) (some g)) := only_alloc (World.grownBy.refl w _) _
  go_wp2_with (go_at_call 35; refine (number_any B g 1 s _ HR.out (by omega)).mono ?_; rintro e w1 ⟨rfl, h1, hg1⟩; rw [← HS1.out] at h1; rw [← HA.out]; refine Hid.out ?_)
  have H1 := Lib.hid h1
  have HG1 := Lib.hid (grown_trans' HG0.out hg1)
  have HQ1 := Lib.hid (HQ.out.only hg1 (by omega))
  have hv := h1.num1
  have hbb : (num 1 s1).1 = (b : Int) := by rw [HB.out]; omega
  have HBB := Lib.hid hbb
  have hb255 : b ≤ 255 := by omega
  have HPF : Hid (pFn s = (⟨a, ks, fl, kp, is⟩, s8)) := by
    show pFn s = _
    unfold pFn
    simp only
    rw [← HA.out, ← HS1.out, ← HB.out, hbb, ← HS2.out, ← HS3.out, ← HK.out, ← HS4.out, ← HF.out, ← HS5.out, ← HKP.out, ← HS6.out, ← HNC.out, ← HS7.out, ← HI.out, ← HS8.out]
  clear h1 hg1 hv hbb
  refine Lib.hid ?_
  go_wp2_with (go_at_call 35; refine (number_any B g 1 s1 _ H1.out (by omega)).mono ?_; rintro e w2 ⟨rfl, h2, hg2⟩; rw [← HS2.out] at h2; rw [HBB.out]; refine Hid.out ?_)
  have H2 := Lib.hid h2
  have HG2 := Lib.hid (grown_trans' HG1.out hg2)
  have HQ2 := Lib.hid (HQ1.out.only hg2 (by omega))
  clear h2 hg2
  refine Lib.hid ?_
  go_wp2_with (go_at_call 21; refine (need_any B g _ _ _ H2.out).mono ?_; rintro e w3 ⟨rfl, h3, hg3⟩; rw [← HS3.out] at h3; refine Hid.out ?_)
  have H3 := Lib.hid (h3.alloc (.cells #[.int .i64 a, .slice none 0 0, .bool false, .int .i64 0, .slice none 0 0] 43))
  have HG3 := Lib.hid (only_alloc (grown_trans' HG2.out hg3) (.cells #[.int .i64 a, .slice none 0 0, .bool false, .int .i64 0, .slice none 0 0] 43))
  have HQ3 := Lib.hid ((HQ2.out.only hg3 (by omega)).alloc (.cells #[.int .i64 a, .slice none 0 0, .bool false, .int .i64 0, .slice none 0 0] 43))
  have HP3 := Lib.hid (Blk.new w3 43 #[.int .i64 a, .slice none 0 0, .bool false, .int .i64 0, .slice none 0 0])
  have hz3 : w.heap.size < w3.heap.size := (HQ2.out.only hg3 (by omega)).lt
  clear h3 hg3
  refine Lib.hid ?_
  go_wp2_with (go_at_call 42; refine (kinds_any B g b s3 _ H3.out (by omega)).mono ?_; rintro e w4 ⟨A4, c4, rfl, ho4, h4, hg4⟩; rw [← HS4.out] at h4; rw [← HK.out] at ho4; rw [← HK.out]; refine Hid.out ?_)
  have hzz : (w3.alloc (.cells #[.int .i64 a, .slice none 0 0, .bool false, .int .i64 0, .slice none 0 0] 43)).heap.size = w3.heap.size + 1 := by simp
  rw [hzz] at ho4
  have H4 := Lib.hid (h4.store (p := ⟨w3.heap.size, 1, none⟩) (by show g < w3.heap.size; omega) (.slice A4 ks.length c4))
  have HG4 := Lib.hid (only_setCell (p := ⟨w3.heap.size, 1, none⟩) (grown_trans' HG3.out hg4) (.inr (by show w.heap.size ≤ w3.heap.size; omega)) (.slice A4 ks.length c4))
  have HQ4 := Lib.hid ((HQ3.out.only hg4 (by omega)).far (p := ⟨w3.heap.size, 1, none⟩) (by show w.heap.size ≠ w3.heap.size; omega) (.slice A4 ks.length c4))
  have hp4 := HP3.out.only hg4 (by omega)
  have HP4 : Hid (Blk (w4.setCell ⟨w3.heap.size, 1, none⟩ (.slice A4 ks.length c4)) w3.heap.size 43 #[.int .i64 a, .slice A4 ks.length c4, .bool false, .int .i64 0, .slice none 0 0]) := hp4.set_ 1 _
  have HO4 := Lib.hid (own_store ho4 (p := ⟨w3.heap.size, 1, none⟩) (by show w3.heap.size < _; omega) (.slice A4 ks.length c4))
  have c1 : w4.cell? ⟨w3.heap.size, 1, none⟩ = some (.slice none 0 0) := hp4.cell 1
  have f1 := hp4.frozen 1
  clear ho4 h4 hg4 hzz hp4
  refine Lib.hid ?_
  go_wp2_with (go_at_call 43; refine (flag_any B g s4 _ H4.out).mono ?_; rintro e w5 ⟨rfl, h5, hg5⟩; rw [← HS5.out] at h5; rw [← HF.out]; refine Hid.out ?_)
  clear c1 f1
  have H5 := Lib.hid (h5.store (p := ⟨w3.heap.size, 2, none⟩) (by show g < w3.heap.size; omega) (.bool fl))
  have HG5 := Lib.hid (only_setCell (p := ⟨w3.heap.size, 2, none⟩) (grown_trans' HG4.out hg5) (.inr (by show w.heap.size ≤ w3.heap.size; omega)) (.bool fl))
  have HQ5 := Lib.hid ((HQ4.out.only hg5 (by omega)).far (p := ⟨w3.heap.size, 2, none⟩) (by show w.heap.size ≠ w3.heap.size; omega) (.bool fl))
  have hp5 := HP4.out.only hg5 (by omega)
  have HP5 : Hid (Blk (w5.setCell ⟨w3.heap.size, 2, none⟩ (.bool fl)) w3.heap.size 43 #[.int .i64 a, .slice A4 ks.length c4, .bool fl, .int .i64 0, .slice none 0 0]) := hp5.set_ 2 _
  have HO5 := Lib.hid (own_store (own_only HO4.out hg5 (by omega)) (p := ⟨w3.heap.size, 2, none⟩) (by show w3.heap.size < _; omega) (.bool fl))
  have c2 : w5.cell? ⟨w3.heap.size, 2, none⟩ = some (.bool false) := hp5.cell 2
  have f2 := hp5.frozen 2
  clear h5 hg5 hp5
  refine Lib.hid ?_
  go_wp2_with (go_at_call 44; refine (keep_any B g s5 _ H5.out).mono ?_; rintro e w6 ⟨rfl, h6, hg6⟩; rw [← HS6.out] at h6; rw [← HKP.out]; refine Hid.out ?_)
  clear c2 f2
  have H6 := Lib.hid (h6.store (p := ⟨w3.heap.size, 3, none⟩) (by show g < w3.heap.size; omega) (.int .i64 kp))
  have HG6 := Lib.hid (only_setCell (p := ⟨w3.heap.size, 3, none⟩) (grown_trans' HG5.out hg6) (.inr (by show w.heap.size ≤ w3.heap.size; omega)) (.int .i64 kp))
  have HQ6 := Lib.hid ((HQ5.out.only hg6 (by omega)).far (p := ⟨w3.heap.size, 3, none⟩) (by show w.heap.size ≠ w3.heap.size; omega) (.int .i64 kp))
  have hp6 := HP5.out.only hg6 (by omega)
  have HP6 : Hid (Blk (w6.setCell ⟨w3.heap.size, 3, none⟩ (.int .i64 kp)) w3.heap.size 43 #[.int .i64 a, .slice A4 ks.length c4, .bool fl, .int .i64 kp, .slice none 0 0]) := hp6.set_ 3 _
  have HO6 := Lib.hid (own_store (own_only HO5.out hg6 (by omega)) (p := ⟨w3.heap.size, 3, none⟩) (by show w3.heap.size < _; omega) (.int .i64 kp))
  have c3 : w6.cell? ⟨w3.heap.size, 3, none⟩ = some (.int .i64 0) := hp6.cell 3
  have f3 := hp6.frozen 3
  have hv := H6.out.num_bd 2
  simp only [Int.reducePow] at hv
  have hbb : (num 2 s6).1 = (nc : Int) := by rw [HNC.out]; omega
  have HCC := Lib.hid hbb
  have hnc : nc ≤ 65535 := by omega
  clear h6 hg6 hp6 hv hbb
  refine Lib.hid ?_
  go_wp2_with (go_at_call 35; refine (number_any B g 2 s6 _ H6.out (by omega)).mono ?_; rintro e w7 ⟨rfl, h7, hg7⟩; rw [← HS7.out] at h7; rw [HCC.out]; refine Hid.out ?_)
  clear c3 f3
  have H7 := Lib.hid h7
  have HG7 := Lib.hid (grown_trans' HG6.out hg7)
  have HQ7 := Lib.hid (HQ6.out.only hg7 (by omega))
  have HP7 := Lib.hid (HP6.out.only hg7 (by omega))
  have HO7 := Lib.hid (own_only HO6.out hg7 (by omega))
  clear h7 hg7
  refine Lib.hid ?_
  go_wp2_with (go_at_call 45; refine (instructions_any B g nc s7 _ H7.out (by omega)).mono ?_; rintro e w8 ⟨A8, c8, rfl, ho8, h8, hg8⟩; rw [← HS8.out] at h8; rw [← HI.out] at ho8; rw [← HI.out]; refine Hid.out ?_)
  have hz7 := HP7.out.lt
  have H8 := Lib.hid (h8.store (p := ⟨w3.heap.size, 4, none⟩) (by show g < w3.heap.size; omega) (.slice A8 is.length c8))
  have HG8 := Lib.hid (only_setCell (p := ⟨w3.heap.size, 4, none⟩) (grown_trans' HG7.out hg8) (.inr (by show w.heap.size ≤ w3.heap.size; omega)) (.slice A8 is.length c8))
  have hq8 := HQ7.out.only hg8 (by omega)
  have HQ8 := Lib.hid hq8
  have hp8 := HP7.out.only hg8 (by omega)
  have HO8 := Lib.hid (own_store (own_only HO7.out hg8 (by omega)) (p := ⟨w3.heap.size, 4, none⟩) (by show w3.heap.size < _; omega) (.slice A8 is.length c8))
  have HO9 := Lib.hid (own_store ho8 (p := ⟨w3.heap.size, 4, none⟩) (by show w3.heap.size < _; omega) (.slice A8 is.length c8))
  have p0 : w8.cell? ⟨w3.heap.size, 0, none⟩ = some (.int .i64 a) := hp8.cell 0
  have p1 : w8.cell? ⟨w3.heap.size, 1, none⟩ = some (.slice A4 ks.length c4) := hp8.cell 1
  have p2 : w8.cell? ⟨w3.heap.size, 2, none⟩ = some (.bool fl) := hp8.cell 2
  have p3 : w8.cell? ⟨w3.heap.size, 3, none⟩ = some (.int .i64 kp) := hp8.cell 3
  have p4 : w8.cell? ⟨w3.heap.size, 4, none⟩ = some (.slice none 0 0) := hp8.cell 4
  have f4 := hp8.frozen 4
  have q0 : w8.cell? ⟨w.heap.size, 0, none⟩ = some (.int .i64 0) := hq8.cell 0
  have q1 : w8.cell? ⟨w.heap.size, 1, none⟩ = some (.slice none 0 0) := hq8.cell 1
  have q2 : w8.cell? ⟨w.heap.size, 2, none⟩ = some (.bool false) := hq8.cell 2
  have q3 : w8.cell? ⟨w.heap.size, 3, none⟩ = some (.int .i64 0) := hq8.cell 3
  have q4 : w8.cell? ⟨w.heap.size, 4, none⟩ = some (.slice none 0 0) := hq8.cell 4
  have g0 := hq8.frozen 0
  have g1 := hq8.frozen 1
  have g2 := hq8.frozen 2
  have g3 := hq8.frozen 3
  have g4 := hq8.frozen 4
  clear h8 hg8 ho8 hq8 hp8
  have hne : w3.heap.size ≠ w.heap.size := by omega
  refine Lib.hid ?_
  go_wp2
  have HS : Hid (Rdr ((((((w8.setCell ⟨w3.heap.size, 4, none⟩ (.slice A8 is.length c8)).setCell ⟨w.heap.size, 0, none⟩ (.int .i64 a)).setCell ⟨w.heap.size, 1, none⟩ (.slice A4 ks.length c4)).setCell ⟨w.heap.size, 2, none⟩ (.bool fl)).setCell ⟨w.heap.size, 3, none⟩ (.int .i64 kp)).setCell ⟨w.heap.size, 4, none⟩ (.slice A8 is.length c8)) B g s8) :=
    ((((H8.out.store (p := ⟨w.heap.size, 0, none⟩) hgl _).store (p := ⟨w.heap.size, 1, none⟩) hgl _).store (p := ⟨w.heap.size, 2, none⟩) hgl _).store (p := ⟨w.heap.size, 3, none⟩) hgl _).store (p := ⟨w.heap.size, 4, none⟩) hgl _
  have hw : ∀ (W : World) (p : Addr) (u : Value), p.block = w.heap.size → w.grownBy W (some g) → w.grownBy (W.setCell p u) (some g) := fun W p u hp hg => only_setCell hg (.inr (by omega)) u
  have ho : ∀ (W : World) (p : Addr) (u : Value) (b' : Nat) (sz k : Nat) (e : TypeId) (v : Value) (xs : List Value), p.block = w.heap.size → w3.heap.size + 1 ≤ b' → W.ownsRow b' e sz v k xs → (W.setCell p u).ownsRow b' e sz v k xs := fun W p u b' sz k e v xs hp hb h => own_store h (by omega) u
  have hz78 : w3.heap.size + 1 ≤ w7.heap.size := hz7
  refine bodyPost_ret (v := .agg #[.int .i64 a, .slice A4 ks.length c4, .bool fl, .int .i64 kp, .slice A8 is.length c8]) (by simp [results, Try.results36, go_sem, q0, q1, q2, q3, q4]) rfl ?_
  refine ⟨⟨⟨a, ks, fl, kp, is⟩, A4, c4, A8, c8⟩, by rw [HPF.out], rfl, ⟨own_more (base := w3.heap.size + 1) ?_ (by omega), own_more (base := w7.heap.size) ?_ (by omega)⟩, by rw [HPF.out]; exact HS.out, ?_⟩
  · exact ho _ ⟨w.heap.size, 4, none⟩ _ _ _ _ _ _ _ rfl (Nat.le_refl _) (ho _ ⟨w.heap.size, 3, none⟩ _ _ _ _ _ _ _ rfl (Nat.le_refl _) (ho _ ⟨w.heap.size, 2, none⟩ _ _ _ _ _ _ _ rfl (Nat.le_refl _) (ho _ ⟨w.heap.size, 1, none⟩ _ _ _ _ _ _ _ rfl (Nat.le_refl _) (ho _ ⟨w.heap.size, 0, none⟩ _ _ _ _ _ _ _ rfl (Nat.le_refl _) HO8.out))))
  · exact ho _ ⟨w.heap.size, 4, none⟩ _ _ _ _ _ _ _ rfl hz78 (ho _ ⟨w.heap.size, 3, none⟩ _ _ _ _ _ _ _ rfl hz78 (ho _ ⟨w.heap.size, 2, none⟩ _ _ _ _ _ _ _ rfl hz78 (ho _ ⟨w.heap.size, 1, none⟩ _ _ _ _ _ _ _ rfl hz78 (ho _ ⟨w.heap.size, 0, none⟩ _ _ _ _ _ _ _ rfl hz78 HO9.out))))
  · exact hw _ ⟨w.heap.size, 4, none⟩ _ rfl (hw _ ⟨w.heap.size, 3, none⟩ _ rfl (hw _ ⟨w.heap.size, 2, none⟩ _ rfl (hw _ ⟨w.heap.size, 1, none⟩ _ rfl (hw _ ⟨w.heap.size, 0, none⟩ _ rfl HG8.out))))
end Go.Proofs.Ytklfppeecgkpnaa
