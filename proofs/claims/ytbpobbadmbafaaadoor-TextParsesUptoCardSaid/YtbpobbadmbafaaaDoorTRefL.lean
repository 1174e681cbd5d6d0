/-
  The document's Line.
-/
import Derived.Test.YtbpobbadmbafaaaDoorTRefN
namespace Go.Proofs.YtbpobbadmbafaaaDoor
set_option linter.unusedVariables false
open Go.ChangeShapes Go.WideShapes Go.ChangeAt Go.RowKit

theorem name_one (w : World) : Calls Tryd.prog 39 #[.int .u8 1] w fun e w' => e = .returned (.string (str (nmOf 1))) ∧ Below w.heap.size w w' := name_any 1 (by omega) (by omega) w
set_option maxRecDepth 100000 in
set_option maxHeartbeats 4000000 in
theorem line_any (i : Ins) (h : okI i = true) (w : World) :
    Calls Tryd.prog 25 #[.agg #[.int .u8 i.op, .int .i64 i.arg, .int .u64 i.imm]] w fun e w' => e = .returned (.string (str (insW i))) ∧ Below w.heap.size w w' := by
  obtain ⟨op, v, h1, h2, h3, h4, rfl, h5⟩ := okI_form h
  rw [insW_form]
  have hnm := (nm_form op h1 h2).2.2.2.2.2
  have hdl := nDigits_le v h4
  obtain ⟨S1, HS1⟩ : ∃ S, Hid (S = str (nmOf op)) := ⟨_, rfl⟩
  obtain ⟨S2, HS2⟩ : ∃ S, Hid (S = str (Lib.decDigits v)) := ⟨_, rfl⟩
  have hs1 : S1.size ≤ 7 := by rw [HS1.out, str_size]; exact hnm
  have hs2 : S2.size ≤ 20 := by rw [HS2.out, str_size]; exact hdl
  clear hnm hdl h
  by_cases ho : op = 1
  · subst ho
    rw [if_neg (show ¬ gOp 1 = 0 by decide)]
    simp only [if_true]
    have HBX := Lib.hid (Blk.new w 40 #[.int .u8 1, .int .i64 0, .int .u64 v])
    have HB0 : Hid (Below w.heap.size w (w.alloc (.cells #[.int .u8 1, .int .i64 0, .int .u64 v] 40))) := Lib.hid ((Below.refl _ _).alloc (Nat.le_refl _) _)
    have keepS : ∀ W W' : World, Below (w.heap.size + 1) (w.alloc (.cells #[.int .u8 1, .int .i64 0, .int .u64 v] 40)) W → Below W.heap.size W W' → (W'.cell? ⟨w.heap.size, 0, none⟩ = some (.int .u8 1) ∧ W'.cell? ⟨w.heap.size, 1, none⟩ = some (.int .i64 0) ∧ W'.cell? ⟨w.heap.size, 2, none⟩ = some (.int .u64 v) ∧ Below (w.heap.size + 1) (w.alloc (.cells #[.int .u8 1, .int .i64 0, .int .u64 v] 40)) W') := fun W W' h1 h2 => by
      have h3 := h1.trans (h2.mono (by have := h1.size; simp at this; omega))
      have hx := HBX.out.below h3 (by omega)
      exact ⟨hx.cell 0, hx.cell 1, hx.cell 2, h3⟩
    have HN : Hid (∀ W : World, (W.cell? ⟨w.heap.size, 0, none⟩ = some (.int .u8 1) ∧ W.cell? ⟨w.heap.size, 1, none⟩ = some (.int .i64 0) ∧ W.cell? ⟨w.heap.size, 2, none⟩ = some (.int .u64 v) ∧ Below (w.heap.size + 1) (w.alloc (.cells #[.int .u8 1, .int .i64 0, .int .u64 v] 40)) W) → Calls Tryd.prog 39 #[.int .u8 1] W fun e W' => e = .returned (.string S1) ∧ (W'.cell? ⟨w.heap.size, 0, none⟩ = some (.int .u8 1) ∧ W'.cell? ⟨w.heap.size, 1, none⟩ = some (.int .i64 0) ∧ W'.cell? ⟨w.heap.size, 2, none⟩ = some (.int .u64 v) ∧ Below (w.heap.size + 1) (w.alloc (.cells #[.int .u8 1, .int .i64 0, .int .u64 v] 40)) W')) := Lib.hid (fun W hS => (name_one W).mono fun e W' ⟨he, hb⟩ => ⟨by rw [he, HS1.out], keepS W W' hS.2.2.2 hb⟩)
    have HV : Hid (∀ W : World, (W.cell? ⟨w.heap.size, 0, none⟩ = some (.int .u8 1) ∧ W.cell? ⟨w.heap.size, 1, none⟩ = some (.int .i64 0) ∧ W.cell? ⟨w.heap.size, 2, none⟩ = some (.int .u64 v) ∧ Below (w.heap.size + 1) (w.alloc (.cells #[.int .u8 1, .int .i64 0, .int .u64 v] 40)) W) → Calls Tryd.prog 37 #[.int .u64 v] W fun e W' => e = .returned (.string S2) ∧ (W'.cell? ⟨w.heap.size, 0, none⟩ = some (.int .u8 1) ∧ W'.cell? ⟨w.heap.size, 1, none⟩ = some (.int .i64 0) ∧ W'.cell? ⟨w.heap.size, 2, none⟩ = some (.int .u64 v) ∧ Below (w.heap.size + 1) (w.alloc (.cells #[.int .u8 1, .int .i64 0, .int .u64 v] 40)) W')) := Lib.hid (fun W hS => (rnumber_any v h4 W).mono fun e W' ⟨he, hb⟩ => ⟨by rw [he, HS2.out], keepS W W' hS.2.2.2 hb⟩)
    have hS0 : ((w.alloc (.cells #[.int .u8 1, .int .i64 0, .int .u64 v] 40)).cell? ⟨w.heap.size, 0, none⟩ = some (.int .u8 1) ∧ (w.alloc (.cells #[.int .u8 1, .int .i64 0, .int .u64 v] 40)).cell? ⟨w.heap.size, 1, none⟩ = some (.int .i64 0) ∧ (w.alloc (.cells #[.int .u8 1, .int .i64 0, .int .u64 v] 40)).cell? ⟨w.heap.size, 2, none⟩ = some (.int .u64 v) ∧ Below (w.heap.size + 1) (w.alloc (.cells #[.int .u8 1, .int .i64 0, .int .u64 v] 40)) (w.alloc (.cells #[.int .u8 1, .int .i64 0, .int .u64 v] 40))) := ⟨HBX.out.cell 0, HBX.out.cell 1, HBX.out.cell 2, Below.refl _ _⟩
    have HW : Hid (widthD 1 = 8) := Lib.hid (rfl)
    have hb00 : Below (w.heap.size + 1) (w.alloc (.cells #[.int .u8 1, .int .i64 0, .int .u64 v] 40)) (w.alloc (.cells #[.int .u8 1, .int .i64 0, .int .u64 v] 40)).drew := (Below.refl _ _).drew
    clear keepS
    have HR : Hid ((S1 ++ ⟨#[32]⟩) ++ S2 = str (nmOf 1 ++ 32 :: Lib.decDigits v)) := Lib.hid (by rw [HS1.out, HS2.out]; show (str _ ++ str [32]) ++ str _ = _; rw [str_append, str_append]; simp)
    go_enter Tryd.func25, Tryd.ntmps25
    go_wp2_with (go_at_call 38; refine (width_q _ _ _ HW.out).mono ?_; rintro e w2 ⟨rfl, rfl⟩)
    obtain ⟨c0, c1, c2, cb⟩ := hS0
    have r1 : ∀ W : World, (Op.stringOp .add S1 ⟨#[32]⟩).run Tryd.prog W = .ok (.string (S1 ++ ⟨#[32]⟩)) W := fun W => run_string_add_sum W _ _ (by show S1.size + 1 ≤ _; omega)
    have r2 : ∀ W : World, (Op.stringOp .add (S1 ++ ⟨#[32]⟩) S2).run Tryd.prog W = .ok (.string ((S1 ++ ⟨#[32]⟩) ++ S2)) W := fun W => run_string_add_sum W _ _ (by rw [ByteArray.size_append]; show S1.size + 1 + S2.size ≤ _; omega)
    have r3 : ¬ (9223372036854775807 < S1.size + 1) := by omega
    have r4 : ¬ (9223372036854775807 < S1.size + 1 + S2.size) := by omega
    go_region_held3 (fun W => W.cell? ⟨w.heap.size, 0, none⟩ = some (.int .u8 1) ∧ W.cell? ⟨w.heap.size, 1, none⟩ = some (.int .i64 0) ∧ W.cell? ⟨w.heap.size, 2, none⟩ = some (.int .u64 v) ∧ Below (w.heap.size + 1) (w.alloc (.cells #[.int .u8 1, .int .i64 0, .int .u64 v] 40)) W)
      ((first | assumption | (refine ⟨?_, ?_, ?_, ?_⟩ <;> assumption)))
      (first
        | (go_at_call 39; with_reducible refine (HN.out _ (by first | assumption | (refine ⟨?_, ?_, ?_, ?_⟩ <;> assumption))).mono ?_; rintro e W' ⟨rfl, hS⟩)
        | (go_at_call 37; with_reducible refine (HV.out _ (by first | assumption | (refine ⟨?_, ?_, ?_, ?_⟩ <;> assumption))).mono ?_; rintro e W' ⟨rfl, hS⟩))
    have HB2 := Lib.hid (HB0.out.trans (hS.2.2.2.mono (by omega)))
    clear hS r1 r2 r3 r4 c0 c1 c2 cb hb00
    go_wp2
    go_ret
    exact ⟨by rw [HR.out]; rfl, HB2.out⟩
  · simp only [if_neg ho]
    by_cases hg : gOp op = 0
    · rw [if_pos hg]
      have e := (gOp_arg op h1 h2).1 hg
      obtain rfl : v = 0 := h5 hg
      have hopb : opB op = true := by unfold opB; simp; omega
      have HBX := Lib.hid (Blk.new w 40 #[.int .u8 op, .int .i64 (0 : Nat), .int .u64 0])
      have HB0 : Hid (Below w.heap.size w (w.alloc (.cells #[.int .u8 op, .int .i64 (0 : Nat), .int .u64 0] 40))) := Lib.hid ((Below.refl _ _).alloc (Nat.le_refl _) _)
      have keepS : ∀ W W' : World, Below (w.heap.size + 1) (w.alloc (.cells #[.int .u8 op, .int .i64 (0 : Nat), .int .u64 0] 40)) W → Below W.heap.size W W' → (W'.cell? ⟨w.heap.size, 0, none⟩ = some (.int .u8 op) ∧ W'.cell? ⟨w.heap.size, 1, none⟩ = some (.int .i64 (0 : Nat)) ∧ W'.cell? ⟨w.heap.size, 2, none⟩ = some (.int .u64 0) ∧ Below (w.heap.size + 1) (w.alloc (.cells #[.int .u8 op, .int .i64 (0 : Nat), .int .u64 0] 40)) W') := fun W W' h1 h2 => by
        have h3 := h1.trans (h2.mono (by have := h1.size; simp at this; omega))
        have hx := HBX.out.below h3 (by omega)
        exact ⟨hx.cell 0, hx.cell 1, hx.cell 2, h3⟩
      have HN : Hid (∀ W : World, (W.cell? ⟨w.heap.size, 0, none⟩ = some (.int .u8 op) ∧ W.cell? ⟨w.heap.size, 1, none⟩ = some (.int .i64 (0 : Nat)) ∧ W.cell? ⟨w.heap.size, 2, none⟩ = some (.int .u64 0) ∧ Below (w.heap.size + 1) (w.alloc (.cells #[.int .u8 op, .int .i64 (0 : Nat), .int .u64 0] 40)) W) → Calls Tryd.prog 39 #[.int .u8 op] W fun e W' => e = .returned (.string S1) ∧ (W'.cell? ⟨w.heap.size, 0, none⟩ = some (.int .u8 op) ∧ W'.cell? ⟨w.heap.size, 1, none⟩ = some (.int .i64 (0 : Nat)) ∧ W'.cell? ⟨w.heap.size, 2, none⟩ = some (.int .u64 0) ∧ Below (w.heap.size + 1) (w.alloc (.cells #[.int .u8 op, .int .i64 (0 : Nat), .int .u64 0] 40)) W')) := Lib.hid (fun W hS => (name_any _ h1 h2 W).mono fun e W' ⟨he, hb⟩ => ⟨by rw [he, HS1.out], keepS W W' hS.2.2.2 hb⟩)
      have hS0 : ((w.alloc (.cells #[.int .u8 op, .int .i64 (0 : Nat), .int .u64 0] 40)).cell? ⟨w.heap.size, 0, none⟩ = some (.int .u8 op) ∧ (w.alloc (.cells #[.int .u8 op, .int .i64 (0 : Nat), .int .u64 0] 40)).cell? ⟨w.heap.size, 1, none⟩ = some (.int .i64 (0 : Nat)) ∧ (w.alloc (.cells #[.int .u8 op, .int .i64 (0 : Nat), .int .u64 0] 40)).cell? ⟨w.heap.size, 2, none⟩ = some (.int .u64 0) ∧ Below (w.heap.size + 1) (w.alloc (.cells #[.int .u8 op, .int .i64 (0 : Nat), .int .u64 0] 40)) (w.alloc (.cells #[.int .u8 op, .int .i64 (0 : Nat), .int .u64 0] 40))) := ⟨HBX.out.cell 0, HBX.out.cell 1, HBX.out.cell 2, Below.refl _ _⟩
      clear h3 h5
      have HW : Hid (widthD op = 0) := Lib.hid (by unfold widthD; rw [hopb, e.1, e.2]; rfl)
      have hb00 : Below (w.heap.size + 1) (w.alloc (.cells #[.int .u8 op, .int .i64 (0 : Nat), .int .u64 0] 40)) (w.alloc (.cells #[.int .u8 op, .int .i64 (0 : Nat), .int .u64 0] 40)).drew := (Below.refl _ _).drew
      clear keepS
      go_enter Tryd.func25, Tryd.ntmps25
      obtain ⟨c0, c1, c2, cb⟩ := hS0
      go_wp2_with (first | (go_at_call 38; refine (width_q _ _ _ HW.out).mono ?_; rintro e w2 ⟨rfl, rfl⟩) | (go_at_call 39; refine (HN.out _ ⟨c0, c1, c2, cb⟩).mono ?_; rintro e w2 ⟨rfl, _, _, _, hb2⟩; have HB2 := Lib.hid (HB0.out.trans (hb2.mono (by omega))); clear hb2))
      go_ret
      exact ⟨by rw [List.append_nil, HS1.out]; rfl, HB2.out⟩
    · rw [if_neg hg]
      have e := (gOp_arg op h1 h2).2 hg ho
      have hopb : opB op = true := by unfold opB; simp; omega
      obtain ⟨wd, hwd⟩ : ∃ wd : Int, wd = widthD op := ⟨_, rfl⟩
      have hwd1 : wd = 1 ∨ wd = 2 := by
        rw [hwd]
        unfold widthD
        rw [hopb, e.1, if_pos rfl, Nat.add_zero]
        have hb : argW (op : Int) = 0 ∨ argW (op : Int) = 1 ∨ argW (op : Int) = 2 := by unfold argW; split <;> (try split) <;> simp
        rcases hb with hb | hb | hb
        · exfalso; have := e.2; rw [hb] at this; simp at this; omega
        · rw [hb]; left; rfl
        · rw [hb]; right; rfl
      have HBX := Lib.hid (Blk.new w 40 #[.int .u8 op, .int .i64 v, .int .u64 0])
      have HB0 : Hid (Below w.heap.size w (w.alloc (.cells #[.int .u8 op, .int .i64 v, .int .u64 0] 40))) := Lib.hid ((Below.refl _ _).alloc (Nat.le_refl _) _)
      have keepS : ∀ W W' : World, Below (w.heap.size + 1) (w.alloc (.cells #[.int .u8 op, .int .i64 v, .int .u64 0] 40)) W → Below W.heap.size W W' → (W'.cell? ⟨w.heap.size, 0, none⟩ = some (.int .u8 op) ∧ W'.cell? ⟨w.heap.size, 1, none⟩ = some (.int .i64 v) ∧ W'.cell? ⟨w.heap.size, 2, none⟩ = some (.int .u64 0) ∧ Below (w.heap.size + 1) (w.alloc (.cells #[.int .u8 op, .int .i64 v, .int .u64 0] 40)) W') := fun W W' h1 h2 => by
        have h3 := h1.trans (h2.mono (by have := h1.size; simp at this; omega))
        have hx := HBX.out.below h3 (by omega)
        exact ⟨hx.cell 0, hx.cell 1, hx.cell 2, h3⟩
      have HN : Hid (∀ W : World, (W.cell? ⟨w.heap.size, 0, none⟩ = some (.int .u8 op) ∧ W.cell? ⟨w.heap.size, 1, none⟩ = some (.int .i64 v) ∧ W.cell? ⟨w.heap.size, 2, none⟩ = some (.int .u64 0) ∧ Below (w.heap.size + 1) (w.alloc (.cells #[.int .u8 op, .int .i64 v, .int .u64 0] 40)) W) → Calls Tryd.prog 39 #[.int .u8 op] W fun e W' => e = .returned (.string S1) ∧ (W'.cell? ⟨w.heap.size, 0, none⟩ = some (.int .u8 op) ∧ W'.cell? ⟨w.heap.size, 1, none⟩ = some (.int .i64 v) ∧ W'.cell? ⟨w.heap.size, 2, none⟩ = some (.int .u64 0) ∧ Below (w.heap.size + 1) (w.alloc (.cells #[.int .u8 op, .int .i64 v, .int .u64 0] 40)) W')) := Lib.hid (fun W hS => (name_any _ h1 h2 W).mono fun e W' ⟨he, hb⟩ => ⟨by rw [he, HS1.out], keepS W W' hS.2.2.2 hb⟩)
      have HV : Hid (∀ W : World, (W.cell? ⟨w.heap.size, 0, none⟩ = some (.int .u8 op) ∧ W.cell? ⟨w.heap.size, 1, none⟩ = some (.int .i64 v) ∧ W.cell? ⟨w.heap.size, 2, none⟩ = some (.int .u64 0) ∧ Below (w.heap.size + 1) (w.alloc (.cells #[.int .u8 op, .int .i64 v, .int .u64 0] 40)) W) → Calls Tryd.prog 37 #[.int .u64 v] W fun e W' => e = .returned (.string S2) ∧ (W'.cell? ⟨w.heap.size, 0, none⟩ = some (.int .u8 op) ∧ W'.cell? ⟨w.heap.size, 1, none⟩ = some (.int .i64 v) ∧ W'.cell? ⟨w.heap.size, 2, none⟩ = some (.int .u64 0) ∧ Below (w.heap.size + 1) (w.alloc (.cells #[.int .u8 op, .int .i64 v, .int .u64 0] 40)) W')) := Lib.hid (fun W hS => (rnumber_any v h4 W).mono fun e W' ⟨he, hb⟩ => ⟨by rw [he, HS2.out], keepS W W' hS.2.2.2 hb⟩)
      have hS0 : ((w.alloc (.cells #[.int .u8 op, .int .i64 v, .int .u64 0] 40)).cell? ⟨w.heap.size, 0, none⟩ = some (.int .u8 op) ∧ (w.alloc (.cells #[.int .u8 op, .int .i64 v, .int .u64 0] 40)).cell? ⟨w.heap.size, 1, none⟩ = some (.int .i64 v) ∧ (w.alloc (.cells #[.int .u8 op, .int .i64 v, .int .u64 0] 40)).cell? ⟨w.heap.size, 2, none⟩ = some (.int .u64 0) ∧ Below (w.heap.size + 1) (w.alloc (.cells #[.int .u8 op, .int .i64 v, .int .u64 0] 40)) (w.alloc (.cells #[.int .u8 op, .int .i64 v, .int .u64 0] 40))) := ⟨HBX.out.cell 0, HBX.out.cell 1, HBX.out.cell 2, Below.refl _ _⟩
      have HW : Hid (widthD op = wd) := Lib.hid (hwd.symm)
      have hwr : IntKind.u64.wrap (v : Int) = (v : Int) := by rw [IntKind.wrap_u64]; omega
      have g8 : (wd == 8) = false := by simp; omega
      have g0 : (wd == 0) = false := by simp; omega
      have hb00 : Below (w.heap.size + 1) (w.alloc (.cells #[.int .u8 op, .int .i64 v, .int .u64 0] 40)) (w.alloc (.cells #[.int .u8 op, .int .i64 v, .int .u64 0] 40)).drew := (Below.refl _ _).drew
      clear keepS
      have HR : Hid ((S1 ++ ⟨#[32]⟩) ++ S2 = str (nmOf op ++ 32 :: Lib.decDigits v)) := Lib.hid (by rw [HS1.out, HS2.out]; show (str _ ++ str [32]) ++ str _ = _; rw [str_append, str_append]; simp)
      go_enter Tryd.func25, Tryd.ntmps25
      go_wp2_with (go_at_call 38; refine (width_q _ _ _ HW.out).mono ?_; rintro e w2 ⟨rfl, rfl⟩)
      obtain ⟨c0, c1, c2, cb⟩ := hS0
      have r1 : ∀ W : World, (Op.stringOp .add S1 ⟨#[32]⟩).run Tryd.prog W = .ok (.string (S1 ++ ⟨#[32]⟩)) W := fun W => run_string_add_sum W _ _ (by show S1.size + 1 ≤ _; omega)
      have r2 : ∀ W : World, (Op.stringOp .add (S1 ++ ⟨#[32]⟩) S2).run Tryd.prog W = .ok (.string ((S1 ++ ⟨#[32]⟩) ++ S2)) W := fun W => run_string_add_sum W _ _ (by rw [ByteArray.size_append]; show S1.size + 1 + S2.size ≤ _; omega)
      have r3 : ¬ (9223372036854775807 < S1.size + 1) := by omega
      have r4 : ¬ (9223372036854775807 < S1.size + 1 + S2.size) := by omega
      go_region_held3 (fun W => W.cell? ⟨w.heap.size, 0, none⟩ = some (.int .u8 op) ∧ W.cell? ⟨w.heap.size, 1, none⟩ = some (.int .i64 v) ∧ W.cell? ⟨w.heap.size, 2, none⟩ = some (.int .u64 0) ∧ Below (w.heap.size + 1) (w.alloc (.cells #[.int .u8 op, .int .i64 v, .int .u64 0] 40)) W)
        ((first | assumption | (refine ⟨?_, ?_, ?_, ?_⟩ <;> assumption)))
        (first
          | (go_at_call 39; with_reducible refine (HN.out _ (by first | assumption | (refine ⟨?_, ?_, ?_, ?_⟩ <;> assumption))).mono ?_; rintro e W' ⟨rfl, hS⟩)
          | (go_at_call 37; with_reducible refine (HV.out _ (by first | assumption | (refine ⟨?_, ?_, ?_, ?_⟩ <;> assumption))).mono ?_; rintro e W' ⟨rfl, hS⟩))
      have HB2 := Lib.hid (HB0.out.trans (hS.2.2.2.mono (by omega)))
      clear hS r1 r2 r3 r4 c0 c1 c2 cb hb00
      go_wp2
      go_ret
      exact ⟨by rw [HR.out]; rfl, HB2.out⟩
end Go.Proofs.YtbpobbadmbafaaaDoor
