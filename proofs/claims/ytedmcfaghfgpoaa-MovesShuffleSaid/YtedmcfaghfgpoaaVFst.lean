/-
  Package moves: Line; the document's Held; what is asked ahead of everything else.
-/
import Derived.Test.YtedmcfaghfgpoaaVLine
namespace Go.Proofs.Ytedmcfaghfgpoaa
set_option linter.unusedVariables false
set_option linter.unusedSimpArgs false
open Go.ChangeShapes Go.WideShapes Go.ChangeAt Go.RowKit

set_option maxRecDepth 100000 in
theorem line_any (w : World) (A : Option Addr) (k cap : Nat) (ms : List Mv) (s : Int) (hr : Reads w w.heap.size 2 A k (mvc ms)) (hk : ms.length = k) (hk2 : k ≤ 100000) (H : OkM ms 1000000 s) :
    Calls Try.prog 5 #[.slice A k cap, .int .i64 s] w fun e w' => (∃ A' c', e = .returned (.tuple #[.slice A' (lineM s ms).length c', .int .i64 0]) ∧ w'.ownsRow w.heap.size 26 2 (.slice A' (lineM s ms).length c') (lineM s ms).length (mvc (lineM s ms))) ∧ Below w.heap.size w w' := by
  have H1 := Lib.hid (allowed_any w A k cap ms s hr hk hk2 H)
  have H2 : Hid (∀ w', Below w.heap.size w w' → Calls Try.prog 8 #[.slice A k cap, .int .i64 s] w' fun e w2 => (∃ A' c', e = .returned (.slice A' (lineM s ms).length c') ∧ w2.ownsRow w.heap.size 26 2 (.slice A' (lineM s ms).length c') (lineM s ms).length (mvc (lineM s ms))) ∧ Below w.heap.size w w2) := Lib.hid fun w' hb => by
    refine (inLine_any w' A k cap ms s ((hr.below hb).more hb.size) hk hk2 H).mono ?_
    rintro e w2 ⟨⟨v, rfl, ho⟩, h2⟩
    obtain ⟨A', c', rfl⟩ := own_slice ho
    exact ⟨⟨A', c', rfl, own_more ho hb.size⟩, hb.trans (h2.mono hb.size)⟩
  clear hr hk hk2 H
  go_enter Try.func5, Try.ntmps5
  go_wp2_with (first
    | (go_at_call 7; refine H1.out.mono ?_; rintro e w2 ⟨rfl, hb2⟩; have HB2 := Lib.hid hb2; clear hb2)
    | (go_at_call 8; refine (H2.out _ HB2.out).mono ?_; rintro e w3 ⟨⟨A3, c3, rfl, ho3⟩, hb3⟩; have HO3 := Lib.hid ho3; have HB3 := Lib.hid hb3; clear ho3 hb3)
    | go_in)
  go_ret2
  exact ⟨⟨A3, c3, rfl, HO3.out⟩, HB3.out⟩

def heldL (ln : List Mv) (p : Int) : Int := ln.foldr (fun m a => if m.1 = a then m.2 else a) p
set_option maxRecDepth 100000 in
set_option maxHeartbeats 3200000 in
theorem held_any (w : World) (A : Option Addr) (k cap : Nat) (ln : List Mv) (p : Int) (hr : Reads w w.heap.size 2 A k (mvc ln)) (hk : ln.length = k) (hk2 : k ≤ 1000000) :
    Calls Try.prog 6 #[.slice A k cap, .int .i64 p] w fun e w' => e = .returned (.int .i64 (heldL ln p)) ∧ w = w' := by
  have HR := Lib.hid hr
  clear hr
  go_enter Try.func6, Try.ntmps6
  go_wp2
  go_loopw [5, 6] (fun a s wr => ∃ (i : Nat) (x : Int), a = .int .i64 x ∧ s = .int .i64 ((i : Int) - 1) ∧ i ≤ k ∧ Hid (x = heldL (ln.drop i) p) ∧ w = wr) (fun _ s _ => ((intOf s) + 1).toNat)
  case atStart => exact ⟨k, p, rfl, rfl, by omega, Lib.hid (by rw [List.drop_of_length_le (by omega)]; rfl), rfl⟩
  case round =>
    obtain ⟨i, x, rfl, rfl, hi, HX, rfl⟩ := hrel
    by_cases h0 : i = 0
    · subst h0
      have HX2 : Hid (x = heldL ln p) := HX
      clear HX
      go_wp2
      first | go_end0 | go_ret
      rw [HX2.out]
      exact ⟨rfl, rfl⟩
    · obtain ⟨j, rfl⟩ : ∃ j, i = j + 1 := ⟨i - 1, by omega⟩
      have hjl : j < ln.length := by omega
      obtain ⟨b, off, rfl, hb, hc⟩ := HR.out.lit (by omega) (by omega)
      obtain ⟨m, hm⟩ : ∃ m, m = ln[j] := ⟨_, rfl⟩
      have hmi : ln[j]? = some m := by rw [List.getElem?_eq_getElem hjl, hm]
      have hat := mvc_at hmi
      have hdr : ln.drop j = m :: ln.drop (j + 1) := by rw [List.drop_eq_getElem_cons hjl, ← hm]
      obtain ⟨a, f⟩ := m
      simp only at hat
      have x0 : w.cell? ⟨b, off + j * 2, none⟩ = some (.int .i64 a) := hc _ _ hat.1
      have x1 : w.cell? ⟨b, off + (j * 2 + 1), none⟩ = some (.int .i64 f) := hc _ _ hat.2
      rw [← Nat.add_assoc] at x1
      have e1 : (((j + 1 : Nat) : Int) - 1) = (j : Int) := by omega
      have HN : Hid ((if a = x then f else x) = heldL (ln.drop j) p) := Lib.hid (by rw [hdr, HX.out]; rfl)
      rw [e1]
      clear hat hc hmi hdr hm HX e1
      by_cases hax : a = x
      · rw [if_pos hax] at HN
        have hg : (a == x) = true := by simpa using hax
        clear hax
        go_wp2
        go_roundw
        case rel => exact ⟨j, f, rfl, rfl, by omega, HN, by trivial⟩
        case measure => simp [intOf] <;> omega
      · rw [if_neg hax] at HN
        have hg : (a == x) = false := by simpa using hax
        clear hax
        go_wp2
        go_roundw
        case rel => exact ⟨j, x, rfl, rfl, by omega, HN, by trivial⟩
        case measure => simp [intOf] <;> omega
set_option maxRecDepth 100000 in
set_option maxHeartbeats 3200000 in
theorem first_any (w : World) :
    Calls Try.prog 4 #[] w fun e w' => e = .returned (.bool true) ∧ Below w.heap.size w w' := by
  have hr : Reads (w.alloc (.cells #[.int .i64 1, .int .i64 2, .int .i64 2, .int .i64 1] 26)) (w.alloc (.cells #[.int .i64 1, .int .i64 2, .int .i64 2, .int .i64 1] 26)).heap.size 2 (some ⟨w.heap.size, 0, none⟩) 2 (mvc [(1, 2), (2, 1)]) :=
    ⟨rfl, fun _ => ⟨_, rfl, by simp, fun j u hj => by
      have ea : (⟨w.heap.size, 0, none⟩ : Addr).add j = ⟨w.heap.size, j, none⟩ := by simp [Addr.add]; exact Eq.symm
      rw [ea, (Blk.new w _ _).cell]
      simpa [mvc, mvOne] using hj⟩⟩
  have hok : OkM [(1, 2), (2, 1)] 1000000 9 := ⟨by decide, by decide, by decide, by decide, by decide⟩
  have HL := Lib.hid (line_any _ _ 2 2 _ 9 hr rfl (by decide) hok)
  rw [line_swap] at HL
  clear hr hok
  go_enter Try.func4, Try.ntmps4
  go_wp2_with (first
    | (go_at_call 5; refine HL.out.mono ?_; rintro e w2 ⟨⟨A2, c2, rfl, ho2⟩, hb2⟩; have HH := Lib.hid (fun p => held_any w2 A2 3 c2 _ p (Reads.of_own ho2) rfl (by decide)); have HB2 := Lib.hid (((Below.refl _ _).alloc (Nat.le_refl _) _).trans (hb2.mono (by simp))); clear ho2 hb2)
    | (go_at_call 6; refine (HH.out _).mono ?_; rintro e w3 ⟨rfl, rfl⟩)
    | go_in)
  first | go_end0 | go_ret
  exact ⟨rfl, HB2.out⟩
end Go.Proofs.Ytedmcfaghfgpoaa
