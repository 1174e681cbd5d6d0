/-
  The statements' opening function: true, and nothing that was there is turned.
-/
import Derived.Test.YtjmfbmnhkoeceaaDoorPrint
import Derived.Test.YtjmfbmnhkoeceaaDoorTr
namespace Go.Proofs.YtjmfbmnhkoeceaaDoor
set_option linter.unusedVariables false
open Go.ChangeShapes Go.WideShapes Go.ChangeAt Go.RowKit

theorem first_text : printL [(2, 5), (1, 7)] (1, 3) = [105, 110, 61, 53, 32, 111, 117, 116, 61, 55, 32, 101, 120, 105, 116, 61, 51] := by decide +kernel
theorem first_cmp : ((str [105, 110, 61, 53, 32, 111, 117, 116, 61, 55, 32, 101, 120, 105, 116, 61, 51]).toList == [105, 110, 61, 53, 32, 111, 117, 116, 61, 55, 32, 101, 120, 105, 116, 61, 51]) = true := by kernel_rfl
theorem first_reads (w : World) (v : Int) (t : TypeId) : Reads (w.alloc (.cells #[.int .u64 v] t)) (w.heap.size + 1) 1 (some ⟨w.heap.size, 0, none⟩) 1 ([v].map (Value.int .u64)) :=
  ⟨rfl, fun _ => ⟨_, rfl, by simp, fun j u hj => by
    have ea : (⟨w.heap.size, 0, none⟩ : Addr).add j = ⟨w.heap.size, j, none⟩ := by simp [Addr.add]; exact Eq.symm
    rw [ea, (Blk.new w t _).cell]
    simpa using hj⟩⟩
theorem first_ok (B : Nat) (w : World) (x : Ev) (hx : x = (2, 5) ∨ x = (1, 7) ∨ x = (1, 3)) : EvOk B w x := by
  rcases hx with rfl | rfl | rfl
  · exact ⟨by decide, by decide, .inl (by decide)⟩
  · exact ⟨by decide, by decide, .inl (by decide)⟩
  · exact ⟨by decide, by decide, .inl (by decide)⟩

set_option maxHeartbeats 2000000 in
theorem first_any (w : World) : Calls Tryd.prog 9 #[] w fun e w' => e = .returned (.bool true) ∧ Below w.heap.size w w' := by
  go_enter Tryd.func9, Tryd.ntmps9
  go_wp2_with (go_at_call 10; refine (new_any (w.heap.size + 1) _ 1 1 [5] _ (first_reads w 5 _) (by simp) (by omega)).mono ?_; rintro e w1 ⟨g, tv, rfl, h1, hb1⟩; refine Hid.out ?_)
  have H1 := Lib.hid h1
  have hs1 := hb1.size
  simp only [World.size_alloc] at hs1 hb1
  clear h1
  refine Lib.hid ?_
  go_wp2_with (go_at_call 11; refine (in_any _ g tv _ [5] [] _ (by have := H1.out; rw [World.size_alloc] at this; exact this) (by omega) (by simp)).mono ?_; rintro e w2 ⟨tv2, ev2, rfl, h2, hb2, _⟩; refine Hid.out ?_)
  have H2 := Lib.hid h2
  have hs2 := hb2.size
  clear h2
  refine Lib.hid ?_
  go_wp2_with (go_at_call 12; refine (out_any _ g tv2 ev2 [] [(2, 5)] 7 _ H2.out (by omega) (by simp)).mono ?_; rintro e w3 ⟨ev3, rfl, h3, hb3, _⟩; refine Hid.out ?_)
  have H3 := Lib.hid h3
  have hs3 := hb3.size
  clear h3
  refine Lib.hid ?_
  go_wp2_with (go_at_call 13; refine (events_any _ g tv2 ev3 [] [(2, 5), (1, 7)] _ H3.out (by simp)).mono ?_; rintro e w4 ⟨v4, rfl, h4, hb4⟩; refine Hid.out ?_)
  obtain ⟨A, c, rfl⟩ := own_slice h4
  have HR : Hid (Reads w4 w4.heap.size 2 A 2 (evc [(2, 5), (1, 7)])) := Lib.hid (Reads.of_own h4)
  have hs4 := hb4.size
  have HT := Lib.hid first_text
  clear h4
  refine Lib.hid ?_
  go_wp2_with (go_at_call 19; refine (print_any A 2 c [(2, 5), (1, 7)] 1 3 _ HR.out rfl (by omega) (fun x hx => first_ok _ _ x (by simp at hx; rcases hx with rfl | rfl; exact .inl rfl; exact .inr (.inl rfl))) (first_ok _ _ _ (.inr (.inr rfl)))).mono ?_; rintro e w5 ⟨rfl, hb5⟩; rw [HT.out]; refine Hid.out ?_)
  have hcmp := first_cmp
  refine Lib.hid ?_
  go_wp2
  go_ret
  have hb0 : Below w.heap.size w (w.alloc (.cells #[.int .u64 5] 26)) := (Below.refl _ _).alloc (Nat.le_refl _) _
  exact ⟨rfl, hb0.trans ((hb1.mono (by omega)).trans ((hb2.mono (by omega)).trans ((hb3.mono (by omega)).trans ((hb4.mono (by omega)).trans (hb5.mono (by omega))))))⟩
end Go.Proofs.YtjmfbmnhkoeceaaDoor
