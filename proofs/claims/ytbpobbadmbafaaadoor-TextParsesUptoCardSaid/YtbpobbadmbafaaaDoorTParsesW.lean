/-
  TextParses: the walk, for every text of at most 2^20 bytes.
-/
import Derived.Test.YtbpobbadmbafaaaDoorTRefP
import Derived.Test.YtbpobbadmbafaaaDoorTFirst
namespace Go.Proofs.YtbpobbadmbafaaaDoor
set_option linter.unusedVariables false
open Go.ChangeShapes Go.WideShapes Go.ChangeAt Go.RowKit

set_option maxRecDepth 100000 in
set_option maxHeartbeats 4000000 in
theorem parses_walk (s : ByteArray) (w : World) (hs : s.size ≤ 1048576) (hE : Env w.heap.size w) :
    Calls Tryd.prog 3 #[.string s] w fun e w' => e = .returned (.bool true) ∧ Below w.heap.size w w' := by
  obtain ⟨t, HT⟩ : ∃ t, Hid (s = str t) := ⟨_, Lib.hid (str_of s)⟩
  have htl : t.length ≤ 1048576 := by have h := hs; rw [HT.out, str_size] at h; exact h
  have HTL := Lib.hid htl
  have HE := Lib.hid hE
  clear htl hE
  cases hp : parseT t with
  | inl fs =>
    have HP := Lib.hid hp
    clear hp
    have HC1 : Hid (∀ W, Env W.heap.size W → Calls Tryd.prog 5 #[.string s] W fun e w' => ∃ (A : Option Addr) (n c : Nat) (rs : List Raw), fns rs = fs ∧ e = .returned (.tuple #[.agg #[.slice A n c], .int .i64 0, .int .i64 0]) ∧ RdP w' w'.heap.size A n rs ∧ n ≤ c ∧ Below W.heap.size W w') := Lib.hid fun W hW => by
      rw [HT.out]; exact parse_yes t fs HP.out (by have := HTL.out; omega) W hW
    have HC2 : Hid (∀ W, Calls Tryd.prog 6 #[.string s] W fun e w' => ∃ (A : Option Addr) (n c : Nat) (rs : List Raw), fns rs = fs ∧ e = .returned (.tuple #[.agg #[.slice A n c], .int .i64 0]) ∧ RdP w' w'.heap.size A n rs ∧ Below W.heap.size W w') := Lib.hid fun W => by
      rw [HT.out]
      refine (rparse_any t HTL.out W).mono ?_
      rintro e w' ⟨hb, ⟨A, n, c, rs, hq, rfl, hr⟩ | ⟨k, hq, _⟩⟩
      · rw [HP.out] at hq; injection hq with hq
        exact ⟨A, n, c, rs, hq.symm, rfl, hr, hb⟩
      · rw [HP.out] at hq; cases hq
    go_enter Tryd.func3, Tryd.ntmps3
    go_wp2_with (go_at_call 4; refine (first_any _ HE.out).mono ?_; rintro e w1 ⟨rfl, hb1⟩; refine Hid.out ?_)
    have HB1 := Lib.hid hb1
    have hz1 := hb1.size
    clear hb1
    refine Lib.hid ?_
    go_wp2_with (go_at_call 5; refine (HC1.out _ (HE.out.at_ HB1.out hz1)).mono ?_; rintro e w2 ⟨A, n, c, rs, hrs, rfl, hr, hnc, hb2⟩; refine Hid.out ?_)
    have hz2 := hb2.size
    have HB2 := Lib.hid (HB1.out.trans (hb2.mono hz1))
    have HR2 := Lib.hid hr
    have HRS := Lib.hid hrs
    clear hr hrs hb2
    have HX2 := Lib.hid (Blk.new w2 25 #[.slice A n c])
    refine Lib.hid ?_
    go_wp2_with (go_at_call 6; refine (HC2.out _).mono ?_; rintro e w3 ⟨A', n', c', rs', hrs', rfl, hr', hb3⟩; refine Hid.out ?_)
    have hz3 : w2.heap.size < w3.heap.size := by have := hb3.size; simp at this; omega
    have HB3 := Lib.hid ((HB2.out.alloc (by omega) (.cells #[.slice A n c] 25)).trans (hb3.mono (by simp; omega)))
    have hx3 := HX2.out.below hb3 (by simp)
    have x3 : w3.cell? ⟨w2.heap.size, 0, none⟩ = some (.slice A n c) := hx3.cell 0
    have x3a : ∀ o : Obj, (w3.alloc o).cell? ⟨w2.heap.size, 0, none⟩ = some (.slice A n c) := fun o => (hx3.alloc o).cell 0
    have HR3 : Hid (∀ o : Obj, RdP (w3.alloc o) w3.heap.size A n rs) := Lib.hid fun o => ((((HR2.out.alloc (Nat.le_refl _) _).below (hb3.mono (by simp))).more (by omega)).alloc (Nat.le_refl _) o)
    have HR3' : Hid (∀ o : Obj, RdP (w3.alloc o) w3.heap.size A' n' rs') := Lib.hid fun o => hr'.alloc (Nat.le_refl _) o
    have HEQ : Hid (decide (fns rs = fns rs') = true) := Lib.hid (by rw [HRS.out, hrs']; simp)
    clear hb3 hr' hrs' hx3
    refine Lib.hid ?_
    go_wp2_with (go_at_call 7; refine (rsame_any w3.heap.size _ _ _ _ _ _ _ _ _ (HR3.out _) (HR3'.out _) (by simp)).mono ?_; rintro e w8 ⟨rfl, hb8⟩; rw [HEQ.out]; have HB8 := Lib.hid ((HB3.out.alloc HB3.out.size _).trans (hb8.mono (by simp; have := HB3.out.size; omega))); clear hb8; refine Hid.out ?_)
    refine Lib.hid ?_
    go_wp2
    go_ret
    exact ⟨rfl, HB8.out⟩
  | inr k =>
    have HP := Lib.hid hp
    clear hp
    have HC2 : Hid (∀ W, Calls Tryd.prog 6 #[.string s] W fun e w' => (1 ≤ k ∧ e = .returned (.tuple #[.agg #[.slice none 0 0], .int .i64 (k : Int)])) ∧ Below W.heap.size W w') := Lib.hid fun W => by
      rw [HT.out]
      refine (rparse_any t HTL.out W).mono ?_
      rintro e w' ⟨hb, ⟨A, n, c, rs, hq, _⟩ | ⟨j, hq, rfl⟩⟩
      · rw [HP.out] at hq; cases hq
      · rw [HP.out] at hq; injection hq with hq
        subst hq
        exact ⟨⟨by omega, by simp⟩, hb⟩
    have HC1 : Hid (∀ W, Env W.heap.size W → Calls Tryd.prog 5 #[.string s] W fun e w' => e = .returned (.tuple #[.agg #[.slice none 0 0], .int .i64 (k : Int), .int .i64 40]) ∧ Below W.heap.size W w') := Lib.hid fun W hW => by
      rw [HT.out]; exact parse_bad t k HP.out (by have := HTL.out; omega) W hW
    go_enter Tryd.func3, Tryd.ntmps3
    go_wp2_with (go_at_call 4; refine (first_any _ HE.out).mono ?_; rintro e w1 ⟨rfl, hb1⟩; refine Hid.out ?_)
    have HB1 := Lib.hid hb1
    have hz1 := hb1.size
    clear hb1
    refine Lib.hid ?_
    go_wp2_with (go_at_call 5; refine (HC1.out _ (HE.out.at_ HB1.out hz1)).mono ?_; rintro e w2 ⟨rfl, hb2⟩; refine Hid.out ?_)
    have hz2 := hb2.size
    have HB2 := Lib.hid (HB1.out.trans (hb2.mono hz1))
    clear hb2
    have HX2 := Lib.hid (Blk.new w2 25 #[.slice none 0 0])
    refine Lib.hid ?_
    go_wp2_with (go_at_call 6; refine (HC2.out _).mono ?_; rintro e w3 ⟨⟨hk, rfl⟩, hb3⟩; refine Hid.out ?_)
    have hz3 : w2.heap.size < w3.heap.size := by have := hb3.size; simp at this; omega
    have HB3 := Lib.hid ((HB2.out.alloc (by omega) (.cells #[.slice none 0 0] 25)).trans (hb3.mono (by simp; omega)))
    have hx3 := HX2.out.below hb3 (by simp)
    have x3 : w3.cell? ⟨w2.heap.size, 0, none⟩ = some (.slice none 0 0) := hx3.cell 0
    have x3a : ∀ o : Obj, (w3.alloc o).cell? ⟨w2.heap.size, 0, none⟩ = some (.slice none 0 0) := fun o => (hx3.alloc o).cell 0
    have gk : decide (0 < k) = true := by simp; omega
    clear hb3 hx3
    refine Lib.hid ?_
    go_wp2
    go_ret
    exact ⟨rfl, HB3.out.alloc HB3.out.size _⟩
end Go.Proofs.YtbpobbadmbafaaaDoor
