/-
  Package code's fits, flagByte, put.
-/
import Derived.Test.YtcgoanfhabjpfaaApp
import Derived.Test.YtcgoanfhabjpfaaOps
namespace Go.Proofs.Ytcgoanfhabjpfaa
set_option linter.unusedVariables false
open Go.ChangeShapes Go.WideShapes Go.ChangeAt Go.RowKit

theorem pow_256 (k : Nat) : (2 : Int) ^ (8 * k) = 256 ^ k := by rw [Int.pow_mul]; rfl
theorem pow_pos256 (k : Nat) : (0 : Int) < 256 ^ k := Int.pow_pos (by omega)
theorem fit_div {n : Nat} {v : Int} (h : 0 ≤ v) : fitB n v = (v / 2 ^ (8 * n) == 0) := by
  unfold fitB
  rw [pow_256]
  have hp := pow_pos256 n
  generalize (256 : Int) ^ n = q at hp ⊢
  rw [Bool.eq_iff_iff]
  simp only [decide_eq_true_eq, beq_iff_eq]
  constructor
  · intro ⟨_, h2⟩
    exact Int.ediv_eq_zero_of_lt h h2
  · intro h2
    refine ⟨h, ?_⟩
    have := Int.lt_ediv_add_one_mul_self v hp
    rw [h2] at this
    omega

set_option maxHeartbeats 800000 in
theorem fits_any (v : Int) (n : Nat) (w : World) (h0 : 0 ≤ v) (h1 : v ≤ 18446744073709551615) (hn : n ≤ 8) :
    Calls Try.prog 38 #[.int .u64 v, .int .i64 n] w fun e w' => e = .returned (.bool (fitB n v)) ∧ w = w' := by
  rw [fit_div h0]
  go_enter Try.func38, Try.ntmps38
  go_wp2
  go_ret
  exact ⟨rfl, rfl⟩
set_option maxHeartbeats 800000 in
theorem flagByte_any (b : Bool) (w : World) :
    Calls Try.prog 40 #[.bool b] w fun e w' => e = .returned (.int .u8 (if b then 1 else 0)) ∧ w = w' := by
  cases b
  all_goals
    go_enter Try.func40, Try.ntmps40
    go_wp2
    go_ret
    exact ⟨rfl, rfl⟩
theorem own_alloc' {w : World} {base size n : Nat} {e : TypeId} {v : Value} {xs : List Value} (h : w.ownsRow base e size v n xs) (o : Obj) : (w.alloc o).ownsRow base e size v n xs := h.alloc o
theorem blk_own {w w' : World} {base size n p : Nat} {e t : TypeId} {v : Value} {xs : List Value} {cs : Array Value} (hb : Blk w p t cs) (h : w.ownsRow base e size v n xs) (hg : w.grownBy w' v.ownBlock) (hne : e ≠ t) : Blk w' p t cs :=
  hb.grown hg fun e' => own_blk_ne h hb hne e'.symm
/-- a row of the call's own has grown: nothing old has turned but its own block; it lies there still, or in what is new -/
def Grew (w : World) (v : Value) (w' : World) (v' : Value) : Prop := w.grownBy w' v.ownBlock ∧ (v'.ownBlock = v.ownBlock ∨ ∃ g, v'.ownBlock = some g ∧ w.heap.size ≤ g)
theorem Grew.refl (w : World) (v : Value) : Grew w v w v := ⟨World.grownBy.refl w _, .inl rfl⟩
theorem Grew.trans {w w1 w2 : World} {v v1 v2 : Value} (h : Grew w v w1 v1) (k : Grew w1 v1 w2 v2) : Grew w v w2 v2 := by
  have hs := h.1.size
  refine ⟨⟨k.1.os.trans h.1.os, k.1.tape.trans h.1.tape, k.1.output.trans h.1.output, Nat.le_trans hs k.1.size, fun i hi hn => (k.1.block i (by omega) ?_).trans (h.1.block i hi hn)⟩, ?_⟩
  · rcases h.2 with h2 | ⟨g, h2, h3⟩
    · rw [h2]; exact hn
    · rw [h2]; intro e; injection e with e; omega
  · rcases k.2 with k2 | ⟨g, k2, k3⟩
    · rcases h.2 with h2 | ⟨g, h2, h3⟩
      · exact .inl (k2.trans h2)
      · exact .inr ⟨g, k2.trans h2, h3⟩
    · exact .inr ⟨g, k2, by omega⟩
theorem Grew.app {w w' : World} {v v' : Value} {o : Obj} (hg : (w.alloc o).grownBy w' v.ownBlock) (ho : v'.ownBlock = v.ownBlock ∨ v'.ownBlock = some (w.alloc o).heap.size) : Grew w v w' v' := by
  have hs := hg.size
  simp at hs
  refine ⟨⟨hg.os, hg.tape, hg.output, by omega, fun i hi hn => (hg.block i (by simp; omega) hn).trans (Below.heap_alloc w o i hi)⟩, ?_⟩
  rcases ho with ho | ho
  · exact .inl ho
  · exact .inr ⟨_, ho, by simp⟩
theorem Grew.alloc {w w' : World} {v v' : Value} (h : Grew w v w' v') (o : Obj) : Grew w v (w'.alloc o) v' := ⟨only_alloc h.1 o, h.2⟩
theorem Grew.below {w w' : World} {v v' : Value} (h : Grew w v w' v') {w2 : World} (hb : Below w'.heap.size w' w2) : Grew w v w2 v' := h.trans ⟨only_of_below hb _, .inl rfl⟩
theorem Grew.drew {w w' : World} {v v' : Value} (h : Grew w v w' v') : Grew w v w'.drew v' := ⟨only_drew h.1, h.2⟩
theorem Grew.blk {w w' : World} {base size n q : Nat} {e t : TypeId} {v v' : Value} {xs : List Value} {cs : Array Value} (h : Grew w v w' v') (hb : Blk w q t cs) (ho : w.ownsRow base e size v n xs) (hne : e ≠ t) : Blk w' q t cs := blk_own hb ho h.1 hne
theorem Grew.toBelow {w w' : World} {base size n : Nat} {e : TypeId} {v v' : Value} {xs : List Value} (h : Grew w v w' v') (ho : w.ownsRow base e size v n xs) (hb : base ≤ w.heap.size) : Below base w w' :=
  (Below.refl base w).grown h.1 hb fun i hi => (own_block_le ho hi).1
/-- what 'put' leaves: the row has grown by so many bytes -/
def PutW (w : World) (base : Nat) (v : Value) (l : List Int) (e : Ending) (w' : World) : Prop :=
  ∃ A c, e = .returned (.slice A l.length c) ∧ w'.ownsRow base 5 1 (.slice A l.length c) l.length (u8c l) ∧ Below base w w' ∧ Grew w v w' (.slice A l.length c)

set_option maxHeartbeats 1600000 in
theorem put_any (base : Nat) (A0 : Option Addr) (m c0 : Nat) (l : List Int) (v : Int) (n : Nat) (w : World) (h : w.ownsRow base 5 1 (.slice A0 m c0) m (u8c l)) (hm : l.length = m) (h0 : 0 ≤ v) (h1 : v ≤ 18446744073709551615) (hn : n ≤ 8)
    (hb : base ≤ w.heap.size) (hr : m ≤ 4294967296) :
    Calls Try.prog 25 #[.slice A0 m c0, .int .u64 v, .int .i64 n] w (PutW w base (.slice A0 m c0) (l ++ le n v)) := by
  have H := Lib.hid h
  have HM := Lib.hid hm
  clear h hm
  go_enter Try.func25, Try.ntmps25
  go_wp2
  go_loopw [0, 9] (fun s i wr => ∃ (k : Nat) (A : Option Addr) (c : Nat), k ≤ n ∧ i = .int .i64 k ∧ s = .slice A (m + k) c ∧ Hid (wr.ownsRow base 5 1 (.slice A (m + k) c) (m + k) (u8c (l ++ le k v))) ∧ Hid (Grew w (.slice A0 m c0) wr (.slice A (m + k) c))) (fun _ i _ => n - (intOf i).toNat)
  case atStart => exact ⟨0, A0, c0, Nat.zero_le _, rfl, rfl, (by show w.ownsRow _ _ _ _ _ _; simpa [le] using H.out), Grew.refl _ _⟩
  case round =>
    obtain ⟨k, A, c, hk, rfl, rfl, HO, HB⟩ := hrel
    have hz := HB.out.1.size
    by_cases hlt : k < n
    · have HRd := Lib.hid (one_reads wr 5 [.int .u8 (v / 2 ^ (8 * k) % 256)] 1 rfl)
      have HOne : Hid (∀ u ∈ [Value.int .u8 (v / 2 ^ (8 * k) % 256)], u.oneCell' = true) := Lib.hid (u8c_one [v / 2 ^ (8 * k) % 256])
      have HOa := Lib.hid (own_alloc' HO.out (.cells #[.int .u8 (v / 2 ^ (8 * k) % 256)] 5))
      go_wp2_with (at_builtin; refine app_byte rfl _ _ rfl base (.slice A (m + k) c) (m + k) _ rfl HOa.out (wr.heap.size + 1) (some ⟨wr.heap.size, 0, none⟩) 1 1 [.int .u8 (v / 2 ^ (8 * k) % 256)] rfl HRd.out HOne.out (by omega) (by simp; omega) ?_; intro v' w3 hown hgr hor; refine Hid.out ?_)
      obtain ⟨A3, c3, rfl⟩ := own_slice hown
      have HO3 : Hid (w3.ownsRow base 5 1 (.slice A3 (m + (k + 1)) c3) (m + (k + 1)) (u8c (l ++ le (k + 1) v))) := by
        rw [le_snoc, ← pow_256, ← List.append_assoc, u8c_append]
        exact hown
      have HB3 : Hid (Grew w (.slice A0 m c0) w3 (.slice A3 (m + (k + 1)) c3)) := HB.out.trans (Grew.app hgr hor)
      clear hown hgr hor
      refine Lib.hid ?_
      go_wp2
      go_roundw
      case rel => exact ⟨k + 1, A3, c3, by omega, by go_num, rfl, HO3, HB3⟩
      case measure => simp [intOf]; omega
    · obtain rfl : n = k := by omega
      clear hlt hk
      go_wp2
      go_ret
      have hl : (l ++ le n v).length = m + n := by rw [List.length_append, HM.out, length_le]
      refine ⟨A, c, by rw [hl]; rfl, by rw [hl]; exact HO.out, HB.out.toBelow H.out hb, by rw [hl]; exact HB.out⟩
end Go.Proofs.Ytcgoanfhabjpfaa
