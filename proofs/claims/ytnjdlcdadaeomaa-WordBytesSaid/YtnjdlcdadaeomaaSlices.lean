/-
  Slices of bytes and words as values in memory, and what word.Put and word.Take do with them.
-/
import Derived.Test.YtnjdlcdadaeomaaRows
import Derived.Test.YtnjdlcdadaeomaaMath
import Derived.WalkKit
import Derived.ProofKit
import Derived.OpenShut
import Derived.Laws.Shifts
import Derived.Laws.CopyOwn
import Derived.Lib.Hide
namespace Go.Proofs.Ytnjdlcdadaeomaa
open Go.ChangeShapes Go.WideShapes Go.ChangeAt Go.RowKit

/-- The first 'len' cells that a slice's address leads to hold the numbers l (integers of kind k). -/
def Holds (k : IntKind) (w : World) (ao : Option Addr) (len : Nat) (l : List Int) : Prop :=
  l.length = len ∧ (0 < len → ∃ b off, ao = some ⟨b, off, none⟩ ∧ b < w.heap.size ∧ ∀ j, j < len → w.cell? ⟨b, off + j, none⟩ = some (.int k (l.getD j 0)))

/-- What a walk is told of a slice of integers that came in: nil; or a row of cells, the numbers zs, the first len of them its elements. -/
def IsRow (k : IntKind) (w : World) (a : Option Addr) (len cap : Nat) (zs : List Int) : Prop :=
  (a = none ∧ len = 0 ∧ cap = 0 ∧ zs = []) ∨
  ∃ x, a = some x ∧ len ≤ cap ∧ cap ≤ maxLen ∧ zs.length = cap ∧ (∀ i, i < zs.length → w.cell? (x.add i) = some (.int k (zs.getD i 0))) ∧ ∀ n ∈ zs, (Lit.int k n).wf = true
/-- bytes: 0 to 255 -/
def AreBytes (l : List Int) : Prop := ∀ j, 0 ≤ l.getD j 0 ∧ l.getD j 0 ≤ 255

/-- the word that the first k of eight bytes say, the least first -/
def take8 (l : List Int) (at_ : Nat) : Nat → Int
  | 0 => 0
  | k + 1 => bits BinOp.or IntKind.u64 (take8 l at_ k) (IntKind.u64.wrap (l.getD (at_ + k) 0 * 2 ^ (8 * k)))

set_option maxHeartbeats 400000 in
theorem take_in (b off len cap : Nat) (i : Nat) (l : List Int) (w : World) (hl : l.length = len) (hc : ∀ j, j < len → w.cell? ⟨b, off + j, none⟩ = some (.int .u8 (l.getD j 0))) (hb : AreBytes l) (hi : i + 8 ≤ len) (hlen : len ≤ maxLen) :
    Calls Try.prog 14 #[.slice (some ⟨b, off, none⟩) len cap, .int .i64 i] w fun e w' => e = .returned (.tuple #[.int .u64 (take8 l i 8), .bool true]) ∧ w = w' := by
  unfold maxLen at hlen
  have HC := Lib.hid hc
  have HB := Lib.hid hb
  clear hc hb
  go_enter Try.func14, Try.ntmps14
  go_wp2
  go_loop [6, 17] (fun v n => ∃ k : Nat, k ≤ 8 ∧ n = .int .i64 k ∧ v = .int .u64 (take8 l i k)) (fun _ n => 8 - (intOf n).toNat)
  case atStart => exact ⟨0, Nat.zero_le _, rfl, rfl⟩
  case round =>
    obtain ⟨k, hk, rfl, rfl⟩ := hrel
    by_cases hlt : k < 8
    · obtain ⟨x, HX⟩ : ∃ x, Hid (x = l.getD (i + k) 0) := ⟨_, rfl⟩
      have hcx := HC.out (i + k) (by omega)
      have hbx := HB.out (i + k)
      rw [← HX.out] at hcx hbx
      go_wp2
      go_round
      case rel => exact ⟨k + 1, by omega, by go_num, by rw [HX.out]; rfl⟩
      case measure => simp [intOf]; omega
    · obtain rfl : k = 8 := by omega
      go_wp2
      go_ret2
      exact ⟨rfl, rfl⟩

/-- Take outside: negative, or beyond the last offset at which eight bytes lie -/
theorem take_out (ao : Option Addr) (len cap : Nat) (i : Int) (w : World) (hlen : len ≤ maxLen) (h : i < 0 ∨ (len : Int) - 8 < i) :
    Calls Try.prog 14 #[.slice ao len cap, .int .i64 i] w fun e w' => e = .returned (.tuple #[.int .u64 0, .bool false]) ∧ w = w' := by
  unfold maxLen at hlen
  rcases h with h | h
  · go_enter Try.func14, Try.ntmps14
    go_wp2
    go_ret2
    exact ⟨rfl, rfl⟩
  · by_cases h' : i < 0
    all_goals
      go_enter Try.func14, Try.ntmps14
      go_wp2
      go_ret2
      exact ⟨rfl, rfl⟩

theorem Try.info5 : (Try.prog.info? 5).map (fun i => (i.zero, i.size, i.bytes)) = some (some (.int .u8 0), 1, 1) := by kernel_rfl

/-- byte k of a word -/
def wbyte (v : Int) (k : Nat) : Int := v / 2 ^ (8 * k) % 256
/-- the eight bytes of a word -/
def wbytes (v : Int) : List Int := (List.range 8).map (wbyte v)
/-- Put's new array when k bytes of the word have been written -/
def putL (l : List Int) (v : Int) (k : Nat) : List Int := l ++ (wbytes v).take k ++ List.replicate (8 - k) 0
def putC (l : List Int) (v : Int) (k : Nat) : Array Value := ((putL l v k).map (Value.int .u8)).toArray

theorem made_block {w w1 : World} {n : Nat} (hown : w1.ownsRow w.heap.size 5 1 (.slice (some ⟨w.heap.size, 0, none⟩) n n) n (madeCells #[Value.int .u8 0] n).toList) :
    w1.heap[w.heap.size]? = some (.cells ((List.replicate n (0 : Int)).map (Value.int .u8)).toArray 5 (0, 0)) := by
  rcases hown.2 with ⟨h, _⟩ | ⟨g, cap, cur, h, _, hg, _, _, hcs, htake⟩
  · simp at h
  · simp only [Value.slice.injEq, Option.some.injEq, Addr.mk.injEq, and_true, true_and] at h
    obtain ⟨rfl, rfl⟩ := h
    rw [hg]
    have e : cur.toList = (List.replicate n (0 : Int)).map (Value.int .u8) := by
      rw [List.take_of_length_le (by simp; omega)] at htake
      rw [htake]
      apply List.ext_getElem
      · simp [size_madeCells]
      · intro j h1 h2
        simp [madeCells, Nat.mod_one]
    rw [← e]

theorem length_wbytes (v : Int) : (wbytes v).length = 8 := by simp [wbytes]
theorem length_putL (l : List Int) (v : Int) (k : Nat) (h : k ≤ 8) : (putL l v k).length = l.length + 8 := by
  simp [putL, length_wbytes]; omega
theorem putL_set (l : List Int) (v : Int) (k : Nat) (h : k < 8) : (putL l v k).set (l.length + k) (wbyte v k) = putL l v (k + 1) := by
  unfold putL
  rw [List.append_assoc, List.append_assoc, List.set_append]
  rw [if_neg (by omega), Nat.add_sub_cancel_left]
  congr 1
  obtain rfl | rfl | rfl | rfl | rfl | rfl | rfl | rfl : k = 0 ∨ k = 1 ∨ k = 2 ∨ k = 3 ∨ k = 4 ∨ k = 5 ∨ k = 6 ∨ k = 7 := by omega
  all_goals rfl
theorem putC_set (l : List Int) (v : Int) (k : Nat) (h : k < 8) : (putC l v k).setIfInBounds (l.length + k) (.int .u8 (wbyte v k)) = putC l v (k + 1) := by
  unfold putC
  rw [← putL_set l v k h]
  apply Array.ext'
  simp [List.map_set]
theorem putC_start (l : List Int) (v : Int) : (splice ((List.replicate (l.length + 8) (0 : Int)).map (Value.int .u8)) 0 (l.map (Value.int .u8))).toArray = putC l v 0 := by
  unfold putC putL splice
  congr 1
  simp
theorem putC_start' (l : List Int) (v : Int) : (splice (List.replicate (l.length + 8) (Value.int .u8 0)) 0 (l.map (Value.int .u8))).toArray = putC l v 0 := by
  rw [← putC_start l v, List.map_replicate]
theorem putC_at (l : List Int) (v : Int) (k : Nat) (h : k < 8) : (putC l v k)[l.length + k]? = some (.int .u8 0) := by
  unfold putC putL
  rw [List.getElem?_toArray, List.getElem?_map, List.append_assoc, List.getElem?_append_right (by omega), Nat.add_sub_cancel_left, List.getElem?_append_right (by rw [List.length_take, length_wbytes]; omega)]
  have : k - ((wbytes v).take k).length = 0 := by rw [List.length_take, length_wbytes]; omega
  rw [this, List.getElem?_replicate, if_pos (by omega)]
  rfl

theorem put_step {wr : World} {g len k : Nat} {l : List Int} {v : Int} (hl : l.length = len) (hk : k < 8) (h : wr.heap[g]? = some (.cells (putC l v k) 5 (0, 0))) :
    (wr.setCell ⟨g, len + k, none⟩ (.int .u8 (v / 2 ^ (8 * k) % 256))).heap[g]? = some (.cells (putC l v (k + 1)) 5 (0, 0)) := by
  have h1 := heap_setCell_same wr g (len + k) _ _ (.int .u8 (wbyte v k)) h
  rw [← hl, putC_set l v k hk] at h1
  rw [← hl]
  exact h1

set_option maxHeartbeats 800000 in
theorem put_any (ao : Option Addr) (len cap : Nat) (l : List Int) (v : Int) (w : World) (hh : Holds .u8 w ao len l) (hlen : len ≤ 140737488355328) (hv : isW v) :
    Calls Try.prog 13 #[.slice ao len cap, .int .u64 v] w fun e w' => ∃ g, e = .returned (.slice (some ⟨g, 0, none⟩) (len + 8) (len + 8)) ∧ w.heap.size ≤ g ∧ w'.heap[g]? = some (.cells (putC l v 8) 5 (0, 0)) ∧ Below w.heap.size w w' := by
  obtain ⟨i0, hi, hz0, hz1, hz2⟩ := info_parts Try.info5
  obtain ⟨hll, hc⟩ := hh
  have HC := Lib.hid hc
  have HL := Lib.hid hll
  clear hc hll
  obtain ⟨hv0, hv1⟩ := hv
  go_enter Try.func13, Try.ntmps13
  go_wp2_with (at_make; refine wpList_make_full _ rfl _ _ 32 rfl w.heap.size 5 i0 (.int .u8 0) 1 Try.underlying32 hi hz0 hz1 .i64 .i64 _ _ (len + 8) rfl rfl (by omega) (by omega) ?c1 ?c2 (Nat.le_refl _) ?_)
  case c1 => rw [hz2]; omega
  case c2 => unfold maxLen; omega
  intro w1 hown hgr
  have hblk := made_block hown
  have hbel : Below w.heap.size w w1 := (Below.refl _ _).grown hgr (Nat.le_refl _) (fun k h => by cases h)
  clear hown hgr
  have HBL := Lib.hid hblk
  have hsz := hbel.size
  clear hblk
  go_wp2_with (with_reducible refine wpList_copy_splice rfl (.tmp 11) (.tmp 12) 32 32 rfl 5 Try.underlying32 ?d0 _ _ _ _ _ _ rfl rfl w.heap.size 0 _ _ HBL.out (l.map (Value.int .u8)) ?d1 ?d2 ?d3 ?d4 w.heap.size w hbel (Nat.le_refl _) ?_)
  case d0 => kernel_rfl
  case d1 => simp [HL.out]
  case d2 =>
    intro h
    obtain ⟨b, off, rfl, hb, hcc⟩ := HC.out (by have := HL.out; omega)
    refine ⟨_, rfl, fun j a hj => ?_⟩
    have hjl : j < len := by
      have h1 := HL.out
      rcases Nat.lt_or_ge j l.length with h' | h'
      · omega
      · rw [List.getElem?_eq_none h'] at hj; cases hj
    have := hcc j hjl
    have ea : (⟨b, off, none⟩ : Addr).add j = ⟨b, off + j, none⟩ := by simp [Addr.add]
    rw [ea, hbel.cell (p := ⟨b, off + j, none⟩) hb, this]
    have hjl' : j < l.length := by rw [HL.out]; exact hjl
    simp [hjl'] at hj
    simp [hjl', hj]
  case d3 => simp [HL.out]
  case d4 => intro u hu; simp at hu; obtain ⟨x, _, rfl⟩ := hu; rfl
  intro w2 hg2 hb2
  have HG2 : Hid (w2.heap[w.heap.size]? = some (.cells (putC l v 0) 5 (0, 0))) := by
    have h := hg2.out
    have e := HL.out
    subst e
    rw [putC_start'] at h
    exact h
  clear hg2 HBL hbel
  go_wp2_with fail
  go_loopw [14] (fun n wr => ∃ k : Nat, k ≤ 8 ∧ n = .int .i64 k ∧ Hid (wr.heap[w.heap.size]? = some (.cells (putC l v k) 5 (0, 0))) ∧ Below w.heap.size w wr) (fun n _ => 8 - (intOf n).toNat)
  case atStart => exact ⟨0, Nat.zero_le _, rfl, HG2, hb2⟩
  case round =>
    obtain ⟨k, hk, rfl, HGk, hbk⟩ := hrel
    by_cases hlt : k < 8
    · have hcx : wr.cell? ⟨w.heap.size, len + k, none⟩ = some (.int .u8 0) := by rw [cell_of_row _ _ _ _ _ _ HGk.out, ← HL.out]; exact putC_at l v k hlt
      have hfx : wr.frozen? ⟨w.heap.size, len + k, none⟩ = false := frozen_of_row _ _ _ _ _ HGk.out
      go_wp2
      go_roundw
      case rel => exact ⟨k + 1, by omega, by go_num, put_step HL.out hlt HGk.out, hbk.setCell (Nat.le_refl _) _⟩
      case measure => simp [intOf]; omega
    · obtain rfl : k = 8 := by omega
      go_wp2
      go_ret
      exact ⟨_, rfl, Nat.le_refl _, HGk.out, hbk⟩
end Go.Proofs.Ytnjdlcdadaeomaa
