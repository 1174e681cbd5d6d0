/-
  The tape of the statements' own reader.
-/
import Derived.Test.YtklfppeecgkpnaaMem
namespace Go.Proofs.Ytklfppeecgkpnaa
set_option linter.unusedVariables false
open Go.ChangeShapes Go.WideShapes Go.ChangeAt Go.RowKit

/-- a tape in block g: the bytes L below block B, and how far they are read -/
def Tp (w : World) (B g : Nat) (L : List Int) (s : St) : Prop :=
  ∃ A n c at_, Blk w g 58 #[.slice A n c, .int .i64 at_] ∧ B ≤ g ∧ Reads w B 1 A n (u8c L) ∧ L.length = n ∧ n ≤ 140737488351232 ∧ Byt L ∧
    match s with
    | some l => ∃ k : Nat, at_ = k ∧ k ≤ n ∧ l = L.drop k
    | none => at_ = -1
theorem Tp.lt {w : World} {B g : Nat} {L : List Int} {s : St} (h : Tp w B g L s) : g < w.heap.size := by
  obtain ⟨A, n, c, at_, h1, _⟩ := h
  exact h1.lt
theorem Tp.le {w : World} {B g : Nat} {L : List Int} {s : St} (h : Tp w B g L s) : B ≤ g := by
  obtain ⟨A, n, c, at_, _, h2, _⟩ := h
  exact h2
theorem Tp.far {w w' : World} {B g : Nat} {L : List Int} {s : St} (h : Tp w B g L s) (hb : Below (g + 1) w w') : Tp w' B g L s := by
  obtain ⟨A, n, c, at_, h1, h2, h3, h4⟩ := h
  exact ⟨A, n, c, at_, (hb.block g (by omega)).trans h1, h2, h3.below (hb.mono (by omega)), h4⟩
/-- where it stands -/
theorem Tp.good {w : World} {B g : Nat} {L l : List Int} (h : Tp w B g L (some l)) : ∃ k : Nat, w.cell? ⟨g, 1, none⟩ = some (.int .i64 k) ∧ k ≤ 140737488351232 ∧ k ≤ L.length ∧ l = L.drop k := by
  obtain ⟨A, n, c, at_, h1, h2, h3, h4, h5, h6, k, rfl, hk, hl⟩ := h
  exact ⟨k, h1.cell 1, by omega, by omega, hl⟩
theorem Tp.bad {w : World} {B g : Nat} {L : List Int} (h : Tp w B g L none) : w.cell? ⟨g, 1, none⟩ = some (.int .i64 (-1)) := by
  obtain ⟨A, n, c, at_, h1, h2, h3, h4, h5, h6, rfl⟩ := h
  exact h1.cell 1
theorem Tp.byt {w : World} {B g : Nat} {L : List Int} {s : St} (h : Tp w B g L s) : Byt L := by
  obtain ⟨A, n, c, at_, h1, h2, h3, h4, h5, h6, _⟩ := h
  exact h6

def Tp2 (B g : Nat) (L : List Int) (w : World) (v : Int) (s : St) (e : Ending) (w' : World) : Prop := e = .returned (.int .u64 v) ∧ Tp w' B g L s ∧ w.grownBy w' (some g)

set_option maxHeartbeats 1600000 in
theorem next_none (B g size : Nat) (L : List Int) (w : World) (h : Tp w B g L none) (hs : size ≤ 8) :
    Calls Try.prog 22 #[.pointer (some ⟨g, 0, none⟩), .int .i64 size] w (Tp2 B g L w 0 none) := by
  obtain ⟨A, n, c, at_, h1, h2, h3, h4, h5, h6, rfl⟩ := h
  have c0 : w.cell? ⟨g, 0, none⟩ = some (.slice A n c) := h1.cell 0
  have c1 : w.cell? ⟨g, 1, none⟩ = some (.int .i64 (-1)) := h1.cell 1
  have f1 : w.frozen? ⟨g, 1, none⟩ = false := h1.frozen 1
  have H1 := Lib.hid h1
  have H3 := Lib.hid h3
  have H4 := Lib.hid h4
  have H6 := Lib.hid h6
  clear h1 h3 h4 h6
  go_enter Try.func22, Try.ntmps22
  go_wp2
  go_quiet (fail)
  go_wp2
  go_ret
  exact ⟨rfl, ⟨A, n, c, _, H1.out.set_ 1 _, h2, H3.out.setCell (p := ⟨g, 1, none⟩) h2 _, H4.out, h5, H6.out, rfl⟩, only_setCell (p := ⟨g, 1, none⟩) (only_drewN (World.grownBy.refl w _) _) (.inl rfl) _⟩

set_option maxHeartbeats 1600000 in
theorem next_short (B g size : Nat) (L l : List Int) (w : World) (h : Tp w B g L (some l)) (hs : size ≤ 8) (hsh : l.length < size) :
    Calls Try.prog 22 #[.pointer (some ⟨g, 0, none⟩), .int .i64 size] w (Tp2 B g L w 0 none) := by
  obtain ⟨A, n, c, at_, h1, h2, h3, h4, h5, h6, k, rfl, hk, hl⟩ := h
  have hg0 : n < k + size := by rw [hl, List.length_drop] at hsh; omega
  obtain ⟨m, HM⟩ : ∃ m : Nat, Hid (m = k + size) := ⟨_, rfl⟩
  have hwr : IntKind.i64.wrap ((k : Int) + (size : Int)) = (m : Int) := by rw [HM.out, IntKind.wrap_i64]; omega
  have hk0 : (0 : Int) ≤ (k : Int) := by omega
  have hg : (n : Int) < (m : Int) := by rw [HM.out]; omega
  have c0 : w.cell? ⟨g, 0, none⟩ = some (.slice A n c) := h1.cell 0
  have c1 : w.cell? ⟨g, 1, none⟩ = some (.int .i64 k) := h1.cell 1
  have f1 : w.frozen? ⟨g, 1, none⟩ = false := h1.frozen 1
  have H1 := Lib.hid h1
  have H3 := Lib.hid h3
  have H4 := Lib.hid h4
  have H6 := Lib.hid h6
  clear h1 h3 h4 h6 hl hsh
  go_enter Try.func22, Try.ntmps22
  go_wp2
  go_quiet (fail)
  go_wp2
  go_ret
  exact ⟨rfl, ⟨A, n, c, _, H1.out.set_ 1 _, h2, H3.out.setCell (p := ⟨g, 1, none⟩) h2 _, H4.out, h5, H6.out, rfl⟩, only_setCell (p := ⟨g, 1, none⟩) (only_drewN (World.grownBy.refl w _) _) (.inl rfl) _⟩

/-- one byte more, from the end -/
theorem leV_down {T : List Int} {j : Nat} {x z : Int} {k : Nat} (hb : Byt T) (hx : T[j]? = some x) (hz : z = leV (T.drop (j + 1))) (hl : T.length = j + 1 + k) (hk : k < 8) :
    z * 256 + x = leV (T.drop j) ∧ 0 ≤ z ∧ z ≤ 72057594037927935 ∧ 0 ≤ x ∧ x ≤ 255 := by
  have h1 := hb x (List.mem_of_getElem? hx)
  have h2 := leV_bd (hb.drop (j + 1))
  have h3 : (T.drop (j + 1)).length = k := by rw [List.length_drop]; omega
  rw [h3, ← hz] at h2
  have hle : (256 : Int) ^ k ≤ 72057594037927936 := by
    have h := Nat.pow_le_pow_right (n := 256) (by omega) (show k ≤ 7 by omega)
    have e : (256 : Int) ^ k = ((256 ^ k : Nat) : Int) := by simp
    rw [e]
    omega
  refine ⟨?_, h2.1, by omega, h1.1, h1.2⟩
  have hj : j < T.length := (List.getElem?_eq_some_iff.1 hx).1
  rw [List.drop_eq_getElem_cons hj]
  have : T[j] = x := (List.getElem?_eq_some_iff.1 hx).2
  rw [this]
  simp only [leV]
  rw [← hz]
  omega

set_option maxHeartbeats 3200000 in
theorem next_good (B g size : Nat) (L l : List Int) (w : World) (h : Tp w B g L (some l)) (hs : size ≤ 8) (hsh : size ≤ l.length) :
    Calls Try.prog 22 #[.pointer (some ⟨g, 0, none⟩), .int .i64 size] w (Tp2 B g L w (leV (l.take size)) (some (l.drop size))) := by
  obtain ⟨A, n, c, at_, h1, h2, h3, h4, h5, h6, k, rfl, hk, hl⟩ := h
  have hg0 : k + size ≤ n := by rw [hl, List.length_drop] at hsh; omega
  obtain ⟨m, HM⟩ : ∃ m : Nat, Hid (m = k + size) := ⟨_, rfl⟩
  have hwr : IntKind.i64.wrap ((k : Int) + (size : Int)) = (m : Int) := by rw [HM.out, IntKind.wrap_i64]; omega
  have hk0 : (0 : Int) ≤ (k : Int) := by omega
  have hg : (m : Int) ≤ (n : Int) := by rw [HM.out]; omega
  have c0 : w.cell? ⟨g, 0, none⟩ = some (.slice A n c) := h1.cell 0
  have c1 : w.cell? ⟨g, 1, none⟩ = some (.int .i64 k) := h1.cell 1
  have f1 : w.frozen? ⟨g, 1, none⟩ = false := h1.frozen 1
  have hTl : (l.take size).length = size := by simp; omega
  have hTb : Byt (l.take size) := by rw [hl]; exact (h6.drop k).take size
  have hTx : ∀ j x, j < size → L[k + j]? = some x → (l.take size)[j]? = some x := by
    intro j x hj hx
    rw [List.getElem?_take, if_pos hj, hl, List.getElem?_drop, hx]
  have hld : l.drop size = L.drop (k + size) := by rw [hl, List.drop_drop]
  obtain ⟨T, HT⟩ : ∃ T, Hid (T = l.take size) := ⟨_, rfl⟩
  rw [← HT.out] at hTl hTb hTx ⊢
  rw [hld]
  have H1 := Lib.hid h1
  have H3 := Lib.hid h3
  have H4 := Lib.hid h4
  have H6 := Lib.hid h6
  have HTl := Lib.hid hTl
  have HTb := Lib.hid hTb
  have HTx := Lib.hid hTx
  clear h1 h3 h4 h6 hl hsh hTl hTb hTx hld HT
  go_enter Try.func22, Try.ntmps22
  go_wp2
  go_quiet (fail)
  go_wp2
  go_loopw [5, 6] (fun v i wr => ∃ (j q : Nat) (z : Int), j ≤ size ∧ i = .int .i64 ((j : Int) - 1) ∧ v = .int .u64 z ∧ Hid (z = leV (T.drop j)) ∧ wr = w.drewN q) (fun _ i _ => (intOf i + 1).toNat)
  case atStart => exact ⟨size, nq, 0, Nat.le_refl _, by go_num, rfl, by show (0 : Int) = _; rw [List.drop_of_length_le (by rw [HTl.out]; omega)]; rfl, rfl⟩
  case round =>
    obtain ⟨j, q, z, hj, rfl, rfl, HZ, rfl⟩ := hrel
    by_cases hlt : 0 < j
    · obtain ⟨i, rfl⟩ : ∃ i, j = i + 1 := ⟨j - 1, by omega⟩
      obtain ⟨b, off, x, rfl, hbB, HX, cx⟩ := H3.out.byte (k := k + i) (by omega)
      obtain ⟨e1, e2, e3, e4, e5⟩ := leV_down HTb.out (HTx.out i x (by omega) HX.out) HZ.out (k := size - (i + 1)) (by rw [HTl.out]; omega) (by omega)
      have E1 := Lib.hid e1
      clear e1
      have hi : ((i + 1 : Nat) : Int) - 1 = (i : Int) := by omega
      rw [hi]
      go_wp2
      go_quiet (fail)
      go_wp2
      go_roundw
      case rel => exact ⟨i, q + nq, leV (T.drop i), by omega, by go_num, by rw [← E1.out], rfl, rfl⟩
      case measure => simp [intOf]
    · obtain rfl : j = 0 := by omega
      have HZ' : Hid (z = leV T) := Lib.hid (by have := HZ.out; simpa using this)
      go_wp2
      go_ret
      exact ⟨by rw [HZ'.out]; rfl, ⟨A, n, c, _, H1.out.set_ 1 _, h2, H3.out.setCell (p := ⟨g, 1, none⟩) h2 _, H4.out, h5, H6.out, m, rfl, by omega, by rw [HM.out]⟩, only_setCell (p := ⟨g, 1, none⟩) (only_drewN (World.grownBy.refl w _) _) (.inl rfl) _⟩

theorem next_any (B g size : Nat) (L : List Int) (s : St) (w : World) (h : Tp w B g L s) (hs : size ≤ 8) :
    Calls Try.prog 22 #[.pointer (some ⟨g, 0, none⟩), .int .i64 size] w (Tp2 B g L w (num size s).1 (num size s).2) := by
  cases s with
  | none => exact next_none B g size L w h hs
  | some l =>
    by_cases hl : size ≤ l.length
    · have e : num size (some l) = (leV (l.take size), some (l.drop size)) := by simp [num, hl]
      rw [e]
      exact next_good B g size L l w h hs hl
    · have e : num size (some l) = (0, none) := by simp [num, hl]
      rw [e]
      exact next_short B g size L l w h hs (by omega)
end Go.Proofs.Ytklfppeecgkpnaa
