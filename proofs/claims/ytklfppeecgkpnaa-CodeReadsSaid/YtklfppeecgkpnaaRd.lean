/-
  The reader of package code: need, number, and what stands on them alone.
-/
import Derived.Test.YtklfppeecgkpnaaMem
namespace Go.Proofs.Ytklfppeecgkpnaa
set_option linter.unusedVariables false
open Go.ChangeShapes Go.WideShapes Go.ChangeAt Go.RowKit

/-- A reader in block g: what is left to read lies below block B. -/
def Rdr (w : World) (B g : Nat) (s : St) : Prop :=
  ∃ A n c, Blk w g 53 #[.slice A n c, .bool s.isNone] ∧ B ≤ g ∧ n ≤ c ∧ c ≤ maxLen ∧
    match s with
    | some l => Reads w B 1 A n (u8c l) ∧ l.length = n ∧ Byt l ∧ (A = none → c = 0)
    | none => A = none ∧ n = 0 ∧ c = 0
theorem Rdr.far {w w' : World} {B g : Nat} {s : St} (h : Rdr w B g s) (hb : Below (g + 1) w w') : Rdr w' B g s := by
  obtain ⟨A, n, c, h1, h2, h3, h4, h5⟩ := h
  refine ⟨A, n, c, (hb.block g (by omega)).trans h1, h2, h3, h4, ?_⟩
  cases s with
  | none => exact h5
  | some l => exact ⟨h5.1.below (hb.mono (by omega)), h5.2⟩
theorem Rdr.lt {w : World} {B g : Nat} {s : St} (h : Rdr w B g s) : g < w.heap.size := by
  obtain ⟨A, n, c, h1, _⟩ := h
  exact h1.lt
theorem Rdr.le {w : World} {B g : Nat} {s : St} (h : Rdr w B g s) : B ≤ g := by
  obtain ⟨A, n, c, _, h2, _⟩ := h
  exact h2
theorem Rdr.beyond {w w' : World} {B g : Nat} {s : St} (h : Rdr w B g s) (hb : Below w.heap.size w w') : Rdr w' B g s := h.far (hb.mono (by have := h.lt; omega))

def Rd2 (B g : Nat) (w : World) (v : Value) (s : St) (e : Ending) (w' : World) : Prop := e = .returned v ∧ Rdr w' B g s ∧ w.grownBy w' (some g)

set_option maxHeartbeats 800000 in
theorem need_any (B g : Nat) (s : St) (b : Bool) (w : World) (h : Rdr w B g s) :
    Calls Try.prog 21 #[.pointer (some ⟨g, 0, none⟩), .bool b] w (Rd2 B g w (.tuple #[]) (need b s)) := by
  cases b with
  | true =>
    have H := Lib.hid h
    clear h
    go_enter Try.func21, Try.ntmps21
    go_wp2
    go_end0
    exact ⟨rfl, H.out, World.grownBy.refl w _⟩
  | false =>
    obtain ⟨A, n, c, hb, hBg, hnc, hcm, hl⟩ := h
    have c0 := hb.cell 0
    have c1 := hb.cell 1
    have f0 := hb.frozen 0
    have f1 := hb.frozen 1
    have HB := Lib.hid hb
    clear hb hl
    go_enter Try.func21, Try.ntmps21
    go_wp2
    go_end0
    refine ⟨rfl, ⟨none, 0, 0, (HB.out.set_ 0 _).set_ 1 _, hBg, Nat.le_refl _, by unfold maxLen; omega, rfl, rfl, rfl⟩, only_setCell (p := ⟨g, 1, none⟩) (only_setCell (p := ⟨g, 0, none⟩) (World.grownBy.refl w _) (.inl rfl) _) (.inl rfl) _⟩

theorem Rdr.bad {w : World} {B g : Nat} (h : Rdr w B g none) : w.cell? ⟨g, 1, none⟩ = some (.bool true) := by
  obtain ⟨A, n, c, h1, _⟩ := h
  exact h1.cell 1
theorem Rdr.good {w : World} {B g : Nat} {l : List Int} (h : Rdr w B g (some l)) : w.cell? ⟨g, 1, none⟩ = some (.bool false) := by
  obtain ⟨A, n, c, h1, _⟩ := h
  exact h1.cell 1
theorem Rdr.left {w : World} {B g : Nat} {s : St} (h : Rdr w B g s) : ∃ A n c, w.cell? ⟨g, 0, none⟩ = some (.slice A n c) ∧ n ≤ 9223372036854775807 ∧ n = (s.getD []).length := by
  obtain ⟨A, n, c, h1, _, h3, h4, h5⟩ := h
  unfold maxLen at h4
  refine ⟨A, n, c, h1.cell 0, by omega, ?_⟩
  cases s with
  | none => exact h5.2.1
  | some l => exact h5.2.1.symm

/-- what is missing is missed -/
theorem num_short {size : Nat} {s : St} (h : s = none ∨ (s.getD []).length < size) : num size s = (0, none) := by
  cases s with
  | none => rfl
  | some l => simp at h; simp [num, h]
theorem need_short {size : Nat} {s : St} (h : s = none ∨ (s.getD []).length < size) : need (decide (size ≤ (s.getD []).length)) s = none := by
  rcases h with rfl | h
  · exact need_none _
  · rw [decide_eq_false (by omega)]; rfl

set_option maxHeartbeats 800000 in
theorem number_short (B g size : Nat) (s : St) (w : World) (h : Rdr w B g s) (hs : size ≤ 8) (hsh : s = none ∨ (s.getD []).length < size) :
    Calls Try.prog 35 #[.pointer (some ⟨g, 0, none⟩), .int .i64 size] w (Rd2 B g w (.int .u64 (num size s).1) (num size s).2) := by
  have H := Lib.hid h
  have HN := Lib.hid (num_short hsh)
  have HD := Lib.hid (need_short hsh)
  obtain ⟨A, n, c, c0, hn, hnl⟩ := h.left
  have HL := Lib.hid hnl
  clear h hsh hnl
  rw [HN.out]
  go_enter Try.func35, Try.ntmps35
  go_wp2_with (go_at_call 21; refine (need_any B g s _ _ H.out).mono ?_; rintro e w1 ⟨rfl, h1, hg1⟩; rw [HL.out, HD.out] at h1; have c1 := h1.bad; refine Hid.out ?_)
  have H1 := Lib.hid h1
  have HG := Lib.hid hg1
  clear h1 hg1
  refine Lib.hid ?_
  go_wp2
  go_ret
  exact ⟨rfl, H1.out, HG.out⟩

theorem or_step {z x : Int} {k : Nat} (hz0 : 0 ≤ z) (hz1 : z < 256 ^ k) (hx0 : 0 ≤ x) (hx1 : x ≤ 255) (hk : k < 8) : bits BinOp.or IntKind.u64 z (IntKind.u64.wrap (x * 2 ^ (8 * k))) = z + x * 256 ^ k := by
  obtain ⟨Z, rfl⟩ := Int.eq_ofNat_of_zero_le hz0
  obtain ⟨X, rfl⟩ := Int.eq_ofNat_of_zero_le hx0
  have hp : (256 : Nat) ^ k = 2 ^ (8 * k) := by rw [Nat.pow_mul]
  have hpi : (256 : Int) ^ k = ((2 ^ (8 * k) : Nat) : Int) := by rw [← hp]; simp
  have h2 : (2 : Int) ^ (8 * k) = ((2 ^ (8 * k) : Nat) : Int) := by simp
  have hle : 2 ^ (8 * k) * 256 ≤ 2 ^ 64 := by
    have := Nat.pow_le_pow_right (n := 2) (by omega) (show 8 * k + 8 ≤ 64 by omega)
    rw [Nat.pow_add] at this
    exact this
  rw [hpi] at hz1 ⊢
  rw [h2]
  generalize hq : 2 ^ (8 * k) = q at *
  have hZ : Z < q := by omega
  have hX : X ≤ 255 := by omega
  have hm : X * q ≤ 255 * q := Nat.mul_le_mul_right q hX
  have e : (X : Int) * (q : Int) = ((X * q : Nat) : Int) := by rw [Int.natCast_mul]
  rw [e, IntKind.wrap_u64, show ((X * q : Nat) : Int) % 18446744073709551616 = ((X * q : Nat) : Int) by omega, u64_or_nat _ _ (by omega) (by omega)]
  rw [Nat.or_comm, Nat.mul_comm, ← hq, ← Nat.two_pow_add_eq_or_of_lt (by omega), hq, Nat.mul_comm]
  omega
theorem num_step {l : List Int} {k : Nat} {x z : Int} (hb : Byt l) (hx : l[k]? = some x) (hk : k < 8) (hz : z = leV (l.take k)) :
    bits BinOp.or IntKind.u64 z (IntKind.u64.wrap (x * 2 ^ (8 * k))) = leV (l.take (k + 1)) ∧ 0 ≤ leV (l.take (k + 1)) ∧ leV (l.take (k + 1)) ≤ 18446744073709551615 := by
  have hkl := (List.getElem?_eq_some_iff.1 hx).1
  have hl : (l.take k).length = k := by simp; omega
  have hl1 : (l.take (k + 1)).length = k + 1 := by simp; omega
  have h1 := leV_bd (hb.take k)
  rw [hl] at h1
  have h2 := leV_bd (hb.take (k + 1))
  rw [hl1] at h2
  have h3 := hb x (List.mem_of_getElem? hx)
  have hle : (256 : Int) ^ (k + 1) ≤ 18446744073709551616 := by
    have h := Nat.pow_le_pow_right (n := 256) (by omega) (show k + 1 ≤ 8 by omega)
    have e : (256 : Int) ^ (k + 1) = ((256 ^ (k + 1) : Nat) : Int) := by simp
    rw [e]
    omega
  refine ⟨?_, h2.1, by omega⟩
  rw [hz, or_step h1.1 h1.2 h3.1 h3.2 hk, List.take_add_one, hx]
  show _ = leV (l.take k ++ [x])
  rw [leV_snoc, hl]

set_option maxHeartbeats 1600000 in
theorem number_good (B g size : Nat) (l : List Int) (w : World) (h : Rdr w B g (some l)) (hs : size ≤ 8) (hsz : size ≤ l.length) :
    Calls Try.prog 35 #[.pointer (some ⟨g, 0, none⟩), .int .i64 size] w (Rd2 B g w (.int .u64 (num size (some l)).1) (num size (some l)).2) := by
  rw [show num size (some l) = (leV (l.take size), some (l.drop size)) by simp [num, hsz]]
  obtain ⟨A, n, c, hb, hBg, hnc, hcm, hr, hl, hby, hnil⟩ := h
  have c0 : w.cell? ⟨g, 0, none⟩ = some (.slice A n c) := hb.cell 0
  have H : Hid (Rdr w B g (some l)) := ⟨A, n, c, hb, hBg, hnc, hcm, hr, hl, hby, hnil⟩
  unfold maxLen at hcm
  have HL := Lib.hid hl
  have HY := Lib.hid hby
  have hsn : size ≤ n := by omega
  clear hb hr hl hby hnil
  go_enter Try.func35, Try.ntmps35
  go_wp2_with (go_at_call 21; refine (need_any B g (some l) true _ H.out).mono ?_; rintro e w1 ⟨rfl, h1, hg1⟩; refine Hid.out ?_)
  have h1' : Rdr w1 B g (some l) := h1
  obtain ⟨A, n, c, hb, hBg, hnc, hcm, hr, hl, hby, hnil⟩ := h1'
  have c0 : w1.cell? ⟨g, 0, none⟩ = some (.slice A n c) := hb.cell 0
  have c1 : w1.cell? ⟨g, 1, none⟩ = some (.bool false) := hb.cell 1
  have f0 : w1.frozen? ⟨g, 0, none⟩ = false := hb.frozen 0
  unfold maxLen at hcm
  have HL := Lib.hid hl
  have HY := Lib.hid hby
  have hsn : size ≤ n := by omega
  have HR := Lib.hid hr
  have HB := Lib.hid hb
  have HG := Lib.hid hg1
  clear h1 hg1 hb hr hl hby
  refine Lib.hid ?_
  go_wp2
  go_loop [5, 21] (fun v i => ∃ (k : Nat) (z : Int), k ≤ size ∧ i = .int .i64 k ∧ v = .int .u64 z ∧ 0 ≤ z ∧ z ≤ 18446744073709551615 ∧ Hid (z = leV (l.take k))) (fun _ i => size - (intOf i).toNat)
  case atStart => exact ⟨0, 0, Nat.zero_le _, rfl, rfl, by omega, by omega, rfl⟩
  case round =>
    obtain ⟨k, z, hk, rfl, rfl, hz0, hz1, HZ⟩ := hrel
    by_cases hlt : k < size
    · obtain ⟨b, off, x, rfl, hbB, HX, cx⟩ := HR.out.byte (k := k) (by omega)
      have hx := HY.out x (List.mem_of_getElem? HX.out)
      obtain ⟨hx0, hx1⟩ := hx
      go_wp2
      go_round
      case rel =>
        have hst := num_step HY.out HX.out (by omega) HZ.out
        exact ⟨k + 1, leV (l.take (k + 1)), by omega, by go_num, by rw [hst.1], hst.2.1, hst.2.2, rfl⟩
      case measure => simp [intOf]; omega
    · obtain rfl : size = k := by omega
      clear hlt hk
      have HC := Lib.hid (Reads.cut HR.out (k := size) (cap := c) hsn hnc)
      have HK := Lib.hid hnil
      clear hnil
      have HF : ∀ u : Value, Hid (w.grownBy (w1.setCell ⟨g, 0, none⟩ u) (some g)) := fun u => only_setCell (p := ⟨g, 0, none⟩) HG.out (.inl rfl) u
      by_cases hcs : c = size
      · subst hcs
        obtain rfl : n = c := by omega
        go_wp2
        go_ret
        refine ⟨by rw [HZ.out]; rfl, ⟨_, _, _, HB.out.set_ 0 _, hBg, Nat.le_refl _, by unfold maxLen; omega, ?_, by have := HL.out; simp; omega, HY.out.drop _, fun _ => rfl⟩, (HF _).out⟩
        have := HC.out.setCell (p := ⟨g, 0, none⟩) hBg (.slice A 0 0)
        simpa [u8c] using this
      · cases A with
        | none => exact absurd (HK.out rfl) (by omega)
        | some ad =>
          go_wp2
          go_ret
          refine ⟨by rw [HZ.out]; rfl, ⟨_, _, _, HB.out.set_ 0 _, hBg, by omega, by unfold maxLen; omega, ?_, by have := HL.out; simp; omega, HY.out.drop _, fun h => by cases h⟩, (HF _).out⟩
          have := HC.out.setCell (p := ⟨g, 0, none⟩) hBg (.slice (some (ad.add size)) (n - size) (c - size))
          simpa [u8c, hcs] using this

theorem number_any (B g size : Nat) (s : St) (w : World) (h : Rdr w B g s) (hs : size ≤ 8) :
    Calls Try.prog 35 #[.pointer (some ⟨g, 0, none⟩), .int .i64 size] w (Rd2 B g w (.int .u64 (num size s).1) (num size s).2) := by
  cases s with
  | none => exact number_short B g size none w h hs (.inl rfl)
  | some l =>
    by_cases hl : size ≤ l.length
    · exact number_good B g size l w h hs hl
    · exact number_short B g size (some l) w h hs (.inr (by simp; omega))
end Go.Proofs.Ytklfppeecgkpnaa
