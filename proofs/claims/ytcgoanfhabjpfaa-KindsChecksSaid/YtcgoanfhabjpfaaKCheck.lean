/-
  Package kinds: isTooDeep, Check.
-/
import Derived.Test.YtcgoanfhabjpfaaKAllW
import Derived.Test.YtcgoanfhabjpfaaAllB
import Derived.Test.YtcgoanfhabjpfaaEncode
namespace Go.Proofs.Ytcgoanfhabjpfaa
set_option linter.unusedVariables false
open Go.ChangeShapes Go.WideShapes Go.ChangeAt Go.RowKit

theorem deepO_len (x : Option Stk) : deepO x = decide (16 < (x.getD []).length) := by cases x <;> simp [deepO]
theorem row_at {w : World} {base n c k : Nat} {A : Option Addr} {e : TypeId} {xs : List Value} {v : Value} (h : w.ownsRow base e 1 (.slice A n c) n xs) (hk : k < n) (hv : xs[k]? = some v) : ∃ b off, A = some ⟨b, off, none⟩ ∧ b < w.heap.size ∧ w.cell? ⟨b, off + k, none⟩ = some v := by
  obtain ⟨b, off, hA, hb, hc⟩ := (Reads.of_own h).lit (by omega) (by omega)
  exact ⟨b, off, hA, hb, hc k v hv⟩
set_option maxRecDepth 100000 in
set_option maxHeartbeats 3200000 in
theorem deep_any (w0 : World) (B tb n rc sc : Nat) (rs : List Raw) (ls : List (List (Option Stk))) (rvs svs : List Value) (RA SA : Option Addr) (w : World) (h : TI w0 B tb rs n ls rvs svs RA rc SA sc w) (hn : n ≤ 255) :
    Calls Try.prog 18 #[.pointer (some ⟨tb, 0, none⟩)] w fun e w' => e = .returned (.bool (ls.any fun l => l.any deepO)) ∧ w = w' := by
  have H := Lib.hid h
  have t1 : w.cell? ⟨tb, 1, none⟩ = some (.slice SA n sc) := h.tj.blk.cell 1
  clear h
  obtain ⟨b, HBV⟩ : ∃ b, Hid (b = ls.any fun l => l.any deepO) := ⟨_, Lib.hid rfl⟩
  rw [← HBV.out]
  go_enter Try.func18, Try.ntmps18
  go_wp2
  clear t1
  go_loop [12] (fun i => ∃ k : Nat, k ≤ n ∧ i = .int .i64 k ∧ Hid (((ls.take k).any fun l => l.any deepO) = false)) (fun i => n - (intOf i).toNat)
  case atStart => exact ⟨0, Nat.zero_le _, rfl, Lib.hid rfl⟩
  case round =>
    obtain ⟨k, hk, rfl, HT⟩ := hrel
    by_cases hlt : k < n
    · obtain ⟨l, hl⟩ : ∃ l, ls[k]? = some l := ⟨ls[k]'(by rw [H.out.len]; exact hlt), List.getElem?_eq_getElem _⟩
      obtain ⟨rv, sv, h1, h2, h3⟩ := H.out.each k l hl
      obtain ⟨ra, sa, m, vs, hrv, hsv, hlm, hm, hb1, hb2, hvl, _, _, hat⟩ := h3.at_
      obtain ⟨bb, off, hA, hbw, x0⟩ := row_at H.out.tj.ss hlt h2
      subst hrv hsv hA
      have HL := Lib.hid hl
      have HLM := Lib.hid hlm
      have HAT := Lib.hid hat
      have HB2 := Lib.hid hb2
      have HVL := Lib.hid hvl
      clear hl h1 h2 h3 hlm hat hb1 hb2 hvl
      go_wp2
      go_loop [18] (fun i => ∃ j : Nat, j ≤ m ∧ i = .int .i64 j ∧ Hid ((l.take j).any deepO = false)) (fun i => m - (intOf i).toNat)
      case atStart => exact ⟨0, Nat.zero_le _, rfl, Lib.hid rfl⟩
      case round =>
        obtain ⟨j, hj, rfl, HJ⟩ := hrel
        by_cases hlj : j < m
        · obtain ⟨x, hx⟩ : ∃ x, l[j]? = some x := ⟨l[j]'(by rw [HLM.out]; exact hlj), List.getElem?_eq_getElem _⟩
          obtain ⟨a, q, c, hv, hq, _⟩ := HAT.out j x hx
          have y0 : w.cell? ⟨sa, j, none⟩ = some (.slice a q c) := by
            rw [HB2.out.cell]; simpa using hv
          have hd : deepO x = decide (16 < q) := by rw [hq]; exact deepO_len x
          have HX := Lib.hid hx
          have HD := Lib.hid hd
          clear hx hv hq hd
          by_cases c1 : 16 < q
          · have HA : Hid (b = true) := Lib.hid (by
              rw [HBV.out]
              exact List.any_eq_true.2 ⟨l, List.mem_of_getElem? HL.out, List.any_eq_true.2 ⟨x, List.mem_of_getElem? HX.out, by rw [HD.out]; simpa using c1⟩⟩)
            have g1 : decide (16 < q) = true := by simpa using c1
            have g2 : decide ((q : Int) > 16) = true := by simp; omega
            go_wp2
            go_ret
            exact ⟨by rw [HA.out]; rfl, rfl⟩
          · have HJ1 : Hid ((l.take (j + 1)).any deepO = false) := Lib.hid (by
              rw [List.take_add_one, HX.out, List.any_append, HJ.out]
              simp [HD.out]; omega)
            have g1 : decide (16 < q) = false := by simpa using c1
            have g2 : decide ((q : Int) > 16) = false := by simp; omega
            go_wp2
            go_round
            case rel => exact ⟨j + 1, by omega, by go_num, HJ1⟩
            case measure => simp [intOf]; omega
        · obtain rfl : j = m := by omega
          have HT1 : Hid (((ls.take (k + 1)).any fun l => l.any deepO) = false) := Lib.hid (by
            have h := HJ.out
            rw [List.take_of_length_le (by rw [HLM.out]; omega)] at h
            rw [List.take_add_one, HL.out, List.any_append, HT.out]
            simpa using h)
          clear hlj hj
          go_wp2
          go_round
          case rel => exact ⟨k + 1, by omega, by go_num, HT1⟩
          case measure => simp [intOf]; omega
    · obtain rfl : n = k := by omega
      clear hlt hk
      have HA : Hid (b = false) := Lib.hid (by
        have h := HT.out
        rw [List.take_of_length_le (by rw [H.out.len]; omega)] at h
        rw [HBV.out]; exact h)
      go_wp2
      go_ret
      exact ⟨by rw [HA.out]; rfl, rfl⟩

/-- what Check answers -/
def CheckPost (w : World) (B n : Nat) (rs : List Raw) (e : Ending) (w' : World) : Prop := Below w.heap.size w w' ∧
  ((verd (fns rs) ≠ 0 ∧ e = .returned (.tuple #[.pointer none, .int .i64 (verd (fns rs))])) ∨
    (verd (fns rs) = 0 ∧ ∃ w0 tb ls rvs svs RA rc SA sc, e = .returned (.tuple #[.pointer (some ⟨tb, 0, none⟩), .int .i64 0]) ∧ TI w0 B tb rs n ls rvs svs RA rc SA sc w' ∧ Sols (fns rs) (fns rs) ls))
theorem bnd_code {rs : List Raw} (h : bnd (fns rs) = true) : ∀ r ∈ rs, r.fn.code.length ≤ 256 := fun r hr => by
  unfold bnd at h
  rw [Bool.and_eq_true, List.all_eq_true] at h
  have := h.2 r.fn (List.mem_map.2 ⟨r, hr, rfl⟩)
  unfold bndF at this
  simp at this
  exact this.2
theorem ref_ins {rs : List Raw} (h : refB (fns rs) = true) : ∀ r ∈ rs, ∀ i ∈ r.fn.code, insRef (fns rs) r.fn i = true := fun r hr i hi => by
  unfold refB at h
  rw [Bool.and_eq_true, List.all_eq_true] at h
  have := h.2 r.fn (List.mem_map.2 ⟨r, hr, rfl⟩)
  unfold fnRef at this
  rw [Bool.and_eq_true, List.all_eq_true] at this
  exact this.2 i hi
theorem TI.allSols {w w' : World} {B tb n rc sc : Nat} {rs : List Raw} {ls : List (List (Option Stk))} {rvs svs : List Value} {RA SA : Option Addr} (h : TI w B tb rs n ls rvs svs RA rc SA sc w') (hl : rs.length = n) : Sols (fns rs) (fns rs) ls :=
  ⟨by rw [length_fns, h.len, hl], fun k f hf => h.sols k f (by have := (List.getElem?_eq_some_iff.1 hf).1; rw [length_fns, hl] at this; exact this) hf⟩
end Go.Proofs.Ytcgoanfhabjpfaa
