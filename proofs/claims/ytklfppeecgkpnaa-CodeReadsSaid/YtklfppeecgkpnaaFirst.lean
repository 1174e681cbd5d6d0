/-
  The statements' first: the chapter's example, read and written.
-/
import Derived.Test.YtklfppeecgkpnaaDecode
import Derived.Test.YtklfppeecgkpnaaEncode
namespace Go.Proofs.Ytklfppeecgkpnaa
set_option linter.unusedVariables false
open Go.ChangeShapes Go.WideShapes Go.ChangeAt Go.RowKit

/-- the chapter's example -/
def f0 : Fn := ⟨0, [], false, -1, [⟨24, 0, 0⟩]⟩
theorem dec_first : decA [87, 76, 1, 0, 0, 0, 255, 1, 0, 24] = ([f0], 0) := by decide +kernel
theorem enc_first : encA [f0] = ([87, 76, 1, 0, 0, 0, 255, 1, 0, 24], 0) := by decide +kernel
theorem byt_first : Byt [87, 76, 1, 0, 0, 0, 255, 1, 0, 24] := by intro x hx; simp at hx; omega
theorem reads_lit (w : World) (cs : List Value) (t : TypeId) (n : Nat) (hn : cs.length = n) : Reads (w.alloc (.cells cs.toArray t)) (w.heap.size + 1) 1 (some ⟨w.heap.size, 0, none⟩) n cs :=
  ⟨by omega, fun _ => ⟨_, rfl, by simp, fun j u hj => by
    have ea : (⟨w.heap.size, 0, none⟩ : Addr).add j = ⟨w.heap.size, j, none⟩ := by simp [Addr.add]; exact Eq.symm
    rw [ea, (Blk.new w t _).cell]
    simpa using hj⟩⟩

set_option maxRecDepth 100000 in
set_option maxHeartbeats 3200000 in
theorem first_any (w : World) : Calls Try.prog 9 #[] w fun e w' => e = .returned (.bool true) ∧ Below w.heap.size w w' := by
  have HR : Hid (Reads (w.alloc (.cells #[.int .u8 87, .int .u8 76, .int .u8 1, .int .u8 0, .int .u8 0, .int .u8 0, .int .u8 255, .int .u8 1, .int .u8 0, .int .u8 24] 5)) (w.heap.size + 1) 1 (some ⟨w.heap.size, 0, none⟩) 10 (u8c [87, 76, 1, 0, 0, 0, 255, 1, 0, 24])) := reads_lit w (u8c [87, 76, 1, 0, 0, 0, 255, 1, 0, 24]) _ 10 rfl
  have HB : Hid (Below w.heap.size w (w.alloc (.cells #[.int .u8 87, .int .u8 76, .int .u8 1, .int .u8 0, .int .u8 0, .int .u8 0, .int .u8 255, .int .u8 1, .int .u8 0, .int .u8 24] 5))) := (Below.refl _ _).alloc (Nat.le_refl _) _
  have HBY := Lib.hid byt_first
  go_enter Try.func9, Try.ntmps9
  go_wp2_with (go_at_call 10; refine (decode_any (w.heap.size + 1) _ 10 10 [87, 76, 1, 0, 0, 0, 255, 1, 0, 24] _ HR.out rfl HBY.out (by simp) (by omega) (by unfold maxLen; omega) (fun h => by cases h)).mono ?_; rintro e w2 ⟨rs, k, A, c, hfn, rfl, hrp, hb2⟩; refine Hid.out ?_)
  rw [dec_first] at hfn
  rw [dec_first]
  simp only at hfn
  match rs, hfn with
  | [], hfn => exact absurd hfn (by simp [fns])
  | _ :: _ :: _, hfn => exact absurd hfn (by simp [fns])
  | [⟨fn, lo, lc, co, cc⟩], hfn =>
    have hfn0 : fn = f0 := by simpa [fns] using hfn
    subst hfn0
    clear hfn
    have hlen := hrp.len
    obtain rfl : k = 1 := by simpa using hlen.symm
    have HB2 : Hid (Below w.heap.size w (w2.alloc (.cells #[.slice A 1 c] 26))) := (HB.out.trans (hb2.mono (by simp))).alloc (by have := hb2.size; simp at this; omega) _
    have HP2 : Hid (RdP (w2.alloc (.cells #[.slice A 1 c] 26)) w2.heap.size A 1 [⟨f0, lo, lc, co, cc⟩]) := hrp.alloc (Nat.le_refl _) _
    have HX2 := Lib.hid (Blk.new w2 26 #[.slice A 1 c])
    have hz2 : w.heap.size ≤ w2.heap.size := by have := hb2.size; simp at this; omega
    clear hb2 hrp hlen
    refine Lib.hid ?_
    go_wp2_with (go_at_call 13; refine (encode_any w2.heap.size A 1 c _ _ HP2.out (by simp)).mono ?_; rintro e w3 ⟨A3, k3, c3, rfl, hk3, ho3, hb3⟩; refine Hid.out ?_)
    have hk10 : k3 = 10 := by rw [← hk3]; show (encA [f0]).1.length = 10; rw [enc_first]; rfl
    have he3 : (encA (fns [⟨f0, lo, lc, co, cc⟩])).2 = 0 := by show (encA [f0]).2 = 0; rw [enc_first]
    rw [he3]
    subst hk10
    have HB3 : Hid (Below w.heap.size w w3) := HB2.out.trans (hb3.mono (by simp; omega))
    have hx3 : Blk w3 w2.heap.size 26 #[.slice A 1 c] := HX2.out.below hb3 HX2.out.lt
    have x0 : w3.cell? ⟨w2.heap.size, 0, none⟩ = some (.slice A 1 c) := hx3.cell 0
    obtain ⟨b, off, r, rfl, hb, HX, HF, HW, y0, y1, y2, y3, y4⟩ := (HP2.out.below (hb3.mono (by simp))).fn (k := 0) (by omega)
    have hr : r = ⟨f0, lo, lc, co, cc⟩ := by have := HX.out; simpa using this.symm
    subst hr
    obtain ⟨b2, off2, x, hco, hb2, HX2', z0, z1, z2⟩ := HF.out.code.ins (k := 0) (show 0 < f0.code.length by decide)
    have hx : x = ⟨24, 0, 0⟩ := by have := HX2'.out; simpa [f0] using this.symm
    subst hx
    simp only at hco
    subst hco
    simp only [Nat.zero_mul, Nat.add_zero] at y0 y1 y2 y3 y4 z0 z1 z2
    have y4' : w3.cell? ⟨b, off + 4, none⟩ = some (.slice (some ⟨b2, off2, none⟩) 1 cc) := y4
    have y3' : w3.cell? ⟨b, off + 3, none⟩ = some (.int .i64 (-1)) := y3
    clear y0 y1 y2 y3 y4 z1 z2 hk3 he3 ho3 hb3 hx3 HX HX2' HF HW hb hb2
    refine Lib.hid ?_
    go_wp2
    go_ret
    exact ⟨rfl, HB3.out⟩
end Go.Proofs.Ytklfppeecgkpnaa
