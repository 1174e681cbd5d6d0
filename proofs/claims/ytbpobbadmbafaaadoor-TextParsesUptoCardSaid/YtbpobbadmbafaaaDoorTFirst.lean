/-
  The statements' first: the chapter's example is read.
-/
import Derived.Test.YtbpobbadmbafaaaDoorTParse
import Derived.Test.YtbpobbadmbafaaaDoorTParse
namespace Go.Proofs.YtbpobbadmbafaaaDoor
set_option linter.unusedVariables false
open Go.ChangeShapes Go.WideShapes Go.ChangeAt Go.RowKit

def f0 : Fn := ⟨1, [0, 1], true, 0, [⟨2, 0, 0⟩, ⟨1, 0, 7⟩]⟩
def t0 : List UInt8 := [35, 32, 120, 10, 102, 117, 110, 99, 32, 49, 32, 110, 112, 32, 49, 32, 48, 10, 32, 32, 103, 101, 116, 32, 32, 48, 10, 99, 111, 110, 115, 116, 32, 55, 10]
theorem dec0 : Lib.decDigits 0 = [48] := by rw [Lib.decDigits]; rfl
theorem dec1 : Lib.decDigits 1 = [49] := by rw [Lib.decDigits]; rfl
theorem dec7 : Lib.decDigits 7 = [55] := by rw [Lib.decDigits]; rfl
theorem head0 : headW f0 = [102, 117, 110, 99, 32, 49, 32, 110, 112, 32, 49, 32, 48] := by
  have e : headW f0 = funcW ++ 32 :: (Lib.decDigits 1 ++ 32 :: (localsW [0, 1] ++ 32 :: (flagW true ++ 32 :: Lib.decDigits 0))) := rfl
  rw [e, dec1, dec0]; rfl
theorem ins7 : insW ⟨1, 0, 7⟩ = [99, 111, 110, 115, 116, 32, 55] := by
  have e : insW ⟨1, 0, 7⟩ = nmOf 1 ++ 32 :: Lib.decDigits 7 := rfl
  rw [e, dec7]; rfl
theorem ins0 : insW ⟨2, 0, 0⟩ = [103, 101, 116, 32, 48] := by
  have e : insW ⟨2, 0, 0⟩ = nmOf 2 ++ 32 :: Lib.decDigits 0 := rfl
  rw [e, dec0]; rfl
theorem parse0 : parseT t0 = .inl [f0] := by
  have e : splitB 10 t0 = [[35, 32, 120], [102, 117, 110, 99, 32, 49, 32, 110, 112, 32, 49, 32, 48], [32, 32, 103, 101, 116, 32, 32, 48], [99, 111, 110, 115, 116, 32, 55], []] := by decide +kernel
  have w1 : wordsL [35, 32, 120] = [[35], [120]] := by decide +kernel
  have w2 : wordsL [32, 32, 103, 101, 116, 32, 32, 48] = wordsL [103, 101, 116, 32, 48] := by decide +kernel
  have h1 := head_back [] f0 (by decide)
  have h2 := ins_back [] { f0 with code := [] } ⟨2, 0, 0⟩ (by decide)
  have h3 := ins_back [] { f0 with code := [⟨2, 0, 0⟩] } ⟨1, 0, 7⟩ (by decide)
  rw [head0] at h1
  rw [ins0, ← w2] at h2
  rw [ins7] at h3
  have h1' : addL [] (wordsL [102, 117, 110, 99, 32, 49, 32, 110, 112, 32, 49, 32, 48]) = some [{ f0 with code := [] }] := h1
  have h2' : addL [{ f0 with code := [] }] (wordsL [32, 32, 103, 101, 116, 32, 32, 48]) = some [{ f0 with code := [⟨2, 0, 0⟩] }] := h2
  have h3' : addL [{ f0 with code := [⟨2, 0, 0⟩] }] (wordsL [99, 111, 110, 115, 116, 32, 55]) = some [f0] := h3
  unfold parseT
  have h0' : addL [] (wordsL [35, 32, 120]) = some [] := by rw [w1]; rfl
  have h4' : addL [f0] (wordsL []) = some [f0] := rfl
  rw [e, parseLs, h0']
  show parseLs 1 [] _ = _
  rw [parseLs, h1']
  show parseLs 2 _ _ = _
  rw [parseLs, h2']
  show parseLs 3 _ _ = _
  rw [parseLs, h3']
  show parseLs 4 _ _ = _
  rw [parseLs, h4']
  rfl
/-- Parse where the text is a program .. -/
theorem parse_yes (t : List UInt8) (fs : List Fn) (h : parseT t = .inl fs) (ht : t.length ≤ 4294967296) (w : World) (hE : Env w.heap.size w) : Calls Tryd.prog 5 #[.string (str t)] w fun e w' =>
    ∃ (A : Option Addr) (n c : Nat) (rs : List Raw), fns rs = fs ∧ e = .returned (.tuple #[.agg #[.slice A n c], .int .i64 0, .int .i64 0]) ∧ RdP w' w'.heap.size A n rs ∧ n ≤ c ∧ Below w.heap.size w w' := by
  refine (parse_any t ht w hE).mono ?_
  rintro e w' ⟨hb, ⟨A, n, c, rs, hp, he, hr, hn⟩ | ⟨k, hp, _⟩⟩
  · rw [h] at hp; injection hp with hp
    exact ⟨A, n, c, rs, hp.symm, he, hr.1, hn, hb⟩
  · rw [h] at hp; cases hp
/-- .. its blocks new -/
theorem parse_new (t : List UInt8) (fs : List Fn) (h : parseT t = .inl fs) (ht : t.length ≤ 4294967296) (w : World) (hE : Env w.heap.size w) : Calls Tryd.prog 5 #[.string (str t)] w fun e w' =>
    ∃ (A : Option Addr) (n c : Nat) (rs : List Raw), fns rs = fs ∧ e = .returned (.tuple #[.agg #[.slice A n c], .int .i64 0, .int .i64 0]) ∧ RdN w.heap.size w' A n rs ∧ n ≤ c ∧ Below w.heap.size w w' := by
  refine (parse_any t ht w hE).mono ?_
  rintro e w' ⟨hb, ⟨A, n, c, rs, hp, he, hr, hn⟩ | ⟨k, hp, _⟩⟩
  · rw [h] at hp; injection hp with hp
    exact ⟨A, n, c, rs, hp.symm, he, hr, hn, hb⟩
  · rw [h] at hp; cases hp
/-- .. and where it is none -/
theorem parse_bad (t : List UInt8) (k : Nat) (h : parseT t = .inr k) (ht : t.length ≤ 4294967296) (w : World) (hE : Env w.heap.size w) : Calls Tryd.prog 5 #[.string (str t)] w fun e w' =>
    e = .returned (.tuple #[.agg #[.slice none 0 0], .int .i64 k, .int .i64 40]) ∧ Below w.heap.size w w' := by
  refine (parse_any t ht w hE).mono ?_
  rintro e w' ⟨hb, ⟨A, n, c, rs, hp, _⟩ | ⟨k', hp, he⟩⟩
  · rw [h] at hp; cases hp
  · rw [h] at hp; injection hp with hp
    subst hp
    exact ⟨he, hb⟩

set_option maxRecDepth 100000 in
set_option maxHeartbeats 4000000 in
theorem first_any (w : World) (hE : Env w.heap.size w) : Calls Tryd.prog 4 #[] w fun e w' => e = .returned (.bool true) ∧ Below w.heap.size w w' := by
  have HP := Lib.hid (parse_yes t0 [f0] parse0 (by decide) w hE)
  clear hE
  go_enter Tryd.func4, Tryd.ntmps4
  go_wp2_with (go_at_call 5; refine HP.out.mono ?_; rintro e w2 ⟨A, n, c, rs, hp, rfl, hrd, hnc, hb2⟩; refine Hid.out ?_)
  match rs, hp with
  | [], hp => exact absurd hp (by simp [fns])
  | _ :: _ :: _, hp => exact absurd hp (by simp [fns])
  | [⟨fn, lo, lc, co, cc⟩], hp =>
    have hfn : fn = f0 := by simpa [fns] using hp
    subst hfn
    obtain rfl : n = 1 := by have := hrd.len; simpa using this.symm
    obtain ⟨b, off, r, rfl, hb, HX, HF, HW, y0, y1, y2, y3, y4⟩ := hrd.fn (k := 0) (by omega)
    have hr : r = ⟨f0, lo, lc, co, cc⟩ := by have := HX.out; simpa using this.symm
    subst hr
    obtain ⟨b2, off2, x, hco, hb22, HX2, z0, z1, z2⟩ := HF.out.code.ins (k := 1) (show 1 < f0.code.length by decide)
    have hx : x = ⟨1, 0, 7⟩ := by have := HX2.out; simpa [f0] using this.symm
    subst hx
    simp only at hco
    subst hco
    simp only [Nat.zero_mul, Nat.add_zero, Nat.one_mul] at y0 y1 y2 y3 y4 z0 z1 z2
    have y0' : w2.cell? ⟨b, off, none⟩ = some (.int .i64 1) := y0
    have y1' : w2.cell? ⟨b, off + 1, none⟩ = some (.slice lo 2 lc) := y1
    have y3' : w2.cell? ⟨b, off + 3, none⟩ = some (.int .i64 0) := y3
    have y4' : w2.cell? ⟨b, off + 4, none⟩ = some (.slice (some ⟨b2, off2, none⟩) 2 cc) := y4
    have z2' : w2.cell? ⟨b2, off2 + 3 + 2, none⟩ = some (.int .u64 7) := z2
    have HB2 := Lib.hid (hb2.alloc hb2.size (.cells #[.slice (some ⟨b, off, none⟩) 1 c] 25))
    clear hp hrd hb2 HX HX2 HF HW y0 y1 y2 y3 y4 z0 z1 z2
    refine Lib.hid ?_
    go_wp2
    go_ret
    exact ⟨rfl, HB2.out⟩
end Go.Proofs.YtbpobbadmbafaaaDoor
