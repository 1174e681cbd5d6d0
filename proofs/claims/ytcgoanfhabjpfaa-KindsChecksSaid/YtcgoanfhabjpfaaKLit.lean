/-
  Check of a program that is written out; what is read of its answer.
-/
import Derived.Test.YtcgoanfhabjpfaaKCheckW
import Derived.Test.YtcgoanfhabjpfaaKSolve
namespace Go.Proofs.Ytcgoanfhabjpfaa
set_option linter.unusedVariables false
open Go.ChangeShapes Go.WideShapes Go.ChangeAt Go.RowKit

/-- a function of instructions alone -/
def mkC (is : List Ins) : Fn := ⟨0, [], false, -1, is⟩
/-- one function's answer, read in memory -/
theorem TI.look {w0 w : World} {B tb n rc sc k : Nat} {rs : List Raw} {ls : List (List (Option Stk))} {rvs svs : List Value} {RA SA : Option Addr} {l : List (Option Stk)} (h : TI w0 B tb rs n ls rvs svs RA rc SA sc w) (hl : ls[k]? = some l) :
    ∃ bR oR bS oS ra sa m, RA = some ⟨bR, oR, none⟩ ∧ SA = some ⟨bS, oS, none⟩ ∧ bR < w.heap.size ∧ bS < w.heap.size ∧ ra < w.heap.size ∧ sa < w.heap.size ∧ m = l.length ∧ m ≤ 256 ∧ w.cell? ⟨bR, oR + k, none⟩ = some (.slice (some ⟨ra, 0, none⟩) m m) ∧ w.cell? ⟨bS, oS + k, none⟩ = some (.slice (some ⟨sa, 0, none⟩) m m) ∧
      (∀ (j : Nat) x, l[j]? = some x → w.cell? ⟨ra, j, none⟩ = some (.bool x.isSome) ∧ ∃ a q c, w.cell? ⟨sa, j, none⟩ = some (.slice a q c) ∧ q = (x.getD []).length ∧ Reads w w.heap.size 1 a q (u8c (x.getD []))) := by
  have hk : k < n := by rw [← h.len]; exact (List.getElem?_eq_some_iff.1 hl).1
  obtain ⟨rv, sv, h1, h2, h3⟩ := h.each k l hl
  obtain ⟨ra, sa, m, vs, hrv, hsv, hlm, hm, hb1, hb2, hvl, _, _, hat⟩ := h3.at_
  obtain ⟨bR, oR, hA, hbw, x0⟩ := row_at h.tj.rr hk h1
  obtain ⟨bS, oS, hS, hbw2, x1⟩ := row_at h.tj.ss hk h2
  subst hrv hsv
  refine ⟨bR, oR, bS, oS, ra, sa, m, hA, hS, hbw, hbw2, hb1.lt, hb2.lt, hlm.symm, hm, x0, x1, fun j x hx => ⟨?_, ?_⟩⟩
  · rw [hb1.cell]
    show (reachC l).toArray[j]? = _
    unfold reachC
    simp [hx]
  · obtain ⟨a, q, c, hv, hq, ho⟩ := hat j x hx
    exact ⟨a, q, c, by rw [hb2.cell]; simpa using hv, hq, Reads.of_own ho⟩
/-- what Check answers where the verdict was reckoned -/
def LitPost (w : World) (n : Nat) (v : Int) (ls : List (List (Option Stk))) (e : Ending) (w' : World) : Prop := ∃ p, e = .returned (.tuple #[.pointer p, .int .i64 v]) ∧ Below w.heap.size w w' ∧
  (v ≠ 0 → p = none) ∧ (v = 0 → ∃ w0 B tb rs rvs svs RA rc SA sc, p = some ⟨tb, 0, none⟩ ∧ TI w0 B tb rs n ls rvs svs RA rc SA sc w')
theorem check_known (B : Nat) (A : Option Addr) (n c : Nat) (rs : List Raw) (v : Int) (ls : List (List (Option Stk))) (w : World) (h : RdP w B A n rs) (hB : B ≤ w.heap.size) (hv : verdC (fns rs) = some (v, ls)) :
    Calls Try.prog 10 #[.agg #[.slice A n c]] w (LitPost w n v ls) := by
  obtain ⟨h1, h2⟩ := verdC_spec hv
  refine (check_any B A n c rs w h hB).mono ?_
  rintro e w' ⟨hb, ⟨hn, rfl⟩ | ⟨h0, w0, tb, ls', rvs, svs, RA, rc, SA, sc, rfl, hti, hS⟩⟩
  · rw [h1] at hn ⊢
    exact ⟨_, rfl, hb, fun _ => rfl, fun h => absurd h hn⟩
  · rw [h1] at h0
    have := (h2 h0).eq_ hS
    subst this
    exact ⟨_, by rw [h0], hb, fun h => absurd h0 h, fun _ => ⟨w0, B, tb, rs, rvs, svs, RA, rc, SA, sc, rfl, hti⟩⟩
/-- instructions written out, in a program of one function -/
theorem lit_prog {W : World} {g : Nat} (is : List Ins) (m c : Nat) (A : Option Addr) (hm : m = is.length) (hl : m ≤ 1000) (hR : Reads W W.heap.size 3 A m (insc is)) (hw : ∀ i ∈ is, WfI i) (hb : Blk W g 47 #[.int .i64 0, .slice none 0 0, .bool false, .int .i64 (-1), .slice A m c]) :
    RdP W W.heap.size (some ⟨g, 0, none⟩) 1 [⟨mkC is, none, 0, A, c⟩] := by
  subst hm
  refine ⟨reads_blk (cs := rawOne ⟨mkC is, none, 0, A, c⟩) hb rfl, rfl, fun r hr => ?_, fun r hr => ?_, by omega⟩
  · obtain rfl : r = ⟨mkC is, none, 0, A, c⟩ := by simpa using hr
    exact ⟨Reads.none_, hR, Nat.le_refl _⟩
  · obtain rfl : r = ⟨mkC is, none, 0, A, c⟩ := by simpa using hr
    refine ⟨by show (-9223372036854775808 : Int) ≤ 0; omega, by show (0 : Int) ≤ 9223372036854775807; omega, by show (-9223372036854775808 : Int) ≤ -1; omega, by show (-1 : Int) ≤ 9223372036854775807; omega, Byt.nil, hw, by show (0 : Nat) ≤ _; omega, ?_⟩
    show is.length * 24 ≤ _
    omega
theorem lit_two (W : World) (is : List Ins) (m : Nat) (hm : m = is.length) (hl : m ≤ 1000) (hw : ∀ i ∈ is, WfI i) :
    RdP ((W.alloc (.cells (insc is).toArray 51)).alloc (.cells #[.int .i64 0, .slice none 0 0, .bool false, .int .i64 (-1), .slice (some ⟨W.heap.size, 0, none⟩) m m] 47)) (W.heap.size + 2) (some ⟨W.heap.size + 1, 0, none⟩) 1 [⟨mkC is, none, 0, some ⟨W.heap.size, 0, none⟩, m⟩] := by
  have h := lit_prog (W := (W.alloc (.cells (insc is).toArray 51)).alloc (.cells #[.int .i64 0, .slice none 0 0, .bool false, .int .i64 (-1), .slice (some ⟨W.heap.size, 0, none⟩) m m] 47)) is m m (some ⟨W.heap.size, 0, none⟩) hm hl (reads_blk ((Blk.new W 51 (insc is).toArray).alloc _) (by rw [length_insc, hm])) hw (blk_second _ _ _ _ _)
  rw [show ((W.alloc (.cells (insc is).toArray 51)).alloc (.cells #[.int .i64 0, .slice none 0 0, .bool false, .int .i64 (-1), .slice (some ⟨W.heap.size, 0, none⟩) m m] 47)).heap.size = W.heap.size + 2 by simp] at h
  exact h

def progA : List Ins := [⟨1, 0, 0⟩, ⟨29, 0, 0⟩, ⟨24, 0, 0⟩]
def progB : List Ins := [⟨29, 0, 0⟩, ⟨24, 0, 0⟩]
theorem verdA : verdC [mkC progA] = some (0, [[some [], some [0], some []]]) := by decide +kernel
theorem verdB : verdC [mkC progB] = some (50, []) := by decide +kernel
theorem wf_small {i : Ins} (h : 0 ≤ i.op ∧ i.op ≤ 255 ∧ 0 ≤ i.arg ∧ i.arg ≤ 100000 ∧ 0 ≤ i.imm ∧ i.imm ≤ 100000) : WfI i := ⟨h.1, h.2.1, by omega, by omega, by omega, by omega⟩
theorem wfA : ∀ i ∈ progA, WfI i := by intro i hi; apply wf_small; simp [progA] at hi; rcases hi with rfl | rfl | rfl <;> decide
theorem wfB : ∀ i ∈ progB, WfI i := by intro i hi; apply wf_small; simp [progB] at hi; rcases hi with rfl | rfl <;> decide

set_option maxRecDepth 100000 in
set_option maxHeartbeats 3200000 in
theorem first_any (w : World) : Calls Try.prog 8 #[] w fun e w' => e = .returned (.bool true) ∧ Below w.heap.size w w' := by
  have HA := Lib.hid (lit_two w progA 3 rfl (by omega) wfA)
  have HC1 := Lib.hid (check_known (w.heap.size + 2) _ 1 1 _ _ _ _ HA.out (by simp) verdA)
  have HW1 : Hid (Below w.heap.size w ((w.alloc (.cells (insc progA).toArray 51)).alloc (.cells #[.int .i64 0, .slice none 0 0, .bool false, .int .i64 (-1), .slice (some ⟨w.heap.size, 0, none⟩) 3 3] 47))) := Lib.hid (below_2 _ _ _ _ _)
  go_enter Try.func8, Try.ntmps8
  go_wp2_with (go_at_call 10; refine HC1.out.mono ?_; rintro e w2 ⟨p, rfl, hb2, _, h2⟩; have HB2 := Lib.hid hb2; have HT := Lib.hid (h2 rfl); clear hb2 h2; refine Hid.out ?_)
  obtain ⟨w0, B, tb, rs, rvs, svs, RA, rc, SA, sc, rfl, hti⟩ := HT.out
  have hz2 : w.heap.size + 2 ≤ w2.heap.size := by have := HB2.out.size; simp at this; omega
  have HTI := Lib.hid hti
  have HP2 := Lib.hid (lit_two w2 progB 2 rfl (by omega) wfB)
  have HC2 := Lib.hid (check_known (w2.heap.size + 2) _ 1 1 _ _ _ _ HP2.out (by simp) verdB)
  have HW2 : Hid (Below w2.heap.size w2 ((w2.alloc (.cells (insc progB).toArray 51)).alloc (.cells #[.int .i64 0, .slice none 0 0, .bool false, .int .i64 (-1), .slice (some ⟨w2.heap.size, 0, none⟩) 2 2] 47))) := Lib.hid (below_2 _ _ _ _ _)
  clear hti HT HC1 HA
  refine Lib.hid ?_
  go_wp2_with (go_at_call 10; refine HC2.out.mono ?_; rintro e w3 ⟨p, rfl, hb3, hp, _⟩; have hp' := hp (by decide); subst hp'; have HB3 := Lib.hid (HW2.out.trans (hb3.mono (by simp; omega))); clear hb3 hp; refine Hid.out ?_)
  have HT3 := Lib.hid (HTI.out.on HB3.out)
  have t1 : w3.cell? ⟨tb, 1, none⟩ = some (.slice SA 1 sc) := HT3.out.tj.blk.cell 1
  obtain ⟨bR, oR, bS, oS, ra, sa, m, hR, hS, _, _, _, _, hm, _, x0, x1, hat⟩ := HT3.out.look (k := 0) rfl
  obtain ⟨_, a, q, c, y1, hq, _⟩ := hat 1 _ rfl
  have hm3 : m = 3 := hm
  have hq1 : q = 1 := hq
  subst hS hm3 hq1
  rw [Nat.add_zero] at x1
  clear hat hm hq x0
  have HBF : Hid (Below w.heap.size w w3) := Lib.hid (HW1.out.trans ((HB2.out.mono (by simp; omega)).trans (HB3.out.mono (by omega))))
  refine Lib.hid ?_
  go_wp2
  go_ret
  exact ⟨rfl, HBF.out⟩
end Go.Proofs.Ytcgoanfhabjpfaa
