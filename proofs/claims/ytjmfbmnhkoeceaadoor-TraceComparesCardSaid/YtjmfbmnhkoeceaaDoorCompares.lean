/-
  The walk through TraceCompares: what Same, Prefix and Ended answer is the document's answer.
-/
import Derived.Test.YtjmfbmnhkoeceaaDoorFirst
import Derived.Test.YtjmfbmnhkoeceaaDoorEq
import Derived.Shelf.SlSortCmp.QuietGrown
namespace Go.Proofs.YtjmfbmnhkoeceaaDoor
set_option linter.unusedVariables false
open Go.ChangeShapes Go.WideShapes Go.ChangeAt Go.RowKit

theorem ended_yes (k u : Int) (w : World) (hk : k = 1 ∨ k = 2) :
    Calls Tryd.prog 18 #[.agg #[.int .i64 k, .int .u64 u]] w fun e w' => e = .returned (.bool true) ∧ w' = w.alloc (.cells #[.int .i64 k, .int .u64 u] 38) := by
  rcases hk with rfl | rfl
  all_goals
    go_enter Tryd.func18, Tryd.ntmps18
    go_wp2
    go_ret
    exact ⟨rfl, rfl⟩
theorem ended_no (k u : Int) (w : World) (h1 : (k == 1) = false) (h2 : (k == 2) = false) :
    Calls Tryd.prog 18 #[.agg #[.int .i64 k, .int .u64 u]] w fun e w' => e = .returned (.bool false) ∧ w' = w.alloc (.cells #[.int .i64 k, .int .u64 u] 38) := by
  go_enter Tryd.func18, Tryd.ntmps18
  go_wp2
  go_ret
  exact ⟨rfl, rfl⟩

theorem Reads.grow {w : World} {B size n : Nat} {A : Option Addr} {xs : List Value} (h : Reads w B size A n xs) (hB : B ≤ w.heap.size) (q : Nat) (os : Array Obj) : Reads (Sort.grow (w.drewN q) os) B size A n xs :=
  h.keep fun p hp => by rw [Sort.cell?_grow _ _ _ (show p.block < (w.drewN q).heap.size from Nat.lt_of_lt_of_le hp hB)]; rfl

/-- a quiet contract, in every world of the region's class -/
theorem grown_quiet {f : FuncId} {args : Array Value} {w : World} {v : Value} (h : ∀ q os, Calls Tryd.prog f args (Sort.grow (w.drewN q) os) fun e w' => e = .returned v ∧ ∃ m, w' = (Sort.grow (w.drewN q) os).drewN m) (q : Nat) (os : Array Obj) :
    Calls Tryd.prog f args (Sort.grow (w.drewN q) os) fun e w'' => e = .returned v ∧ ∃ p : GrownBy, w'' = Sort.grow (w.drewN p.n) p.os :=
  Calls.grown_of ((h q os).mono fun e w' ⟨he, m, hm⟩ => ⟨he, m, #[], by rw [hm, Sort.grow_empty]⟩)
theorem grown_alloc {f : FuncId} {args : Array Value} {w : World} {v : Value} {o : Obj} (h : ∀ W : World, Calls Tryd.prog f args W fun e w' => e = .returned v ∧ w' = W.alloc o) (q : Nat) (os : Array Obj) :
    Calls Tryd.prog f args (Sort.grow (w.drewN q) os) fun e w'' => e = .returned v ∧ ∃ p : GrownBy, w'' = Sort.grow (w.drewN p.n) p.os :=
  Calls.grown_of ((h _).mono fun e w' ⟨he, hm⟩ => ⟨he, 0, #[o], by rw [hm, Sort.alloc_eq_grow]; rfl⟩)

theorem below_grown_end {w : World} {B : Nat} {w1 : World} (h : Below B w w1) (hB : B ≤ w1.heap.size) (q : Nat) (os : Array Obj) : Below B w (Sort.grow (w1.drewN q) os) :=
  h.trans ⟨rfl, rfl, rfl, by show w1.heap.size ≤ (w1.heap ++ os).size; rw [Array.size_append]; omega, fun j hj => Array.getElem?_append_left (show j < w1.heap.size by omega)⟩

set_option maxHeartbeats 8000000 in
theorem compares_walk (ao : Option Addr) (n c : Nat) (la : List Ev) (bo : Option Addr) (m d : Nat) (lb : List Ev) (k u : Int) (w : World)
    (ha : Reads w w.heap.size 2 ao n (evc la)) (hla : la.length = n) (hnc : n ≤ c) (hc : c * 16 ≤ 140737488351232)
    (hb : Reads w w.heap.size 2 bo m (evc lb)) (hlb : lb.length = m) (hmd : m ≤ d) (hd : d * 16 ≤ 140737488351232) :
    Calls Tryd.prog 4 #[.slice ao n c, .slice bo m d, .agg #[.int .i64 k, .int .u64 u]] w fun e w' => e = .returned (.bool true) ∧ Below w.heap.size w w' := by
  have HA := Lib.hid ha
  have HB := Lib.hid hb
  have HLA := Lib.hid hla
  have HLB := Lib.hid hlb
  have hnm : n ≤ maxLen := by unfold maxLen; omega
  have hmm : m ≤ maxLen := by unfold maxLen; omega
  have hcm : c ≤ maxLen := by unfold maxLen; omega
  have hdm : d ≤ maxLen := by unfold maxLen; omega
  have mixed : Tryd.prog.follows .mixedOrders = true := by kernel_rfl
  clear ha hb hla hlb
  obtain ⟨s, HS⟩ : ∃ s, Hid (sam la lb = s) := ⟨_, rfl⟩
  obtain ⟨p, HP⟩ : ∃ p, Hid (beg la lb = p) := ⟨_, rfl⟩
  obtain ⟨r, HQ⟩ : ∃ r, Hid (beg lb la = r) := ⟨_, rfl⟩
  have hs1 : sam la la = true := by simp [sam]
  have HT := Lib.hid hs1
  clear hs1
  by_cases hk : k = 1 ∨ k = 2
  · go_enter Tryd.func4, Tryd.ntmps4
    go_wp2_with (go_at_call 9; refine (first_any _).mono ?_; rintro e w1 ⟨rfl, hb1⟩; refine Hid.out ?_)
    have HW : Hid (Below w.heap.size w w1) := ((Below.refl _ _).alloc (Nat.le_refl _) _).trans (hb1.mono (by simp))
    have hsz : w.heap.size < w1.heap.size := by have := hb1.size; simp at this; omega
    have e0 : ∀ q os, (Sort.grow (w1.drewN q) os).cell? ⟨w.heap.size, 0, none⟩ = some (.int .i64 k) := cell_grown hsz (by rw [hb1.cell (p := ⟨w.heap.size, 0, none⟩) (by simp), (Blk.new w _ _).cell]; rfl)
    have e1 : ∀ q os, (Sort.grow (w1.drewN q) os).cell? ⟨w.heap.size, 1, none⟩ = some (.int .u64 u) := cell_grown hsz (by rw [hb1.cell (p := ⟨w.heap.size, 1, none⟩) (by simp), (Blk.new w _ _).cell]; rfl)
    have HA1 := Lib.hid (HA.out.below HW.out)
    have HB1 := Lib.hid (HB.out.below HW.out)
    have K15 := Lib.hid (grown_quiet fun q os => HS.out ▸ same_any _ ao bo n m c d la lb _ (HA1.out.grow (by omega) q os) (HB1.out.grow (by omega) q os) HLA.out HLB.out hnm hmm)
    have K14 := Lib.hid (grown_quiet fun q os => HS.out ▸ refsame_any _ ao bo n m c d la lb _ (HA1.out.grow (by omega) q os) (HB1.out.grow (by omega) q os) HLA.out HLB.out hnm hmm)
    have K16 := Lib.hid (grown_quiet fun q os => HP.out ▸ prefix_any _ ao bo n m c d la lb _ (HA1.out.grow (by omega) q os) (HB1.out.grow (by omega) q os) HLA.out HLB.out hnm hmd hdm)
    have K17 := Lib.hid (grown_quiet fun q os => HP.out ▸ begins_any _ ao bo n m c d la lb _ (HA1.out.grow (by omega) q os) (HB1.out.grow (by omega) q os) HLA.out HLB.out hnm hmm)
    have L16 := Lib.hid (grown_quiet fun q os => HQ.out ▸ prefix_any _ bo ao m n d c lb la _ (HB1.out.grow (by omega) q os) (HA1.out.grow (by omega) q os) HLB.out HLA.out hmm hnc hcm)
    have L17 := Lib.hid (grown_quiet fun q os => HQ.out ▸ begins_any _ bo ao m n d c lb la _ (HB1.out.grow (by omega) q os) (HA1.out.grow (by omega) q os) HLB.out HLA.out hmm hnm)
    have L15 := Lib.hid (grown_quiet fun q os => HT.out ▸ same_any _ ao ao n n c c la la _ (HA1.out.grow (by omega) q os) (HA1.out.grow (by omega) q os) HLA.out HLA.out hnm hnm)
    have K18 := Lib.hid (grown_alloc (w := w1) fun W => ended_yes k u W hk)
    have HE := Lib.hid (below_grown_end HW.out (by omega))
    clear hb1
    refine Lib.hid ?_
    go_wp2
    rcases hk with rfl | rfl
    all_goals
      go_quiet_grown (first
        | (go_at_call 15; with_reducible exact K15.out _ _)
        | (go_at_call 14; with_reducible exact K14.out _ _)
        | (go_at_call 16; with_reducible exact K16.out _ _)
        | (go_at_call 17; with_reducible exact K17.out _ _)
        | (go_at_call 16; with_reducible exact L16.out _ _)
        | (go_at_call 17; with_reducible exact L17.out _ _)
        | (go_at_call 15; with_reducible exact L15.out _ _)
        | (go_at_call 18; with_reducible exact K18.out _ _))
      go_wp2
      go_ret
      exact ⟨rfl, HE.out _ _⟩
  · have hk1 : (k == 1) = false := by simpa using fun h => hk (.inl h)
    have hk2 : (k == 2) = false := by simpa using fun h => hk (.inr h)
    clear hk
    go_enter Tryd.func4, Tryd.ntmps4
    go_wp2_with (go_at_call 9; refine (first_any _).mono ?_; rintro e w1 ⟨rfl, hb1⟩; refine Hid.out ?_)
    have HW : Hid (Below w.heap.size w w1) := ((Below.refl _ _).alloc (Nat.le_refl _) _).trans (hb1.mono (by simp))
    have hsz : w.heap.size < w1.heap.size := by have := hb1.size; simp at this; omega
    have e0 : ∀ q os, (Sort.grow (w1.drewN q) os).cell? ⟨w.heap.size, 0, none⟩ = some (.int .i64 k) := cell_grown hsz (by rw [hb1.cell (p := ⟨w.heap.size, 0, none⟩) (by simp), (Blk.new w _ _).cell]; rfl)
    have e1 : ∀ q os, (Sort.grow (w1.drewN q) os).cell? ⟨w.heap.size, 1, none⟩ = some (.int .u64 u) := cell_grown hsz (by rw [hb1.cell (p := ⟨w.heap.size, 1, none⟩) (by simp), (Blk.new w _ _).cell]; rfl)
    have HA1 := Lib.hid (HA.out.below HW.out)
    have HB1 := Lib.hid (HB.out.below HW.out)
    have K15 := Lib.hid (grown_quiet fun q os => HS.out ▸ same_any _ ao bo n m c d la lb _ (HA1.out.grow (by omega) q os) (HB1.out.grow (by omega) q os) HLA.out HLB.out hnm hmm)
    have K14 := Lib.hid (grown_quiet fun q os => HS.out ▸ refsame_any _ ao bo n m c d la lb _ (HA1.out.grow (by omega) q os) (HB1.out.grow (by omega) q os) HLA.out HLB.out hnm hmm)
    have K16 := Lib.hid (grown_quiet fun q os => HP.out ▸ prefix_any _ ao bo n m c d la lb _ (HA1.out.grow (by omega) q os) (HB1.out.grow (by omega) q os) HLA.out HLB.out hnm hmd hdm)
    have K17 := Lib.hid (grown_quiet fun q os => HP.out ▸ begins_any _ ao bo n m c d la lb _ (HA1.out.grow (by omega) q os) (HB1.out.grow (by omega) q os) HLA.out HLB.out hnm hmm)
    have L16 := Lib.hid (grown_quiet fun q os => HQ.out ▸ prefix_any _ bo ao m n d c lb la _ (HB1.out.grow (by omega) q os) (HA1.out.grow (by omega) q os) HLB.out HLA.out hmm hnc hcm)
    have L17 := Lib.hid (grown_quiet fun q os => HQ.out ▸ begins_any _ bo ao m n d c lb la _ (HB1.out.grow (by omega) q os) (HA1.out.grow (by omega) q os) HLB.out HLA.out hmm hnm)
    have L15 := Lib.hid (grown_quiet fun q os => HT.out ▸ same_any _ ao ao n n c c la la _ (HA1.out.grow (by omega) q os) (HA1.out.grow (by omega) q os) HLA.out HLA.out hnm hnm)
    have K18 := Lib.hid (grown_alloc (w := w1) fun W => ended_no k u W hk1 hk2)
    have HE := Lib.hid (below_grown_end HW.out (by omega))
    clear hb1
    refine Lib.hid ?_
    go_wp2
    go_quiet_grown (first
        | (go_at_call 15; with_reducible exact K15.out _ _)
        | (go_at_call 14; with_reducible exact K14.out _ _)
        | (go_at_call 16; with_reducible exact K16.out _ _)
        | (go_at_call 17; with_reducible exact K17.out _ _)
        | (go_at_call 16; with_reducible exact L16.out _ _)
        | (go_at_call 17; with_reducible exact L17.out _ _)
        | (go_at_call 15; with_reducible exact L15.out _ _)
        | (go_at_call 18; with_reducible exact K18.out _ _))
    go_wp2
    go_ret
    exact ⟨rfl, HE.out _ _⟩
end Go.Proofs.YtjmfbmnhkoeceaaDoor
