/-
  What must be answered ahead of everything else: three nodes in a line.
-/
import Derived.Test.YtmfdaeicbaibeaaDoorLOut
namespace Go.Proofs.YtmfdaeicbaibeaaDoor
set_option linter.unusedVariables false
set_option linter.unusedSimpArgs false
open Go.ChangeShapes Go.WideShapes Go.ChangeAt Go.RowKit

def ln0 : Nd := ⟨1, 0, 0, 0, 0, 0, 0, 0, 0, [], 1, 0⟩
def ln1 : Nd := ⟨17, 0, 0, 0, 0, 0, 0, 0, 0, [], 2, 0⟩
def ln2 : Nd := ⟨12, 0, 0, 0, -1, 0, 0, 0, 0, [], 0, 0⟩
def lgr : Gr := ⟨[], [0], 0, [], false, -1, [ln0, ln1, ln2], 0⟩
def lrg (z : Nat) : RG := ⟨lgr, none, 0, some ⟨z, 0, none⟩, 1, none, 0, some ⟨z + 1, 0, none⟩, 3, [⟨ln0, none, 0⟩, ⟨ln1, none, 0⟩, ⟨ln2, none, 0⟩]⟩
theorem lvalid : valid [lgr] false := by decide +kernel
theorem lwfn (n : Nd) (h : n ∈ [ln0, ln1, ln2]) : WfN n := by
  simp at h
  rcases h with rfl | rfl | rfl <;> exact ⟨by decide, by decide, by decide, by decide, ⟨by decide, by decide⟩, ⟨by decide, by decide⟩, ⟨by decide, by decide⟩, ⟨by decide, by decide⟩, ⟨by decide, by decide⟩, ⟨by decide, by decide⟩, by decide, by decide, (fun x h => by cases h), ⟨by decide, by decide⟩, ⟨by decide, by decide⟩, by decide⟩
theorem lwfg : WfG lgr := ⟨(fun x h => by cases h), (fun x h => by simp [lgr] at h; subst h; exact ⟨by decide, by decide⟩), ⟨by decide, by decide⟩, (fun x h => by cases h), ⟨by decide, by decide⟩, (fun i hi => lwfn i hi), ⟨by decide, by decide⟩, by decide, by decide, by decide, by decide⟩
def lcK : Array Value := #[.int .u8 0]
def lcN : Array Value := #[.int .u8 1, .int .u8 0, .int .i64 0, .int .i64 0, .int .i64 0, .int .i64 0, .int .i64 0, .int .i64 0, .int .u64 0, .slice none 0 0, .int .i64 1, .int .i64 0, .int .u8 17, .int .u8 0, .int .i64 0, .int .i64 0, .int .i64 0, .int .i64 0, .int .i64 0, .int .i64 0, .int .u64 0, .slice none 0 0, .int .i64 2, .int .i64 0, .int .u8 12, .int .u8 0, .int .i64 0, .int .i64 0, .int .i64 (-1), .int .i64 0, .int .i64 0, .int .i64 0, .int .u64 0, .slice none 0 0, .int .i64 0, .int .i64 0]
def lcG (z : Nat) : Array Value := #[.slice none 0 0, .slice (some ⟨z, 0, none⟩) 1 1, .int .i64 0, .slice none 0 0, .bool false, .int .i64 (-1), .slice (some ⟨z + 1, 0, none⟩) 3 3, .int .i64 0]
/-- a row of cells as a slice -/
theorem blk_reads {w : World} {g n size B : Nat} {t : TypeId} {cs : Array Value} (h : Blk w g t cs) (hs : cs.size = n * size) (hB : g < B) : Reads w B size (some ⟨g, 0, none⟩) n cs.toList :=
  ⟨by simpa using hs, fun _ => ⟨_, rfl, hB, fun j u hj => by
    have ea : (⟨g, 0, none⟩ : Addr).add j = ⟨g, j, none⟩ := by simp [Addr.add]; exact Eq.symm
    rw [ea, h.cell]
    simpa using hj⟩⟩
theorem lrd {W : World} {z : Nat} (hK : Blk W z 60 lcK) (hN : Blk W (z + 1) 64 lcN) (hG : Blk W (z + 2) 37 (lcG z)) : RdP W (z + 3) (some ⟨z + 2, 0, none⟩) 1 [lrg z] := by
  refine ⟨blk_reads (size := 8) hG rfl (by omega), rfl, fun r hr => ?_, fun r hr => ?_, by omega⟩
  · obtain rfl : r = lrg z := by simpa using hr
    refine ⟨Reads.none_, blk_reads (size := 1) (n := 1) hK rfl (by omega), Reads.none_, ⟨blk_reads (size := 12) (n := 3) hN rfl (by omega), rfl, fun i hi => ?_, fun i hi => ?_⟩, rfl, Nat.le_refl _⟩
    · simp [lrg] at hi
      rcases hi with rfl | rfl | rfl <;> exact ⟨Reads.none_, Nat.le_refl _⟩
    · simp [lrg] at hi
      rcases hi with rfl | rfl | rfl
      · exact lwfn _ (by simp)
      · exact lwfn _ (by simp)
      · exact lwfn _ (by simp)
  · obtain rfl : r = lrg z := by simpa using hr
    exact lwfg
theorem lv0 : ¬ Live lgr.nodes (0 : Int) 0 := by
  intro h
  cases h with
  | here h hr =>
    obtain rfl : ln0 = _ := by simpa [lgr] using h
    exact absurd hr (by decide)
  | next h hw _ _ =>
    obtain rfl : ln0 = _ := by simpa [lgr] using h
    exact absurd hw (by decide)
theorem lv1 : Live lgr.nodes (0 : Int) 1 := .here (n := ln1) rfl (by decide)
theorem lv2 : ¬ Live lgr.nodes (0 : Int) 2 := by
  intro h
  cases h with
  | here h hr =>
    obtain rfl : ln2 = _ := by simpa [lgr] using h
    exact absurd hr (by decide)
  | next h _ hj _ =>
    obtain rfl : ln2 = _ := by simpa [lgr] using h
    exact absurd hj (by simp [nextsOf, ln2])
theorem lo0 : LiveO lgr.nodes (0 : Int) 0 := ⟨ln0, rfl, 1, by decide, lv1⟩
theorem lo1 : ¬ LiveO lgr.nodes (0 : Int) 1 := by
  rintro ⟨n, h, j, hj, hl⟩
  obtain rfl : ln1 = n := by simpa [lgr] using h
  have : j = 2 := by
    have : (j : Int) = 2 := by simpa [nextsOf, ln1] using hj
    omega
  subst this
  exact lv2 hl
theorem liveL_one {ns : List Nd} {i : Nat} : (Live ns (0 : Int) i → liveL ns 1 i = [0]) ∧ (¬ Live ns (0 : Int) i → liveL ns 1 i = []) := by
  unfold liveL
  rw [show List.range 1 = [0] from rfl]
  constructor
  · intro h
    have h' : Live ns ((0 : Nat) : Int) i := h
    rw [List.filter_cons_of_pos (by simpa using h')]
    rfl
  · intro h
    have h' : ¬ Live ns ((0 : Nat) : Int) i := h
    rw [List.filter_cons_of_neg (by simpa using h')]
    rfl
theorem liveOL_one {ns : List Nd} {i : Nat} : (LiveO ns (0 : Int) i → liveOL ns 1 i = [0]) ∧ (¬ LiveO ns (0 : Int) i → liveOL ns 1 i = []) := by
  unfold liveOL
  rw [show List.range 1 = [0] from rfl]
  constructor
  · intro h
    have h' : LiveO ns ((0 : Nat) : Int) i := h
    rw [List.filter_cons_of_pos (by simpa using h')]
    rfl
  · intro h
    have h' : ¬ LiveO ns ((0 : Nat) : Int) i := h
    rw [List.filter_cons_of_neg (by simpa using h')]
    rfl
theorem RdL.at_ {w : World} {base O n : Nat} {vs : Nat → Value} {f : Nat → List Int} (h : RdL w base O n vs f) {i : Nat} (hi : i < n) : ∃ A c, w.cell? ⟨O, i, none⟩ = some (.slice A (f i).length c) := by
  obtain ⟨A, c, e⟩ := own_slice (h.own i hi)
  exact ⟨A, c, by rw [h.row.cell, rowA_at _ hi, e]⟩
/-- an answer that is no error -/
theorem LvPost.ok {L : List Nd → Nat → Nat → List Int} {gs : List Gr} {g : Gr} {k : Nat} {w w' : World} {e : Ending} (h : LvPost L gs k w e w') (hv : valid gs false) (hg : gs[k]? = some g) :
    Below w.heap.size w w' ∧ ∃ O vs, e = .returned (.tuple #[.slice (some ⟨O, 0, none⟩) g.nodes.length g.nodes.length, .int .i64 0]) ∧ w.heap.size ≤ O ∧ RdL w' w.heap.size O g.nodes.length vs (L g.nodes g.kinds.length) := by
  obtain ⟨hb, A, n, c, rfl, _, h0⟩ := h
  have hz : chkL gs k = 0 := by
    have := (List.getElem?_eq_some_iff.1 hg).1
    unfold chkL
    rw [if_pos hv, if_neg (by omega)]
  obtain ⟨O, vs, g2, h1, rfl, rfl, rfl, h2, h3⟩ := h0 hz
  rw [Int.toNat_natCast, hg] at h1
  injection h1 with h1
  subst h1
  exact ⟨hb, O, vs, by rw [hz], h2, h3⟩
set_option maxRecDepth 100000 in
set_option maxHeartbeats 3200000 in
theorem lfirst_any (w : World) (hT : TzTab w) : Calls Tryd.prog 6 #[] w fun e w' => e = .returned (.bool true) ∧ Below w.heap.size w w' := by
  obtain ⟨W, hW⟩ : ∃ W, W = ((((w.alloc (.cells lcK 60)).alloc (.cells lcN 64)).alloc (.cells (lcG w.heap.size) 37)).alloc (.cells #[.slice (some ⟨w.heap.size + 1 + 1, 0, none⟩) 1 1] 24)) := ⟨_, rfl⟩
  have hz : W.heap.size = w.heap.size + 4 := by rw [hW]; simp
  have hbw : Below w.heap.size w W := by
    rw [hW]
    exact ((((Below.refl _ _).alloc (Nat.le_refl _) _).alloc (by simp) _).alloc (by simp; omega) _).alloc (by simp; omega) _
  have b0 : Blk W w.heap.size 60 lcK := by
    rw [hW]
    exact (((Blk.new w _ _).alloc _).alloc _).alloc _
  have b1 : Blk W (w.heap.size + 1) 64 lcN := by
    have h := Blk.new (w.alloc (.cells lcK 60)) 64 lcN
    rw [show (w.alloc (.cells lcK 60)).heap.size = w.heap.size + 1 by simp] at h
    rw [hW]
    exact (h.alloc _).alloc _
  have b2 : Blk W (w.heap.size + 2) 37 (lcG w.heap.size) := by
    have h := Blk.new ((w.alloc (.cells lcK 60)).alloc (.cells lcN 64)) 37 (lcG w.heap.size)
    rw [show ((w.alloc (.cells lcK 60)).alloc (.cells lcN 64)).heap.size = w.heap.size + 2 by simp] at h
    rw [hW]
    exact h.alloc _
  have b3 : Blk W (w.heap.size + 1 + 1 + 1) 24 #[.slice (some ⟨w.heap.size + 1 + 1, 0, none⟩) 1 1] := by
    have h := Blk.new (((w.alloc (.cells lcK 60)).alloc (.cells lcN 64)).alloc (.cells (lcG w.heap.size) 37)) 24 #[.slice (some ⟨w.heap.size + 1 + 1, 0, none⟩) 1 1]
    rw [show (((w.alloc (.cells lcK 60)).alloc (.cells lcN 64)).alloc (.cells (lcG w.heap.size) 37)).heap.size = w.heap.size + 1 + 1 + 1 by simp] at h
    rw [hW]
    exact h
  have HRD := Lib.hid (lrd b0 b1 b2)
  have HB3 := Lib.hid b3
  have HBW := Lib.hid hbw
  have HZ := Lib.hid hz
  have HT := Lib.hid hT
  have HIN := Lib.hid (in_live (w.heap.size + 3) (some ⟨w.heap.size + 1 + 1, 0, none⟩) 1 1 [lrg w.heap.size] 0 W HRD.out (by omega) (hT.below hbw))
  have HOU : Hid (∀ W2, Below W.heap.size W W2 → Calls Tryd.prog 8 #[.agg #[.slice (some ⟨w.heap.size + 1 + 1, 0, none⟩) 1 1], .int .i64 0] W2 (LvPost liveOL [lgr] 0 W2)) := Lib.hid fun W2 hb => out_live (w.heap.size + 3) (some ⟨w.heap.size + 1 + 1, 0, none⟩) 1 1 [lrg w.heap.size] 0 W2 (HRD.out.below (hb.mono (by omega))) (by have := hb.size; omega) ((HT.out.below HBW.out).below hb)
  have z0 : W.cell? ⟨w.heap.size + 1 + 1 + 1, 0, none⟩ = some (.slice (some ⟨w.heap.size + 1 + 1, 0, none⟩) 1 1) := b3.cell 0
  clear b0 b1 b2 b3 hbw hz hT
  go_enter Tryd.func6, Tryd.ntmps6
  go_upto_region 2 with fail
  unfold lcK lcN lcG at hW
  rw [← hW]
  clear hW
  obtain ⟨p2, hp2⟩ : ∃ p, p = w.heap.size + 1 + 1 := ⟨_, rfl⟩
  obtain ⟨p3, hp3⟩ : ∃ p, p = p2 + 1 := ⟨_, rfl⟩
  rw [← hp2] at HIN HOU HB3 z0 ⊢
  rw [← hp3] at HB3 z0 ⊢
  clear hp2 hp3
  go_wp2_with (first
    | (go_at_call 7; refine HIN.out.mono ?_; rintro e w2 hl; obtain ⟨hb2, O, vs, rfl, hO, hr2⟩ := hl.ok (k := 0) (g := lgr) lvalid rfl; have HB2 := Lib.hid hb2; have HR2 := Lib.hid hr2; have z2 : w2.cell? ⟨p3, 0, none⟩ = some (.slice (some ⟨p2, 0, none⟩) 1 1) := (HB3.out.below hb2 HB3.out.lt).cell 0; clear hb2 hr2 hl)
    | (go_at_call 8; refine (HOU.out _ HB2.out).mono ?_; rintro e w3 hl; obtain ⟨hb3, O3, vs3, rfl, hO3, hr3⟩ := hl.ok (k := 0) (g := lgr) lvalid rfl; have HR2b := Lib.hid (HR2.out.on hb3); obtain ⟨A0, c0, h0⟩ := HR2b.out.at_ (i := 0) (by decide); obtain ⟨A1, c1, h1⟩ := HR2b.out.at_ (i := 1) (by decide); obtain ⟨A2, c2, h2⟩ := hr3.at_ (i := 0) (by decide); obtain ⟨A3, c3, h3⟩ := hr3.at_ (i := 1) (by decide); rw [show liveL lgr.nodes lgr.kinds.length 0 = [] from liveL_one.2 lv0] at h0; rw [show liveL lgr.nodes lgr.kinds.length 1 = [0] from liveL_one.1 lv1] at h1; rw [show liveOL lgr.nodes lgr.kinds.length 0 = [0] from liveOL_one.1 lo0] at h2; rw [show liveOL lgr.nodes lgr.kinds.length 1 = [] from liveOL_one.2 lo1] at h3; have HB5 := Lib.hid hb3; clear hb3 hr3 hl))
  go_ret
  exact ⟨rfl, HBW.out.trans ((HB2.out.trans (HB5.out.mono HB2.out.size)).mono (by rw [HZ.out]; omega))⟩
end Go.Proofs.YtmfdaeicbaibeaaDoor
