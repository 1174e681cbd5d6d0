/-
  Texts of one seat, one behind the other: LFi, Rp, Cp, Cg, Rf, Rnz.
-/
import Derived.Deep.RegionLaw
import Derived.Test.YtmfdaeicbaibeaaDoorMA12
import Derived.Test.YtmfdaeicbaibeaaDoorMA3
import Derived.Test.YtmfdaeicbaibeaaDoorMA2
import Derived.Test.YtmfdaeicbaibeaaDoorMA13
import Derived.Test.YtmfdaeicbaibeaaDoorMA11

/-
  What must be answered ahead of everything else: three nodes in a line.
-/
namespace Go.Proofs.YtmfdaeicbaibeaaDoor
set_option linter.unusedVariables false
set_option linter.unusedSimpArgs false
open Go.ChangeShapes Go.WideShapes Go.ChangeAt Go.RowKit

def ln0 : Nd := ⟨1, 0, 0, 0, 0, 0, 0, 0, 0, [], 1, 0⟩
def ln1 : Nd := ⟨17, 0, 0, 0, 0, 0, 0, 0, 0, [], 2, 0⟩
def ln2 : Nd := ⟨12, 0, 0, 0, -1, 0, 0, 0, 0, [], 0, 0⟩
def lgr : Gr := ⟨[], [0], 0, [], false, -1, [ln0, ln1, ln2], 0⟩
def lrg (z : Nat) : RG := ⟨lgr, none, 0, some ⟨z, 0, none⟩, 1, none, 0, some ⟨z + 1, 0, none⟩, 3, [⟨ln0, none, 0⟩, ⟨ln1, none, 0⟩, ⟨ln2, none, 0⟩]⟩
theorem lvalid : valid [lgr] false := by decide +kernel
theorem lwfn (n : Nd) (h : n ∈ [ln0, ln1, ln2]) : WfN n := by
  simp at h
  rcases h with rfl | rfl | rfl <;> exact ⟨by decide, by decide, by decide, by decide, ⟨by decide, by decide⟩, ⟨by decide, by decide⟩, ⟨by decide, by decide⟩, ⟨by decide, by decide⟩, ⟨by decide, by decide⟩, ⟨by decide, by decide⟩, by decide, by decide, (fun x h => by cases h), ⟨by decide, by decide⟩, ⟨by decide, by decide⟩, by decide⟩
theorem lwfg : WfG lgr := ⟨(fun x h => by cases h), (fun x h => by simp [lgr] at h; subst h; exact ⟨by decide, by decide⟩), ⟨by decide, by decide⟩, (fun x h => by cases h), ⟨by decide, by decide⟩, (fun i hi => lwfn i hi), ⟨by decide, by decide⟩, by decide, by decide, by decide, by decide⟩
def lcK : Array Value := #[.int .u8 0]
def lcN : Array Value := #[.int .u8 1, .int .u8 0, .int .i64 0, .int .i64 0, .int .i64 0, .int .i64 0, .int .i64 0, .int .i64 0, .int .u64 0, .slice none 0 0, .int .i64 1, .int .i64 0, .int .u8 17, .int .u8 0, .int .i64 0, .int .i64 0, .int .i64 0, .int .i64 0, .int .i64 0, .int .i64 0, .int .u64 0, .slice none 0 0, .int .i64 2, .int .i64 0, .int .u8 12, .int .u8 0, .int .i64 0, .int .i64 0, .int .i64 (-1), .int .i64 0, .int .i64 0, .int .i64 0, .int .u64 0, .slice none 0 0, .int .i64 0, .int .i64 0]
def lcG (z : Nat) : Array Value := #[.slice none 0 0, .slice (some ⟨z, 0, none⟩) 1 1, .int .i64 0, .slice none 0 0, .bool false, .int .i64 (-1), .slice (some ⟨z + 1, 0, none⟩) 3 3, .int .i64 0]
/-- a row of cells as a slice -/
theorem blk_reads {w : World} {g n size B : Nat} {t : TypeId} {cs : Array Value} (h : Blk w g t cs) (hs : cs.size = n * size) (hB : g < B) : Reads w B size (some ⟨g, 0, none⟩) n cs.toList :=
  ⟨by simpa using hs, fun _ => ⟨_, rfl, hB, fun j u hj => by
    have ea : (⟨g, 0, none⟩ : Addr).add j = ⟨g, j, none⟩ := by simp [Addr.add]; exact Eq.symm
    rw [ea, h.cell]
    simpa using hj⟩⟩
theorem lrd {W : World} {z : Nat} (hK : Blk W z 60 lcK) (hN : Blk W (z + 1) 64 lcN) (hG : Blk W (z + 2) 37 (lcG z)) : RdP W (z + 3) (some ⟨z + 2, 0, none⟩) 1 [lrg z] := by
  refine ⟨blk_reads (size := 8) hG rfl (by omega), rfl, fun r hr => ?_, fun r hr => ?_, by omega⟩
  · obtain rfl : r = lrg z := by simpa using hr
    refine ⟨Reads.none_, blk_reads (size := 1) (n := 1) hK rfl (by omega), Reads.none_, ⟨blk_reads (size := 12) (n := 3) hN rfl (by omega), rfl, fun i hi => ?_, fun i hi => ?_⟩, rfl, Nat.le_refl _⟩
    · simp [lrg] at hi
      rcases hi with rfl | rfl | rfl <;> exact ⟨Reads.none_, Nat.le_refl _⟩
    · simp [lrg] at hi
      rcases hi with rfl | rfl | rfl
      · exact lwfn _ (by simp)
      · exact lwfn _ (by simp)
      · exact lwfn _ (by simp)
  · obtain rfl : r = lrg z := by simpa using hr
    exact lwfg
theorem lv0 : ¬ Live lgr.nodes (0 : Int) 0 := by
  intro h
  cases h with
  | here h hr =>
    obtain rfl : ln0 = _ := by simpa [lgr] using h
    exact absurd hr (by decide)
  | next h hw _ _ =>
    obtain rfl : ln0 = _ := by simpa [lgr] using h
    exact absurd hw (by decide)
theorem lv1 : Live lgr.nodes (0 : Int) 1 := .here (n := ln1) rfl (by decide)
theorem lv2 : ¬ Live lgr.nodes (0 : Int) 2 := by
  intro h
  cases h with
  | here h hr =>
    obtain rfl : ln2 = _ := by simpa [lgr] using h
    exact absurd hr (by decide)
  | next h _ hj _ =>
    obtain rfl : ln2 = _ := by simpa [lgr] using h
    exact absurd hj (by simp [nextsOf, ln2])
theorem lo0 : LiveO lgr.nodes (0 : Int) 0 := ⟨ln0, rfl, 1, by decide, lv1⟩
theorem lo1 : ¬ LiveO lgr.nodes (0 : Int) 1 := by
  rintro ⟨n, h, j, hj, hl⟩
  obtain rfl : ln1 = n := by simpa [lgr] using h
  have : j = 2 := by
    have : (j : Int) = 2 := by simpa [nextsOf, ln1] using hj
    omega
  subst this
  exact lv2 hl
theorem liveL_one {ns : List Nd} {i : Nat} : (Live ns (0 : Int) i → liveL ns 1 i = [0]) ∧ (¬ Live ns (0 : Int) i → liveL ns 1 i = []) := by
  unfold liveL
  rw [show List.range 1 = [0] from rfl]
  constructor
  · intro h
    have h' : Live ns ((0 : Nat) : Int) i := h
    rw [List.filter_cons_of_pos (by simpa using h')]
    rfl
  · intro h
    have h' : ¬ Live ns ((0 : Nat) : Int) i := h
    rw [List.filter_cons_of_neg (by simpa using h')]
    rfl
theorem liveOL_one {ns : List Nd} {i : Nat} : (LiveO ns (0 : Int) i → liveOL ns 1 i = [0]) ∧ (¬ LiveO ns (0 : Int) i → liveOL ns 1 i = []) := by
  unfold liveOL
  rw [show List.range 1 = [0] from rfl]
  constructor
  · intro h
    have h' : LiveO ns ((0 : Nat) : Int) i := h
    rw [List.filter_cons_of_pos (by simpa using h')]
    rfl
  · intro h
    have h' : ¬ LiveO ns ((0 : Nat) : Int) i := h
    rw [List.filter_cons_of_neg (by simpa using h')]
    rfl
theorem RdL.at_ {w : World} {base O n : Nat} {vs : Nat → Value} {f : Nat → List Int} (h : RdL w base O n vs f) {i : Nat} (hi : i < n) : ∃ A c, w.cell? ⟨O, i, none⟩ = some (.slice A (f i).length c) := by
  obtain ⟨A, c, e⟩ := own_slice (h.own i hi)
  exact ⟨A, c, by rw [h.row.cell, rowA_at _ hi, e]⟩
/-- an answer that is no error -/
theorem LvPost.ok {L : List Nd → Nat → Nat → List Int} {gs : List Gr} {g : Gr} {k : Nat} {w w' : World} {e : Ending} (h : LvPost L gs k w e w') (hv : valid gs false) (hg : gs[k]? = some g) :
    Below w.heap.size w w' ∧ ∃ O vs, e = .returned (.tuple #[.slice (some ⟨O, 0, none⟩) g.nodes.length g.nodes.length, .int .i64 0]) ∧ w.heap.size ≤ O ∧ RdL w' w.heap.size O g.nodes.length vs (L g.nodes g.kinds.length) := by
  obtain ⟨hb, A, n, c, rfl, _, h0⟩ := h
  have hz : chkL gs k = 0 := by
    have := (List.getElem?_eq_some_iff.1 hg).1
    unfold chkL
    rw [if_pos hv, if_neg (by omega)]
  obtain ⟨O, vs, g2, h1, rfl, rfl, rfl, h2, h3⟩ := h0 hz
  rw [Int.toNat_natCast, hg] at h1
  injection h1 with h1
  subst h1
  exact ⟨hb, O, vs, by rw [hz], h2, h3⟩
set_option maxRecDepth 100000 in
set_option maxHeartbeats 3200000 in
theorem lfirst_any (w : World) (hT : TzTab w) : Calls Tryd.prog 6 #[] w fun e w' => e = .returned (.bool true) ∧ Below w.heap.size w w' := by
  obtain ⟨W, hW⟩ : ∃ W, W = ((((w.alloc (.cells lcK 60)).alloc (.cells lcN 64)).alloc (.cells (lcG w.heap.size) 37)).alloc (.cells #[.slice (some ⟨w.heap.size + 1 + 1, 0, none⟩) 1 1] 24)) := ⟨_, rfl⟩
  have hz : W.heap.size = w.heap.size + 4 := by rw [hW]; simp
  have hbw : Below w.heap.size w W := by
    rw [hW]
    exact ((((Below.refl _ _).alloc (Nat.le_refl _) _).alloc (by simp) _).alloc (by simp; omega) _).alloc (by simp; omega) _
  have b0 : Blk W w.heap.size 60 lcK := by
    rw [hW]
    exact (((Blk.new w _ _).alloc _).alloc _).alloc _
  have b1 : Blk W (w.heap.size + 1) 64 lcN := by
    have h := Blk.new (w.alloc (.cells lcK 60)) 64 lcN
    rw [show (w.alloc (.cells lcK 60)).heap.size = w.heap.size + 1 by simp] at h
    rw [hW]
    exact (h.alloc _).alloc _
  have b2 : Blk W (w.heap.size + 2) 37 (lcG w.heap.size) := by
    have h := Blk.new ((w.alloc (.cells lcK 60)).alloc (.cells lcN 64)) 37 (lcG w.heap.size)
    rw [show ((w.alloc (.cells lcK 60)).alloc (.cells lcN 64)).heap.size = w.heap.size + 2 by simp] at h
    rw [hW]
    exact h.alloc _
  have b3 : Blk W (w.heap.size + 1 + 1 + 1) 24 #[.slice (some ⟨w.heap.size + 1 + 1, 0, none⟩) 1 1] := by
    have h := Blk.new (((w.alloc (.cells lcK 60)).alloc (.cells lcN 64)).alloc (.cells (lcG w.heap.size) 37)) 24 #[.slice (some ⟨w.heap.size + 1 + 1, 0, none⟩) 1 1]
    rw [show (((w.alloc (.cells lcK 60)).alloc (.cells lcN 64)).alloc (.cells (lcG w.heap.size) 37)).heap.size = w.heap.size + 1 + 1 + 1 by simp] at h
    rw [hW]
    exact h
  have HRD := Lib.hid (lrd b0 b1 b2)
  have HB3 := Lib.hid b3
  have HBW := Lib.hid hbw
  have HZ := Lib.hid hz
  have HT := Lib.hid hT
  have HIN := Lib.hid (in_live (w.heap.size + 3) (some ⟨w.heap.size + 1 + 1, 0, none⟩) 1 1 [lrg w.heap.size] 0 W HRD.out (by omega) (hT.below hbw))
  have HOU : Hid (∀ W2, Below W.heap.size W W2 → Calls Tryd.prog 8 #[.agg #[.slice (some ⟨w.heap.size + 1 + 1, 0, none⟩) 1 1], .int .i64 0] W2 (LvPost liveOL [lgr] 0 W2)) := Lib.hid fun W2 hb => out_live (w.heap.size + 3) (some ⟨w.heap.size + 1 + 1, 0, none⟩) 1 1 [lrg w.heap.size] 0 W2 (HRD.out.below (hb.mono (by omega))) (by have := hb.size; omega) ((HT.out.below HBW.out).below hb)
  have z0 : W.cell? ⟨w.heap.size + 1 + 1 + 1, 0, none⟩ = some (.slice (some ⟨w.heap.size + 1 + 1, 0, none⟩) 1 1) := b3.cell 0
  clear b0 b1 b2 b3 hbw hz hT
  go_enter Tryd.func6, Tryd.ntmps6
  go_upto_region 2 with fail
  unfold lcK lcN lcG at hW
  rw [← hW]
  clear hW
  obtain ⟨p2, hp2⟩ : ∃ p, p = w.heap.size + 1 + 1 := ⟨_, rfl⟩
  obtain ⟨p3, hp3⟩ : ∃ p, p = p2 + 1 := ⟨_, rfl⟩
  rw [← hp2] at HIN HOU HB3 z0 ⊢
  rw [← hp3] at HB3 z0 ⊢
  clear hp2 hp3
  go_wp2_with (first
    | (go_at_call 7; refine HIN.out.mono ?_; rintro e w2 hl; obtain ⟨hb2, O, vs, rfl, hO, hr2⟩ := hl.ok (k := 0) (g := lgr) lvalid rfl; have HB2 := Lib.hid hb2; have HR2 := Lib.hid hr2; have z2 : w2.cell? ⟨p3, 0, none⟩ = some (.slice (some ⟨p2, 0, none⟩) 1 1) := (HB3.out.below hb2 HB3.out.lt).cell 0; clear hb2 hr2 hl)
    | (go_at_call 8; refine (HOU.out _ HB2.out).mono ?_; rintro e w3 hl; obtain ⟨hb3, O3, vs3, rfl, hO3, hr3⟩ := hl.ok (k := 0) (g := lgr) lvalid rfl; have HR2b := Lib.hid (HR2.out.on hb3); obtain ⟨A0, c0, h0⟩ := HR2b.out.at_ (i := 0) (by decide); obtain ⟨A1, c1, h1⟩ := HR2b.out.at_ (i := 1) (by decide); obtain ⟨A2, c2, h2⟩ := hr3.at_ (i := 0) (by decide); obtain ⟨A3, c3, h3⟩ := hr3.at_ (i := 1) (by decide); rw [show liveL lgr.nodes lgr.kinds.length 0 = [] from liveL_one.2 lv0] at h0; rw [show liveL lgr.nodes lgr.kinds.length 1 = [0] from liveL_one.1 lv1] at h1; rw [show liveOL lgr.nodes lgr.kinds.length 0 = [0] from liveOL_one.1 lo0] at h2; rw [show liveOL lgr.nodes lgr.kinds.length 1 = [] from liveOL_one.2 lo1] at h3; have HB5 := Lib.hid hb3; clear hb3 hr3 hl))
  go_ret
  exact ⟨rfl, HBW.out.trans ((HB2.out.trans (HB5.out.mono HB2.out.size)).mono (by rw [HZ.out]; omega))⟩
end Go.Proofs.YtmfdaeicbaibeaaDoor

/-
  The document's words for which graphs are right, as plain facts, and that they say the same.
-/
namespace Go.Proofs.YtmfdaeicbaibeaaDoor
set_option linter.unusedVariables false

/-- what the document asks of D, E, A, B: n (110) a number, p (112) a pointer -/
def wantOf (op : Int) : List Int :=
  if op = 1 then [110, 45, 45, 45] else if op = 2 then [61, 45, 61, 45] else if op = 3 then [110, 45, 110, 110] else if op = 4 then [110, 45, 45, 45]
  else if op = 5 then [45, 45, 110, 45] else if op = 6 then [112, 45, 45, 45] else if op = 7 then [110, 45, 112, 45] else if op = 8 then [45, 45, 112, 110]
  else if op = 9 then [45, 45, 110, 45] else if op = 10 then [45, 45, 45, 45] else if op = 11 then [45, 45, 45, 45] else if op = 12 then [45, 45, 45, 45]
  else if op = 13 then [45, 45, 45, 45] else if op = 14 then [45, 45, 110, 45] else if op = 15 then [110, 110, 45, 45] else if op = 16 then [110, 45, 45, 45]
  else [45, 45, 110, 45]
def asked (ks : List Int) (bd : Bool) (c p : Int) : Prop := (c = 110 → fits ks bd p 0) ∧ (c = 112 → fits ks bd p 1)
def restOf (gs : List Gr) (g : Gr) (bd : Bool) (n : Nd) : Prop :=
  if n.op = 2 then (fits g.kinds bd n.d 0 ∧ fits g.kinds bd n.a 0) ∨ (fits g.kinds bd n.d 1 ∧ fits g.kinds bd n.a 1)
  else if n.op = 3 then 7 ≤ n.bop ∧ n.bop ≤ 20
  else if n.op = 4 ∨ n.op = 5 ∨ n.op = 6 then isOne n.cell g.cells
  else if n.op = 15 then n.d ≠ n.e
  else if n.op = 12 then (if n.a = -1 then g.result = false else g.result = true ∧ fits g.kinds bd n.a 0)
  else if n.op = 11 then hands gs g bd n.f n.args ∧ gets gs g bd n.f n.d
  else if n.op = 13 then hands gs g bd n.f n.args
  else True
instance (gs : List Gr) (g : Gr) (bd : Bool) (n : Nd) : Decidable (restOf gs g bd n) := by unfold restOf; infer_instance
def rnode (gs : List Gr) (g : Gr) (bd : Bool) (n : Nd) : Prop :=
  (1 ≤ n.op ∧ n.op ≤ 18) ∧ (∀ x ∈ nextsOf n, isOne x g.nodes.length) ∧ (∀ i, i < 4 → asked g.kinds bd ((wantOf n.op).getD i 45) ([n.d, n.e, n.a, n.b].getD i 0)) ∧ restOf gs g bd n
theorem all4 (Q : Nat → Prop) : (∀ i, i < 4 → Q i) ↔ Q 0 ∧ Q 1 ∧ Q 2 ∧ Q 3 :=
  ⟨fun h => ⟨h 0 (by omega), h 1 (by omega), h 2 (by omega), h 3 (by omega)⟩, fun ⟨h0, h1, h2, h3⟩ i hi => by
    match i, hi with
    | 0, _ => exact h0
    | 1, _ => exact h1
    | 2, _ => exact h2
    | 3, _ => exact h3⟩
theorem fits_one {ks : List Int} {bd : Bool} {p k : Int} (h : fits ks bd p k) : isOne p ks.length := h.1
theorem kind_mem {ks : List Int} {p : Int} (h : isOne p ks.length) : kindAt ks p ∈ ks := by
  unfold kindAt
  have hl : p.toNat < ks.length := by have := h.1; have := h.2; omega
  rw [List.getD_eq_getElem?_getD, List.getElem?_eq_getElem hl]
  exact List.getElem_mem hl
theorem move_eq {ks : List Int} {bd : Bool} {d a : Int} (hk : ∀ k ∈ ks, k = 0 ∨ k = 1) :
    ((fits ks bd d 0 ∧ fits ks bd a 0) ∨ (fits ks bd d 1 ∧ fits ks bd a 1)) ↔ isOne a ks.length ∧ fits ks bd d (kindAt ks a) := by
  cases bd
  · constructor
    · rintro (⟨h1, h2⟩ | ⟨h1, h2⟩)
      · have e : kindAt ks a = 0 := by rcases h2.2 with h | h; cases h; exact h
        rw [e]; exact ⟨h2.1, h1⟩
      · have e : kindAt ks a = 1 := by rcases h2.2 with h | h; cases h; exact h
        rw [e]; exact ⟨h2.1, h1⟩
    · rintro ⟨h1, h2⟩
      rcases hk _ (kind_mem h1) with h | h
      · rw [h] at h2; exact .inl ⟨h2, h1, .inr h⟩
      · rw [h] at h2; exact .inr ⟨h2, h1, .inr h⟩
  · constructor
    · rintro (⟨h1, h2⟩ | ⟨h1, h2⟩)
      · exact ⟨h2.1, h1.1, .inl rfl⟩
      · exact ⟨h2.1, h1.1, .inl rfl⟩
    · rintro ⟨h1, h2⟩
      exact .inl ⟨⟨h2.1, .inl rfl⟩, h1, .inl rfl⟩
theorem ret_eq {ks : List Int} {bd : Bool} {a : Int} {r : Bool} : (if a = -1 then r = false else r = true ∧ fits ks bd a 0) ↔ (if r = true then fits ks bd a 0 else a = -1) := by
  by_cases h : a = -1
  · rw [if_pos h]
    cases r
    · simp [h]
    · rw [if_pos rfl]
      constructor
      · intro h1; cases h1
      · intro h1; exfalso; have := h1.1.1; omega
  · rw [if_neg h]
    cases r
    · simp [h]
    · simp
theorem rnode_eq {gs : List Gr} {g : Gr} {bd : Bool} {n : Nd} (hk : ∀ k ∈ g.kinds, k = 0 ∨ k = 1) (h0 : 0 ≤ n.op) (h1 : n.op ≤ 255) : rnode gs g bd n ↔ nodeHolds gs g bd n := by
  obtain ⟨op, bop, d, e, a, b, f, cell, imm, args, nx, el⟩ := n
  have h0 : 0 ≤ op := h0
  have h1 : op ≤ 255 := h1
  unfold rnode nodeHolds
  rw [all4]
  have hm := @move_eq g.kinds bd d a hk
  have hr := @ret_eq g.kinds bd a g.result
  rcases op_cases h0 h1 with rfl | rfl | rfl | rfl | rfl | rfl | rfl | rfl | rfl | rfl | rfl | rfl | rfl | rfl | rfl | rfl | rfl | rfl | h
  case inr.inr.inr.inr.inr.inr.inr.inr.inr.inr.inr.inr.inr.inr.inr.inr.inr.inr =>
    constructor
    · rintro ⟨⟨h2, h3⟩, _⟩
      have h2 : 1 ≤ op := h2
      have h3 : op ≤ 18 := h3
      omega
    · rintro ⟨h2, _⟩
      exfalso
      unfold uses at h2
      simp only at h2
      repeat (rw [if_neg (by omega)] at h2)
      exact h2
  case inl => simp [asked, wantOf, restOf, uses, and_comm]
  case inr.inl => simp only [restOf, uses, if_pos]; rw [hm]; simp [asked, wantOf, and_comm]
  all_goals first
    | (simp [asked, wantOf, restOf, uses, and_comm, and_assoc]; done)
    | (simp [asked, wantOf, restOf, uses, hr, and_comm]; done)
    | skip

/-- what the document asks of a parameter -/
def rparam (g : Gr) (bd : Bool) (i : Nat) : Prop :=
  isOne (g.params.getD i 0) g.kinds.length ∧ g.params.getD i 0 ∉ g.params.take i ∧ (bd = true → g.params.getD i 0 = i) ∧
    -1 ≤ g.init.getD i 0 ∧ g.init.getD i 0 < g.cells ∧ (0 ≤ g.init.getD i 0 → fits g.kinds bd (g.params.getD i 0) 0)
def rhead (g : Gr) (bd : Bool) : Prop :=
  g.kinds.length ≤ 1024 ∧ (bd = true → 16 ≤ g.kinds.length) ∧ g.params.length ≤ 4 ∧ g.init.length = g.params.length ∧ 0 ≤ g.cells ∧ g.cells ≤ 64 ∧ -1 ≤ g.keep ∧ g.keep < g.cells ∧
    (∀ k ∈ g.kinds, k ≤ 1) ∧ (∀ i, i < g.params.length → rparam g bd i) ∧ 1 ≤ g.nodes.length ∧ g.nodes.length ≤ 4096 ∧ isOne g.entry g.nodes.length
theorem not_take {l : List Int} {i : Nat} (h : ∀ j, j < l.length → l.getD j 0 = j) (hi : i < l.length) : l.getD i 0 ∉ l.take i := by
  intro hm
  obtain ⟨j, hj, e⟩ := List.mem_iff_getElem.1 hm
  rw [List.length_take] at hj
  rw [List.getElem_take] at e
  have h1 := h j (by omega)
  have h2 := h i hi
  rw [List.getD_eq_getElem?_getD, List.getElem?_eq_getElem (by omega)] at h1
  simp only [Option.getD_some] at h1
  rw [h1, h2] at e
  omega
theorem rhead_eq {g : Gr} {bd : Bool} (hb : Byt g.kinds) : rhead g bd ↔ headHolds g bd := by
  obtain ⟨ps, ks, cells, is, res, keep, nodes, entry⟩ := g
  have hb : Byt ks := hb
  constructor
  · rintro ⟨h1, h2, h3, h4, h5, h6, h7, h8, h9, h10, h11, h12, h13⟩
    have h10 : ∀ i, i < ps.length → rparam ⟨ps, ks, cells, is, res, keep, nodes, entry⟩ bd i := h10
    have h3 : ps.length ≤ 4 := h3
    have h4 : is.length = ps.length := h4
    have h7 : -1 ≤ keep := h7
    have h8 : keep < cells := h8
    refine ⟨⟨h1, h2, fun k hk => ?_⟩, h5, h6, ⟨h3, ?_⟩, ⟨h4, fun i hi => ?_⟩, ?_, h12, h13⟩
    · have := (hb k hk).1; have := h9 k hk; omega
    · show if bd = true then inOrder ps else ∀ i, i < ps.length → isOne (ps.getD i 0) ks.length ∧ ps.getD i 0 ∉ ps.take i
      cases bd
      · rw [if_neg (by decide)]
        intro i hi
        exact ⟨(h10 i hi).1, (h10 i hi).2.1⟩
      · rw [if_pos rfl]
        intro i hi
        exact (h10 i hi).2.2.1 rfl
    · have hi : i < is.length := hi
      obtain ⟨k1, k2, k3, k4, k5, k6⟩ := h10 i (by omega)
      have k4 : -1 ≤ is.getD i 0 := k4
      have k5 : is.getD i 0 < cells := k5
      by_cases hn : is.getD i 0 = -1
      · exact .inl hn
      · have k0 : 0 ≤ is.getD i 0 := by omega
        exact .inr ⟨⟨k0, k5⟩, (k6 k0).2⟩
    · show keep = -1 ∨ isOne keep cells
      by_cases hn : keep = -1
      · exact .inl hn
      · exact .inr ⟨by omega, h8⟩
  · rintro ⟨⟨h1, h2, h9⟩, h5, h6, ⟨h3, h10⟩, ⟨h4, h11⟩, h7, h12, h13⟩
    have h3 : ps.length ≤ 4 := h3
    have h4 : is.length = ps.length := h4
    have h5 : 0 ≤ cells := h5
    have h7 : keep = -1 ∨ isOne keep cells := h7
    have h10 : if bd = true then inOrder ps else ∀ i, i < ps.length → isOne (ps.getD i 0) ks.length ∧ ps.getD i 0 ∉ ps.take i := h10
    have h13' : isOne entry nodes.length := h13
    have h2' : bd = true → 16 ≤ ks.length := h2
    refine ⟨h1, h2, h3, h4, h5, h6, ?_, ?_, fun k hk => ?_, fun i hi => ?_, ?_, h12, h13⟩
    · show -1 ≤ keep
      rcases h7 with h | h
      · omega
      · have := h.1; omega
    · show keep < cells
      rcases h7 with h | h
      · omega
      · exact h.2
    · rcases h9 k hk with h | h <;> omega
    · have hi : i < ps.length := hi
      have h14 := h11 i (by show i < is.length; omega)
      have hone : isOne (ps.getD i 0) ks.length ∧ ps.getD i 0 ∉ ps.take i ∧ (bd = true → ps.getD i 0 = i) := by
        cases bd
        · rw [if_neg (by decide)] at h10
          exact ⟨(h10 i hi).1, (h10 i hi).2, fun h => by cases h⟩
        · rw [if_pos rfl] at h10
          have h15 := h10 i hi
          have h16 := h2' rfl
          refine ⟨?_, not_take h10 hi, fun _ => h15⟩
          rw [h15]
          exact ⟨by omega, by omega⟩
      refine ⟨hone.1, hone.2.1, hone.2.2, ?_, ?_, fun h0 => ⟨hone.1, ?_⟩⟩
      · show -1 ≤ is.getD i 0
        rcases h14 with h | h
        · have h : is.getD i 0 = -1 := h
          omega
        · have := h.1.1; have h : 0 ≤ is.getD i 0 := this; omega
      · show is.getD i 0 < cells
        rcases h14 with h | h
        · have h : is.getD i 0 = -1 := h
          omega
        · exact h.1.2
      · rcases h14 with h | h
        · exfalso
          have h : is.getD i 0 = -1 := h
          have h0 : 0 ≤ is.getD i 0 := h0
          omega
        · exact h.2
    · show 1 ≤ nodes.length
      have := h13'.1; have := h13'.2; omega
end Go.Proofs.YtmfdaeicbaibeaaDoor

/-
  Package ir: newList; what a copy of graphs is in memory.
-/
namespace Go.Proofs.YtmfdaeicbaibeaaDoor
set_option linter.unusedVariables false
set_option linter.unusedSimpArgs false
open Go.ChangeShapes Go.WideShapes Go.ChangeAt Go.RowKit




theorem own_set {w : World} {base size n c g i : Nat} {e : TypeId} {xs : List Value} {u : Value} (h : w.ownsRow base e size (.slice (some ⟨g, 0, none⟩) n c) n xs) : (w.setCell ⟨g, i, none⟩ u).ownsRow base e size (.slice (some ⟨g, 0, none⟩) n c) n (xs.set i u) := by
  obtain ⟨h1, h2⟩ := h
  refine ⟨by rw [List.length_set]; exact h1, ?_⟩
  rcases h2 with ⟨h2, _⟩ | ⟨g', cap, cur, he, hg, hb, hn, hm, hc, ht⟩
  · cases h2
  · injection he with he hc1 hc2
    injection he with he
    injection he with he
    subst he hc2
    refine .inr ⟨g, c, cur.setIfInBounds i u, rfl, hg, Blk.set_ (t := e) (cs := cur) hb i u, hn, hm, by simpa using hc, ?_⟩
    rw [← ht]
    simp [List.take_set]
theorem own_at {w : World} {base size n c i : Nat} {e : TypeId} {A : Option Addr} {xs : List Value} {u : Value} (h : w.ownsRow base e size (.slice A n c) n xs) (hu : xs[i]? = some u) : ∃ g, A = some ⟨g, 0, none⟩ ∧ base ≤ g ∧ g < w.heap.size ∧ w.cell? ⟨g, i, none⟩ = some u ∧ w.frozen? ⟨g, i, none⟩ = false := by
  have hl := (List.getElem?_eq_some_iff.1 hu).1
  rcases h.2 with ⟨h2, h3⟩ | ⟨g, cap, cur, he, hg, hb, hn, hm, hc, ht⟩
  · exfalso
    have := h.1
    rw [h3, Nat.zero_mul] at this
    omega
  · injection he with he
    have hB : Blk w g e cur := hb
    refine ⟨g, he, hg, hB.lt, ?_, hB.frozen i⟩
    rw [hB.cell]
    rw [← ht, List.getElem?_take] at hu
    split at hu
    · rw [← Array.getElem?_toList]; exact hu
    · cases hu
/-- a node whose arguments are the call's own -/
def OwnN (w : World) (base : Nat) (i : RN) : Prop := w.ownsRow base 3 1 (.slice i.ao i.nd.args.length i.ac) i.nd.args.length (i64c i.nd.args)
/-- a graph whose rows are the call's own -/
structure OwnG (w : World) (base : Nat) (r : RG) : Prop where
  params : w.ownsRow base 3 1 (.slice r.po r.gr.params.length r.pc) r.gr.params.length (i64c r.gr.params)
  kinds : w.ownsRow base 60 1 (.slice r.ko r.gr.kinds.length r.kc) r.gr.kinds.length (u8c r.gr.kinds)
  init : w.ownsRow base 3 1 (.slice r.io r.gr.init.length r.ic) r.gr.init.length (i64c r.gr.init)
  nodes : w.ownsRow base 64 12 (.slice r.no r.gr.nodes.length r.nc) r.gr.nodes.length (rnc r.ns)
  each : ∀ i ∈ r.ns, OwnN w base i
  nd : nds r.ns = r.gr.nodes
theorem own_below {w w' : World} {base size n : Nat} {e : TypeId} {v : Value} {xs : List Value} (h : w.ownsRow base e size v n xs) (hb : Below w.heap.size w w') : w'.ownsRow base e size v n xs :=
  own_kept h fun i hi => hb.block i (own_block_le h hi).2
theorem OwnN.below {w w' : World} {base : Nat} {i : RN} (h : OwnN w base i) (hb : Below w.heap.size w w') : OwnN w' base i := own_below h hb
theorem OwnG.below {w w' : World} {base : Nat} {r : RG} (h : OwnG w base r) (hb : Below w.heap.size w w') : OwnG w' base r :=
  ⟨own_below h.params hb, own_below h.kinds hb, own_below h.init hb, own_below h.nodes hb, fun i hi => (h.each i hi).below hb, h.nd⟩
theorem OwnG.more {w : World} {base base' : Nat} {r : RG} (h : OwnG w base r) (hb : base' ≤ base) : OwnG w base' r :=
  ⟨own_more h.params hb, own_more h.kinds hb, own_more h.init hb, own_more h.nodes hb, fun i hi => own_more (h.each i hi) hb, h.nd⟩
theorem OwnG.rd {w : World} {base : Nat} {r : RG} (h : OwnG w base r) (hw : WfG r.gr) : RdG w w.heap.size r := by
  refine ⟨Reads.of_own h.params, Reads.of_own h.kinds, Reads.of_own h.init, ⟨Reads.of_own h.nodes, by rw [← length_nds, h.nd], fun i hi => ⟨Reads.of_own (h.each i hi), own_cap (h.each i hi)⟩, fun i hi => hw.nodes _ (by rw [← h.nd]; exact List.mem_map_of_mem hi)⟩, h.nd, own_cap h.params⟩
/-- rows of nodes: one node's arguments laid anew -/
theorem rnc_set {ns : List RN} {k : Nat} {i : RN} (h : ns[k]? = some i) (ao : Option Addr) (ac : Nat) : (rnc ns).set (k * 12 + 9) (.slice ao i.nd.args.length ac) = rnc (ns.set k ⟨i.nd, ao, ac⟩) := by
  induction ns generalizing k with
  | nil => cases h
  | cons x ns ih =>
    cases k with
    | zero =>
      obtain rfl : x = i := by simpa using h
      show (rnOne x ++ rnc ns).set (0 * 12 + 9) _ = rnOne _ ++ rnc ns
      rfl
    | succ k =>
      show (rnOne x ++ rnc ns).set ((k + 1) * 12 + 9) _ = rnOne x ++ rnc (ns.set k _)
      rw [← ih (by simpa using h), List.set_append_right _ _ (by show 12 ≤ _; omega)]
      congr 2
      show (k + 1) * 12 + 9 - 12 = _
      omega
end Go.Proofs.YtmfdaeicbaibeaaDoor

/-
  Package ir: copyGraph.
-/
namespace Go.Proofs.YtmfdaeicbaibeaaDoor
set_option linter.unusedVariables false
set_option linter.unusedSimpArgs false
open Go.ChangeShapes Go.WideShapes Go.ChangeAt Go.RowKit

theorem own_blk {w : World} {base size n c g : Nat} {e : TypeId} {xs : List Value} (h : w.ownsRow base e size (.slice (some ⟨g, 0, none⟩) n c) n xs) : ∃ cur, Blk w g e cur := by
  rcases h.2 with ⟨h2, _⟩ | ⟨g', cap, cur, he, _, hb, _⟩
  · cases h2
  · injection he with he
    injection he with he
    injection he with he
    subst he
    exact ⟨cur, hb⟩
/-- copyGraph's loop -/
structure CgI (w : World) (r : RG) (Ap Ak Ai An : Option Addr) (cp ck ci cn nP nK nI nN : Nat) (k : Nat) (ns : List RN) (wr : World) : Prop where
  box : Blk wr w.heap.size 37 #[.slice Ap nP cp, .slice Ak nK ck, .int .i64 r.gr.cells, .slice Ai nI ci, .bool r.gr.result, .int .i64 r.gr.keep, .slice An nN cn, .int .i64 r.gr.entry]
  res : Blk wr (w.heap.size + 1) 37 #[.slice none 0 0, .slice none 0 0, .int .i64 0, .slice none 0 0, .bool false, .int .i64 0, .slice none 0 0, .int .i64 0]
  params : wr.ownsRow w.heap.size 3 1 (.slice Ap nP cp) nP (i64c r.gr.params)
  kinds : wr.ownsRow w.heap.size 60 1 (.slice Ak nK ck) nK (u8c r.gr.kinds)
  init : wr.ownsRow w.heap.size 3 1 (.slice Ai nI ci) nI (i64c r.gr.init)
  nodes : wr.ownsRow w.heap.size 64 12 (.slice An nN cn) nN (rnc ns)
  nd : nds ns = r.gr.nodes
  new : ∀ j i, j < k → ns[j]? = some i → OwnN wr w.heap.size i
  old : ∀ j, k ≤ j → ns[j]? = r.ns[j]?
  below : Below w.heap.size w wr
theorem CgI.step {w : World} {r : RG} {Ap Ak Ai An : Option Addr} {cp ck ci cn nP nK nI nN k g c' : Nat} {A' : Option Addr} {ns : List RN} {wr w2 : World} {i : RN} (h : CgI w r Ap Ak Ai An cp ck ci cn nP nK nI nN k ns wr) (hi : ns[k]? = some i) (hA : An = some ⟨g, 0, none⟩) (hb : Below wr.heap.size wr w2)
    (ho : w2.ownsRow wr.heap.size 3 1 (.slice A' i.nd.args.length c') i.nd.args.length (i64c i.nd.args)) :
    CgI w r Ap Ak Ai An cp ck ci cn nP nK nI nN (k + 1) (ns.set k ⟨i.nd, A', c'⟩) (w2.setCell ⟨g, k * 12 + 9, none⟩ (.slice A' i.nd.args.length c')) := by
  subst hA
  have hn2 := own_below h.nodes hb
  obtain ⟨cur, hcur⟩ := own_blk hn2
  have hx2 := h.box.below hb h.box.lt
  have hy2 := h.res.below hb h.res.lt
  have hz := h.below.size
  have hbl2 := h.below.trans (hb.mono hz)
  have hkl : k < ns.length := (List.getElem?_eq_some_iff.1 hi).1
  have hgb : w.heap.size ≤ g := (own_block_le hn2 (i := g) (by rfl)).1
  refine ⟨hx2.far (p := ⟨g, k * 12 + 9, none⟩) (hx2.ne_ hcur (by decide)) _, hy2.far (p := ⟨g, k * 12 + 9, none⟩) (hy2.ne_ hcur (by decide)) _, own_far (own_below h.params hb) hcur (by decide) _ _, own_far (own_below h.kinds hb) hcur (by decide) _ _, own_far (own_below h.init hb) hcur (by decide) _ _, ?_, ?_, ?_, ?_, hbl2.setCell (p := ⟨g, k * 12 + 9, none⟩) hgb _⟩
  · have := own_set (i := k * 12 + 9) (u := .slice A' i.nd.args.length c') hn2
    rwa [rnc_set hi] at this
  · rw [← h.nd]
    unfold nds
    rw [List.map_set]
    show (ns.map RN.nd).set k i.nd = _
    refine List.ext_getElem? fun j => ?_
    rw [List.getElem?_set]
    split
    · rename_i hkj
      subst hkj
      rw [List.getElem?_map, hi]
      simp [hkl]
    · rfl
  · intro j i' hj hij
    rw [List.getElem?_set] at hij
    split at hij
    · rename_i hkj
      subst hkj
      injection hij with hij
      subst hij
      exact own_far (own_more ho hz) hcur (by decide) _ _
    · rename_i hkj
      exact own_far (own_below (h.new j i' (by omega) hij) hb) hcur (by decide) _ _
  · intro j hj
    rw [List.getElem?_set, if_neg (by omega)]
    exact h.old j (by omega)
theorem OwnG.set {w : World} {base p j : Nat} {r : RG} {u : Value} {cs : Array Value} (h : OwnG w base r) (hb : Blk w p 37 cs) : OwnG (w.setCell ⟨p, j, none⟩ u) base r :=
  ⟨own_far h.params hb (by decide) _ _, own_far h.kinds hb (by decide) _ _, own_far h.init hb (by decide) _ _, own_far h.nodes hb (by decide) _ _, fun i hi => own_far (h.each i hi) hb (by decide) _ _, h.nd⟩
theorem CgI.all8 {w : World} {base p : Nat} {r : RG} {cs : Array Value} (h : OwnG w base r) (hb : Blk w p 37 cs) (u0 u1 u2 u3 u4 u5 u6 u7 : Value) :
    OwnG ((((((((w.setCell ⟨p, 0, none⟩ u0).setCell ⟨p, 1, none⟩ u1).setCell ⟨p, 2, none⟩ u2).setCell ⟨p, 3, none⟩ u3).setCell ⟨p, 4, none⟩ u4).setCell ⟨p, 5, none⟩ u5).setCell ⟨p, 6, none⟩ u6).setCell ⟨p, 7, none⟩ u7) base r := by
  have b0 := hb.set_ 0 u0
  have b1 := b0.set_ 1 u1
  have b2 := b1.set_ 2 u2
  have b3 := b2.set_ 3 u3
  have b4 := b3.set_ 4 u4
  have b5 := b4.set_ 5 u5
  have b6 := b5.set_ 6 u6
  exact (((((((h.set hb).set b0).set b1).set b2).set b3).set b4).set b5).set b6
theorem blk_2nd (w : World) (a b : Array Value) (s t : TypeId) : Blk ((w.alloc (.cells a s)).alloc (.cells b t)) (w.heap.size + 1) t b := by
  have := Blk.new (w.alloc (.cells a s)) t b
  rwa [show (w.alloc (.cells a s)).heap.size = w.heap.size + 1 by simp] at this
end Go.Proofs.YtmfdaeicbaibeaaDoor

/-
  The document's fits and want.
-/
namespace Go.Proofs.YtmfdaeicbaibeaaDoor
set_option linter.unusedVariables false
set_option linter.unusedSimpArgs false
open Go.ChangeShapes Go.WideShapes Go.ChangeAt Go.RowKit

set_option maxRecDepth 100000 in
set_option maxHeartbeats 3200000 in
theorem rfits_any (B : Nat) (ks : List Int) (po ko io no : Option Addr) (nP pc nK kc nI ic nN nc : Nat) (cells keep entry : Int) (res bd : Bool) (p k : Int) (w : World) (hk : Reads w B 1 ko nK (u8c ks)) (hkl : ks.length = nK) (hnb : nK ≤ 140737488351232) (hB : B ≤ w.heap.size) :
    Calls Tryd.prog 46 #[.agg #[.slice po nP pc, .slice ko nK kc, .int .i64 cells, .slice io nI ic, .bool res, .int .i64 keep, .slice no nN nc, .int .i64 entry], .bool bd, .int .i64 p, .int .u8 k] w fun e w' => e = .returned (.bool (decide (fits ks bd p k))) ∧ Below w.heap.size w w' := by
  have HBL : Hid (Below w.heap.size w (w.alloc (.cells #[.slice po nP pc, .slice ko nK kc, .int .i64 cells, .slice io nI ic, .bool res, .int .i64 keep, .slice no nN nc, .int .i64 entry] 37))) := (Below.refl _ _).alloc (Nat.le_refl _) _
  have HK := Lib.hid (hk.below (HBL.out.mono hB))
  have HKL := Lib.hid hkl
  clear hk hkl
  by_cases h0 : 0 ≤ p
  rotate_left
  · have HD : Hid (decide (fits ks bd p k) = false) := Lib.hid (by rw [decide_eq_false_iff_not]; rintro ⟨h, _⟩; exact h0 h.1)
    have g0 : decide (p ≥ 0) = false := by simp; omega
    clear h0
    go_enter Tryd.func46, Tryd.ntmps46
    go_wp2
    go_ret
    exact ⟨by rw [HD.out]; rfl, HBL.out⟩
  have g0 : decide (p ≥ 0) = true := by simp; omega
  by_cases h1 : p < nK
  rotate_left
  · have HD : Hid (decide (fits ks bd p k) = false) := Lib.hid (by rw [decide_eq_false_iff_not]; rintro ⟨h, _⟩; have := h.2; rw [HKL.out] at this; exact h1 this)
    have g1 : decide (p < (nK : Int)) = false := by simp; omega
    clear h0 h1
    go_enter Tryd.func46, Tryd.ntmps46
    go_wp2
    go_ret
    exact ⟨by rw [HD.out]; rfl, HBL.out⟩
  have g1 : decide (p < (nK : Int)) = true := by simp; omega
  have HO : Hid (isOne p ks.length) := Lib.hid ⟨h0, by rw [HKL.out]; exact h1⟩
  cases bd
  rotate_left
  · have HD : Hid (decide (fits ks true p k) = true) := Lib.hid (by rw [decide_eq_true_eq]; exact ⟨HO.out, .inl rfl⟩)
    clear h0 h1
    go_enter Tryd.func46, Tryd.ntmps46
    go_wp2
    go_ret
    exact ⟨by rw [HD.out]; rfl, HBL.out⟩
  obtain ⟨j, rfl⟩ : ∃ j : Nat, p = (j : Int) := ⟨p.toNat, by omega⟩
  have hj : j < nK := by omega
  obtain ⟨bk, off, x, rfl, hbk, HX, x1⟩ := HK.out.byte hj
  have HD : Hid ((x == k) = decide (fits ks false j k)) := Lib.hid (by
    have hx : kindAt ks j = x := by unfold kindAt; simp [List.getD, HX.out]
    rw [Bool.eq_iff_iff, beq_iff_eq, decide_eq_true_eq]
    unfold fits
    rw [hx]
    exact ⟨fun h => ⟨HO.out, .inr h⟩, fun h => by rcases h.2 with h2 | h2; cases h2; exact h2⟩)
  have g1n : decide (j < nK) = true := by simpa using hj
  cases hq : (x == k)
  all_goals
    rw [hq] at HD
    go_enter Tryd.func46, Tryd.ntmps46
    go_wp2
    go_ret
    exact ⟨by rw [← HD.out]; rfl, HBL.out⟩

set_option maxRecDepth 100000 in
theorem rwant_1 (w : World) : Calls Tryd.prog 47 #[.int .u8 1] w fun e w' => e = .returned (.string { data := #[110, 45, 45, 45] }) ∧ Below w.heap.size w w' := by
  go_enter Tryd.func47, Tryd.ntmps47
  go_wp2
  go_ret
  exact ⟨rfl, (Below.refl _ _).alloc (Nat.le_refl _) _⟩
set_option maxRecDepth 100000 in
theorem rwant_2 (w : World) : Calls Tryd.prog 47 #[.int .u8 2] w fun e w' => e = .returned (.string { data := #[61, 45, 61, 45] }) ∧ Below w.heap.size w w' := by
  go_enter Tryd.func47, Tryd.ntmps47
  go_wp2
  go_ret
  exact ⟨rfl, (Below.refl _ _).alloc (Nat.le_refl _) _⟩
set_option maxRecDepth 100000 in
theorem rwant_3 (w : World) : Calls Tryd.prog 47 #[.int .u8 3] w fun e w' => e = .returned (.string { data := #[110, 45, 110, 110] }) ∧ Below w.heap.size w w' := by
  go_enter Tryd.func47, Tryd.ntmps47
  go_wp2
  go_ret
  exact ⟨rfl, (Below.refl _ _).alloc (Nat.le_refl _) _⟩
set_option maxRecDepth 100000 in
theorem rwant_4 (w : World) : Calls Tryd.prog 47 #[.int .u8 4] w fun e w' => e = .returned (.string { data := #[110, 45, 45, 45] }) ∧ Below w.heap.size w w' := by
  go_enter Tryd.func47, Tryd.ntmps47
  go_wp2
  go_ret
  exact ⟨rfl, (Below.refl _ _).alloc (Nat.le_refl _) _⟩
set_option maxRecDepth 100000 in
theorem rwant_5 (w : World) : Calls Tryd.prog 47 #[.int .u8 5] w fun e w' => e = .returned (.string { data := #[45, 45, 110, 45] }) ∧ Below w.heap.size w w' := by
  go_enter Tryd.func47, Tryd.ntmps47
  go_wp2
  go_ret
  exact ⟨rfl, (Below.refl _ _).alloc (Nat.le_refl _) _⟩
set_option maxRecDepth 100000 in
theorem rwant_6 (w : World) : Calls Tryd.prog 47 #[.int .u8 6] w fun e w' => e = .returned (.string { data := #[112, 45, 45, 45] }) ∧ Below w.heap.size w w' := by
  go_enter Tryd.func47, Tryd.ntmps47
  go_wp2
  go_ret
  exact ⟨rfl, (Below.refl _ _).alloc (Nat.le_refl _) _⟩
set_option maxRecDepth 100000 in
theorem rwant_7 (w : World) : Calls Tryd.prog 47 #[.int .u8 7] w fun e w' => e = .returned (.string { data := #[110, 45, 112, 45] }) ∧ Below w.heap.size w w' := by
  go_enter Tryd.func47, Tryd.ntmps47
  go_wp2
  go_ret
  exact ⟨rfl, (Below.refl _ _).alloc (Nat.le_refl _) _⟩
set_option maxRecDepth 100000 in
theorem rwant_8 (w : World) : Calls Tryd.prog 47 #[.int .u8 8] w fun e w' => e = .returned (.string { data := #[45, 45, 112, 110] }) ∧ Below w.heap.size w w' := by
  go_enter Tryd.func47, Tryd.ntmps47
  go_wp2
  go_ret
  exact ⟨rfl, (Below.refl _ _).alloc (Nat.le_refl _) _⟩
set_option maxRecDepth 100000 in
theorem rwant_9 (w : World) : Calls Tryd.prog 47 #[.int .u8 9] w fun e w' => e = .returned (.string { data := #[45, 45, 110, 45] }) ∧ Below w.heap.size w w' := by
  go_enter Tryd.func47, Tryd.ntmps47
  go_wp2
  go_ret
  exact ⟨rfl, (Below.refl _ _).alloc (Nat.le_refl _) _⟩
set_option maxRecDepth 100000 in
theorem rwant_10 (w : World) : Calls Tryd.prog 47 #[.int .u8 10] w fun e w' => e = .returned (.string { data := #[45, 45, 45, 45] }) ∧ Below w.heap.size w w' := by
  go_enter Tryd.func47, Tryd.ntmps47
  go_wp2
  go_ret
  exact ⟨rfl, (Below.refl _ _).alloc (Nat.le_refl _) _⟩
set_option maxRecDepth 100000 in
theorem rwant_11 (w : World) : Calls Tryd.prog 47 #[.int .u8 11] w fun e w' => e = .returned (.string { data := #[45, 45, 45, 45] }) ∧ Below w.heap.size w w' := by
  go_enter Tryd.func47, Tryd.ntmps47
  go_wp2
  go_ret
  exact ⟨rfl, (Below.refl _ _).alloc (Nat.le_refl _) _⟩
set_option maxRecDepth 100000 in
theorem rwant_12 (w : World) : Calls Tryd.prog 47 #[.int .u8 12] w fun e w' => e = .returned (.string { data := #[45, 45, 45, 45] }) ∧ Below w.heap.size w w' := by
  go_enter Tryd.func47, Tryd.ntmps47
  go_wp2
  go_ret
  exact ⟨rfl, (Below.refl _ _).alloc (Nat.le_refl _) _⟩
set_option maxRecDepth 100000 in
theorem rwant_13 (w : World) : Calls Tryd.prog 47 #[.int .u8 13] w fun e w' => e = .returned (.string { data := #[45, 45, 45, 45] }) ∧ Below w.heap.size w w' := by
  go_enter Tryd.func47, Tryd.ntmps47
  go_wp2
  go_ret
  exact ⟨rfl, (Below.refl _ _).alloc (Nat.le_refl _) _⟩
set_option maxRecDepth 100000 in
theorem rwant_14 (w : World) : Calls Tryd.prog 47 #[.int .u8 14] w fun e w' => e = .returned (.string { data := #[45, 45, 110, 45] }) ∧ Below w.heap.size w w' := by
  go_enter Tryd.func47, Tryd.ntmps47
  go_wp2
  go_ret
  exact ⟨rfl, (Below.refl _ _).alloc (Nat.le_refl _) _⟩
set_option maxRecDepth 100000 in
theorem rwant_15 (w : World) : Calls Tryd.prog 47 #[.int .u8 15] w fun e w' => e = .returned (.string { data := #[110, 110, 45, 45] }) ∧ Below w.heap.size w w' := by
  go_enter Tryd.func47, Tryd.ntmps47
  go_wp2
  go_ret
  exact ⟨rfl, (Below.refl _ _).alloc (Nat.le_refl _) _⟩
set_option maxRecDepth 100000 in
theorem rwant_16 (w : World) : Calls Tryd.prog 47 #[.int .u8 16] w fun e w' => e = .returned (.string { data := #[110, 45, 45, 45] }) ∧ Below w.heap.size w w' := by
  go_enter Tryd.func47, Tryd.ntmps47
  go_wp2
  go_ret
  exact ⟨rfl, (Below.refl _ _).alloc (Nat.le_refl _) _⟩
set_option maxRecDepth 100000 in
theorem rwant_17 (w : World) : Calls Tryd.prog 47 #[.int .u8 17] w fun e w' => e = .returned (.string { data := #[45, 45, 110, 45] }) ∧ Below w.heap.size w w' := by
  go_enter Tryd.func47, Tryd.ntmps47
  go_wp2
  go_ret
  exact ⟨rfl, (Below.refl _ _).alloc (Nat.le_refl _) _⟩
set_option maxRecDepth 100000 in
theorem rwant_18 (w : World) : Calls Tryd.prog 47 #[.int .u8 18] w fun e w' => e = .returned (.string { data := #[45, 45, 110, 45] }) ∧ Below w.heap.size w w' := by
  go_enter Tryd.func47, Tryd.ntmps47
  go_wp2
  go_ret
  exact ⟨rfl, (Below.refl _ _).alloc (Nat.le_refl _) _⟩
end Go.Proofs.YtmfdaeicbaibeaaDoor

/-
  The document's node: which nodes are right (plain facts).
-/
namespace Go.Proofs.YtmfdaeicbaibeaaDoor
set_option linter.unusedVariables false
set_option linter.unusedSimpArgs false
open Go.ChangeShapes Go.WideShapes Go.ChangeAt Go.RowKit

theorem holds_split {gs : List Gr} {g : Gr} {bd : Bool} {n : Nd} (hk : ∀ k ∈ g.kinds, k = 0 ∨ k = 1) (h1 : 1 ≤ n.op) (h2 : n.op ≤ 18) :
    nodeHolds gs g bd n ↔ (∀ x ∈ nextsOf n, isOne x g.nodes.length) ∧ (∀ i, i < 4 → asked g.kinds bd ((wantOf n.op).getD i 45) ([n.d, n.e, n.a, n.b].getD i 0)) ∧ restOf gs g bd n := by
  rw [← rnode_eq hk (by omega) (by omega)]
  unfold rnode
  exact ⟨fun h => h.2, fun h => ⟨⟨h1, h2⟩, h⟩⟩
theorem upto_snoc {Q : Nat → Prop} {k : Nat} (h : ∀ i, i < k → Q i) (hk : Q k) : ∀ i, i < k + 1 → Q i := fun i hi => by
  rcases Nat.lt_or_ge i k with h1 | h1
  · exact h i h1
  · obtain rfl : i = k := by omega
    exact hk
theorem asked_no {ks : List Int} {bd : Bool} {c p : Int} (h1 : c ≠ 110) (h2 : c ≠ 112) : asked ks bd c p := ⟨fun h => absurd h h1, fun h => absurd h h2⟩
theorem asked_n {ks : List Int} {bd : Bool} {p : Int} : asked ks bd 110 p ↔ fits ks bd p 0 := ⟨fun h => h.1 rfl, fun h => ⟨fun _ => h, fun h => by cases h⟩⟩
theorem asked_p {ks : List Int} {bd : Bool} {p : Int} : asked ks bd 112 p ↔ fits ks bd p 1 := ⟨fun h => h.2 rfl, fun h => ⟨(fun h => by cases h), fun _ => h⟩⟩
end Go.Proofs.YtmfdaeicbaibeaaDoor
