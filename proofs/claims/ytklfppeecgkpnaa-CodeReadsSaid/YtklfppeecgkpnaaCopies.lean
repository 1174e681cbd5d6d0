/-
  The walk through CodeCopies.
-/
import Derived.Test.YtklfppeecgkpnaaCopy
import Derived.Test.YtklfppeecgkpnaaFirst
namespace Go.Proofs.Ytklfppeecgkpnaa
set_option linter.unusedVariables false
open Go.ChangeShapes Go.WideShapes Go.ChangeAt Go.RowKit

theorem CpR.rdP {w w' : World} {n c : Nat} {A A' : Option Addr} {rs rs' : List Raw} {W : World} {B : Nat} (h : CpR w n (fns rs) A c rs' w') (h0 : RdP W B A' n rs) : RdP w' w'.heap.size A n rs' := by
  refine ⟨Reads.of_own h.own, ?_, fun r hr => RdF.of_own (h.each r hr), fun r hr => ?_, h0.sz⟩
  · rw [← length_fns, h.eq, length_fns, h0.len]
  · have : r.fn ∈ fns rs := by rw [← h.eq]; exact List.mem_map_of_mem hr
    obtain ⟨r0, h1, h2⟩ := List.mem_map.1 this
    rw [← h2]
    exact h0.wf r0 h1

/-- what the law writes over: the copy's rows, as far as their shape goes -/
structure Sh (w : World) (base : Nat) (A : Option Addr) (n : Nat) (rs : List Raw) : Prop where
  outer : 0 < n → ∃ g cur, A = some ⟨g, 0, none⟩ ∧ base ≤ g ∧ Blk w g 43 cur ∧ ∀ (i : Nat) (r : Raw), rs[i]? = some r → (∃ x, cur[i * 5]? = some (.int .i64 x)) ∧ cur[i * 5 + 1]? = some (.slice r.lo r.fn.locals.length r.lc) ∧ cur[i * 5 + 4]? = some (.slice r.co r.fn.code.length r.cc)
  kinds : ∀ r ∈ rs, 0 < r.fn.locals.length → ∃ g cur, r.lo = some ⟨g, 0, none⟩ ∧ base ≤ g ∧ Blk w g 44 cur ∧ ∀ j, j < r.fn.locals.length → ∃ x, cur[j]? = some (.int .u8 x)
  ins : ∀ r ∈ rs, 0 < r.fn.code.length → ∃ g cur, r.co = some ⟨g, 0, none⟩ ∧ base ≤ g ∧ Blk w g 48 cur ∧ ∀ j, j < r.fn.code.length → ∃ x, cur[j * 3 + 1]? = some (.int .i64 x)
theorem own_block {w : World} {base size n c : Nat} {e : TypeId} {A : Option Addr} {xs : List Value} (h : w.ownsRow base e size (.slice A n c) n xs) (hn : 0 < n) : ∃ g cur, A = some ⟨g, 0, none⟩ ∧ base ≤ g ∧ Blk w g e cur ∧ ∀ (j : Nat) (u : Value), xs[j]? = some u → cur[j]? = some u := by
  rcases h.2 with ⟨_, h0⟩ | ⟨g, cap, cur, e', hg, hb, hnc, _, hcs, ht⟩
  · omega
  · injection e' with e1 e2 e3
    refine ⟨g, cur, e1, hg, hb, fun j u hj => ?_⟩
    have hjl : j < n * size := by rw [← h.1]; exact (List.getElem?_eq_some_iff.1 hj).1
    rw [← ht, List.getElem?_take, if_pos hjl] at hj
    rw [← Array.getElem?_toList]
    exact hj
theorem Sh.of {w w' : World} {n c : Nat} {fs : List Fn} {A : Option Addr} {rs : List Raw} (h : CpR w n fs A c rs w') : Sh w' w.heap.size A n rs := by
  refine ⟨fun hn => ?_, fun r hr hl => ?_, fun r hr hl => ?_⟩
  · obtain ⟨g, cur, hA, hg, hb, hc⟩ := own_block h.own hn
    exact ⟨g, cur, hA, hg, hb, fun i r hi => by
      obtain ⟨h1, h2, h3, h4, h5⟩ := rawc_at hi
      exact ⟨⟨_, hc _ _ h1⟩, hc _ _ h2, hc _ _ h5⟩⟩
  · obtain ⟨g, cur, hA, hg, hb, hc⟩ := own_block (h.each r hr).locals hl
    exact ⟨g, cur, hA, hg, hb, fun j hj => ⟨_, hc _ _ (u8c_at (List.getElem?_eq_getElem hj))⟩⟩
  · obtain ⟨g, cur, hA, hg, hb, hc⟩ := own_block (h.each r hr).code hl
    exact ⟨g, cur, hA, hg, hb, fun j hj => ⟨_, hc _ _ (insc_at (List.getElem?_eq_getElem hj)).2.1⟩⟩
theorem Sh.below {w w' : World} {base n : Nat} {A : Option Addr} {rs : List Raw} (h : Sh w base A n rs) (hb : Below w.heap.size w w') : Sh w' base A n rs := by
  refine ⟨fun hn => ?_, fun r hr hl => ?_, fun r hr hl => ?_⟩
  · obtain ⟨g, cur, h1, h2, h3, h4⟩ := h.outer hn
    exact ⟨g, cur, h1, h2, h3.below hb h3.lt, h4⟩
  · obtain ⟨g, cur, h1, h2, h3, h4⟩ := h.kinds r hr hl
    exact ⟨g, cur, h1, h2, h3.below hb h3.lt, h4⟩
  · obtain ⟨g, cur, h1, h2, h3, h4⟩ := h.ins r hr hl
    exact ⟨g, cur, h1, h2, h3.below hb h3.lt, h4⟩
theorem set_int {cur : Array Value} {k : IntKind} {i j : Nat} {y : Int} (h : ∃ x, cur[j]? = some (.int k x)) : ∃ x, (cur.setIfInBounds i (.int k y))[j]? = some (.int k x) := by
  obtain ⟨x, hx⟩ := h
  by_cases hij : i = j
  · subst hij
    have hl := (Array.getElem?_eq_some_iff.1 hx).1
    exact ⟨y, by simp [hl]⟩
  · exact ⟨x, by rw [Array.getElem?_setIfInBounds_ne hij]; exact hx⟩
theorem Sh.setKind {w : World} {base n g i : Nat} {A : Option Addr} {rs : List Raw} {cur0 : Array Value} (h : Sh w base A n rs) (hb : Blk w g 44 cur0) (y : Int) : Sh (w.setCell ⟨g, i, none⟩ (.int .u8 y)) base A n rs := by
  refine ⟨fun hn => ?_, fun r hr hl => ?_, fun r hr hl => ?_⟩
  · obtain ⟨g', cur, h1, h2, h3, h4⟩ := h.outer hn
    exact ⟨g', cur, h1, h2, h3.far (p := ⟨g, i, none⟩) (h3.ne_ hb (by decide)) _, h4⟩
  · obtain ⟨g', cur, h1, h2, h3, h4⟩ := h.kinds r hr hl
    by_cases hgg : g' = g
    · subst hgg
      exact ⟨g', _, h1, h2, h3.set_ i _, fun j hj => set_int (h4 j hj)⟩
    · exact ⟨g', cur, h1, h2, h3.far (p := ⟨g, i, none⟩) hgg _, h4⟩
  · obtain ⟨g', cur, h1, h2, h3, h4⟩ := h.ins r hr hl
    exact ⟨g', cur, h1, h2, h3.far (p := ⟨g, i, none⟩) (h3.ne_ hb (by decide)) _, h4⟩
theorem Sh.setIns {w : World} {base n g i : Nat} {A : Option Addr} {rs : List Raw} {cur0 : Array Value} (h : Sh w base A n rs) (hb : Blk w g 48 cur0) (y : Int) : Sh (w.setCell ⟨g, i, none⟩ (.int .i64 y)) base A n rs := by
  refine ⟨fun hn => ?_, fun r hr hl => ?_, fun r hr hl => ?_⟩
  · obtain ⟨g', cur, h1, h2, h3, h4⟩ := h.outer hn
    exact ⟨g', cur, h1, h2, h3.far (p := ⟨g, i, none⟩) (h3.ne_ hb (by decide)) _, h4⟩
  · obtain ⟨g', cur, h1, h2, h3, h4⟩ := h.kinds r hr hl
    exact ⟨g', cur, h1, h2, h3.far (p := ⟨g, i, none⟩) (h3.ne_ hb (by decide)) _, h4⟩
  · obtain ⟨g', cur, h1, h2, h3, h4⟩ := h.ins r hr hl
    by_cases hgg : g' = g
    · subst hgg
      exact ⟨g', _, h1, h2, h3.set_ i _, fun j hj => set_int (h4 j hj)⟩
    · exact ⟨g', cur, h1, h2, h3.far (p := ⟨g, i, none⟩) hgg _, h4⟩
theorem Sh.setParams {w : World} {base n g k : Nat} {A : Option Addr} {rs : List Raw} {cur0 : Array Value} (h : Sh w base A n rs) (hb : Blk w g 43 cur0) (y : Int) : Sh (w.setCell ⟨g, k * 5, none⟩ (.int .i64 y)) base A n rs := by
  refine ⟨fun hn => ?_, fun r hr hl => ?_, fun r hr hl => ?_⟩
  · obtain ⟨g', cur, h1, h2, h3, h4⟩ := h.outer hn
    by_cases hgg : g' = g
    · subst hgg
      refine ⟨g', _, h1, h2, h3.set_ (k * 5) _, fun i r hi => ?_⟩
      obtain ⟨e1, e2, e3⟩ := h4 i r hi
      exact ⟨set_int e1, by rw [Array.getElem?_setIfInBounds_ne (by omega)]; exact e2, by rw [Array.getElem?_setIfInBounds_ne (by omega)]; exact e3⟩
    · exact ⟨g', cur, h1, h2, h3.far (p := ⟨g, k * 5, none⟩) hgg _, h4⟩
  · obtain ⟨g', cur, h1, h2, h3, h4⟩ := h.kinds r hr hl
    exact ⟨g', cur, h1, h2, h3.far (p := ⟨g, k * 5, none⟩) (h3.ne_ hb (by decide)) _, h4⟩
  · obtain ⟨g', cur, h1, h2, h3, h4⟩ := h.ins r hr hl
    exact ⟨g', cur, h1, h2, h3.far (p := ⟨g, k * 5, none⟩) (h3.ne_ hb (by decide)) _, h4⟩

/-- the loops that write over the copy -/
structure MutI (Wb : World) (base p0 p2 p3 n c c2 c3 : Nat) (A A2 A3 : Option Addr) (rs : List Raw) (wr : World) : Prop where
  sh : Sh wr base A3 n rs
  b0 : Blk wr p0 26 #[.slice A n c]
  b2 : Blk wr p2 26 #[.slice A2 n c2]
  b3 : Blk wr p3 26 #[.slice A3 n c3]
  below : Below base Wb wr
section
variable {Wb wr : World} {base p0 p2 p3 n c c2 c3 g i : Nat} {A A2 A3 : Option Addr} {rs : List Raw} {cur : Array Value}
theorem MutI.setKind (h : MutI Wb base p0 p2 p3 n c c2 c3 A A2 A3 rs wr) (hb : Blk wr g 44 cur) (hg : base ≤ g) (y : Int) : MutI Wb base p0 p2 p3 n c c2 c3 A A2 A3 rs (wr.setCell ⟨g, i, none⟩ (.int .u8 y)) :=
  ⟨h.sh.setKind hb y, h.b0.far (p := ⟨g, i, none⟩) (h.b0.ne_ hb (by decide)) _, h.b2.far (p := ⟨g, i, none⟩) (h.b2.ne_ hb (by decide)) _, h.b3.far (p := ⟨g, i, none⟩) (h.b3.ne_ hb (by decide)) _, h.below.setCell (p := ⟨g, i, none⟩) hg _⟩
theorem MutI.setIns (h : MutI Wb base p0 p2 p3 n c c2 c3 A A2 A3 rs wr) (hb : Blk wr g 48 cur) (hg : base ≤ g) (y : Int) : MutI Wb base p0 p2 p3 n c c2 c3 A A2 A3 rs (wr.setCell ⟨g, i, none⟩ (.int .i64 y)) :=
  ⟨h.sh.setIns hb y, h.b0.far (p := ⟨g, i, none⟩) (h.b0.ne_ hb (by decide)) _, h.b2.far (p := ⟨g, i, none⟩) (h.b2.ne_ hb (by decide)) _, h.b3.far (p := ⟨g, i, none⟩) (h.b3.ne_ hb (by decide)) _, h.below.setCell (p := ⟨g, i, none⟩) hg _⟩
theorem MutI.setParams {k : Nat} (h : MutI Wb base p0 p2 p3 n c c2 c3 A A2 A3 rs wr) (hb : Blk wr g 43 cur) (hg : base ≤ g) (y : Int) : MutI Wb base p0 p2 p3 n c c2 c3 A A2 A3 rs (wr.setCell ⟨g, k * 5, none⟩ (.int .i64 y)) :=
  ⟨h.sh.setParams hb y, h.b0.far (p := ⟨g, k * 5, none⟩) (h.b0.ne_ hb (by decide)) _, h.b2.far (p := ⟨g, k * 5, none⟩) (h.b2.ne_ hb (by decide)) _, h.b3.far (p := ⟨g, k * 5, none⟩) (h.b3.ne_ hb (by decide)) _, h.below.setCell (p := ⟨g, k * 5, none⟩) hg _⟩
theorem MutI.fn {k : Nat} {r : Raw} (h : MutI Wb base p0 p2 p3 n c c2 c3 A A2 A3 rs wr) (hk : rs[k]? = some r) (hl : rs.length = n) :
    ∃ g x, A3 = some ⟨g, 0, none⟩ ∧ base ≤ g ∧ wr.cell? ⟨g, k * 5, none⟩ = some (.int .i64 x) ∧ wr.frozen? ⟨g, k * 5, none⟩ = false ∧ wr.cell? ⟨g, k * 5 + 1, none⟩ = some (.slice r.lo r.fn.locals.length r.lc) ∧ wr.cell? ⟨g, k * 5 + 4, none⟩ = some (.slice r.co r.fn.code.length r.cc) ∧ Hid (∃ cur, Blk wr g 43 cur) := by
  have := (List.getElem?_eq_some_iff.1 hk).1
  obtain ⟨g, cur, hA, hg, hb, hc⟩ := h.sh.outer (by omega)
  obtain ⟨⟨x, hx⟩, h1, h4⟩ := hc k r hk
  exact ⟨g, x, hA, hg, (hb.cell _).trans hx, hb.frozen _, (hb.cell _).trans h1, (hb.cell _).trans h4, ⟨cur, hb⟩⟩
theorem MutI.kind {j : Nat} {r : Raw} (h : MutI Wb base p0 p2 p3 n c c2 c3 A A2 A3 rs wr) (hr : r ∈ rs) (hj : j < r.fn.locals.length) :
    ∃ g x, r.lo = some ⟨g, 0, none⟩ ∧ base ≤ g ∧ wr.cell? ⟨g, j, none⟩ = some (.int .u8 x) ∧ wr.frozen? ⟨g, j, none⟩ = false ∧ Hid (∃ cur, Blk wr g 44 cur) := by
  obtain ⟨g, cur, hA, hg, hb, hc⟩ := h.sh.kinds r hr (by omega)
  obtain ⟨x, hx⟩ := hc j hj
  exact ⟨g, x, hA, hg, (hb.cell _).trans hx, hb.frozen _, ⟨cur, hb⟩⟩
theorem MutI.in_ {j : Nat} {r : Raw} (h : MutI Wb base p0 p2 p3 n c c2 c3 A A2 A3 rs wr) (hr : r ∈ rs) (hj : j < r.fn.code.length) :
    ∃ g x, r.co = some ⟨g, 0, none⟩ ∧ base ≤ g ∧ wr.cell? ⟨g, j * 3 + 1, none⟩ = some (.int .i64 x) ∧ wr.frozen? ⟨g, j * 3 + 1, none⟩ = false ∧ Hid (∃ cur, Blk wr g 48 cur) := by
  obtain ⟨g, cur, hA, hg, hb, hc⟩ := h.sh.ins r hr (by omega)
  obtain ⟨x, hx⟩ := hc j hj
  exact ⟨g, x, hA, hg, (hb.cell _).trans hx, hb.frozen _, ⟨cur, hb⟩⟩
end
theorem no_cell {w : World} {g i : Nat} {t : TypeId} {cur : Array Value} {u : Value} (h : Blk w g t cur) (hc : cur[i]? = some u) : w.cell? ⟨g, i, none⟩ = some u ∧ w.frozen? ⟨g, i, none⟩ = false := ⟨(h.cell i).trans hc, h.frozen i⟩

set_option maxRecDepth 100000 in
set_option maxHeartbeats 32000000 in
theorem copies_walk (A : Option Addr) (n c : Nat) (rs : List Raw) (A' : Option Addr) (m d : Nat) (qs : List Raw) (w : World) (h : RdP w w.heap.size A n rs) (h' : RdP w w.heap.size A' m qs) :
    Calls Try.prog 5 #[.agg #[.slice A n c], .agg #[.slice A' m d]] w fun e w' => e = .returned (.bool true) ∧ Below w.heap.size w w' := by
  have hsz := h.sz
  have H := Lib.hid h
  have H' := Lib.hid h'
  have HB0 : Hid (Below w.heap.size w ((w.alloc (.cells #[.slice A n c] 26)).alloc (.cells #[.slice A' m d] 26))) := ((Below.refl _ _).alloc (Nat.le_refl _) _).alloc (by simp) _
  have HX0 : Hid (Blk ((w.alloc (.cells #[.slice A n c] 26)).alloc (.cells #[.slice A' m d] 26)) w.heap.size 26 #[.slice A n c]) := (Blk.new w _ _).alloc _
  have HY0 : Hid (Blk ((w.alloc (.cells #[.slice A n c] 26)).alloc (.cells #[.slice A' m d] 26)) (w.heap.size + 1) 26 #[.slice A' m d]) := blk_second w _ _ _ _
  clear h h'
  go_enter Try.func5, Try.ntmps5
  go_wp2_with (go_at_call 9; refine (first_any _).mono ?_; rintro e w1 ⟨rfl, hb1⟩; refine Hid.out ?_)
  have hx1 := HX0.out.below hb1 HX0.out.lt
  have HX1 := Lib.hid hx1
  have HY1 := Lib.hid (HY0.out.below hb1 HY0.out.lt)
  have HB1 := Lib.hid (HB0.out.trans (hb1.mono (by simp; omega)))
  have HP1 := Lib.hid (H.out.below HB1.out)
  have x0 : w1.cell? ⟨w.heap.size, 0, none⟩ = some (.slice A n c) := hx1.cell 0
  have hz1 : w.heap.size + 2 ≤ w1.heap.size := HY1.out.lt
  clear hb1 hx1
  refine Lib.hid ?_
  go_wp2_with (go_at_call 15; refine (rcopy_any w.heap.size A n c rs _ HP1.out (by omega)).mono ?_; rintro e w2 ⟨A2, c2, rs2, rfl, hcp2⟩; refine Hid.out ?_)
  clear x0
  have hz2 : w1.heap.size ≤ w2.heap.size := hcp2.below.size
  have HX2 := Lib.hid ((HX1.out.below hcp2.below HX1.out.lt).alloc (.cells #[.slice A2 n c2] 26))
  have HY2 := Lib.hid ((HY1.out.below hcp2.below HY1.out.lt).alloc (.cells #[.slice A2 n c2] 26))
  have HB2 : Hid (Below w.heap.size w (w2.alloc (.cells #[.slice A2 n c2] 26))) := (HB1.out.trans (hcp2.below.mono (by omega))).alloc (by omega) _
  have HP2 := Lib.hid (H.out.below HB2.out)
  have HC2 := Lib.hid ((hcp2.rdP HP1.out).alloc (Nat.le_refl _) (.cells #[.slice A2 n c2] 26))
  have HE2 := Lib.hid hcp2.eq
  have HZ2 := Lib.hid (Blk.new w2 26 #[.slice A2 n c2])
  have hs2 : (w2.alloc (.cells #[.slice A2 n c2] 26)).heap.size = w2.heap.size + 1 := by simp
  have x0 : (w2.alloc (.cells #[.slice A2 n c2] 26)).cell? ⟨w.heap.size, 0, none⟩ = some (.slice A n c) := HX2.out.cell 0
  clear hcp2
  refine Lib.hid ?_
  go_wp2_with (go_at_call 18; refine (copy_any w.heap.size A n c rs _ HP2.out (by omega)).mono ?_; rintro e w3 ⟨A3, c3, rs3, rfl, hcp3⟩; refine Hid.out ?_)
  clear x0
  have hz3 : w2.heap.size + 1 ≤ w3.heap.size := by have := hcp3.below.size; omega
  have hX3 := (HX2.out.below hcp3.below HX2.out.lt).alloc (.cells #[.slice A3 n c3] 26)
  have hY3 := (HY2.out.below hcp3.below HY2.out.lt).alloc (.cells #[.slice A3 n c3] 26)
  have hZ3 := (HZ2.out.below hcp3.below HZ2.out.lt).alloc (.cells #[.slice A3 n c3] 26)
  have hV3 := Blk.new w3 26 #[.slice A3 n c3]
  have HB23 : Hid (Below (w2.heap.size + 1) (w2.alloc (.cells #[.slice A2 n c2] 26)) (w3.alloc (.cells #[.slice A3 n c3] 26))) := (hcp3.below.mono (by omega)).alloc (by omega) _
  have HB3 : Hid (Below w.heap.size w (w3.alloc (.cells #[.slice A3 n c3] 26))) := HB2.out.trans (HB23.out.mono (by omega))
  have HC3 := Lib.hid ((hcp3.rdP HP2.out).alloc (Nat.le_refl _) (.cells #[.slice A3 n c3] 26))
  have HE3 := Lib.hid hcp3.eq
  have HSH := Lib.hid ((Sh.of hcp3).below ((Below.refl _ _).alloc (Nat.le_refl _) (.cells #[.slice A3 n c3] 26)))
  have hs3 : (w3.alloc (.cells #[.slice A3 n c3] 26)).heap.size = w3.heap.size + 1 := by simp
  rw [hs2] at HSH
  clear hcp3
  obtain ⟨W3, HW3⟩ : ∃ W, Hid (W = w3.alloc (.cells #[.slice A3 n c3] 26)) := ⟨_, rfl⟩
  rw [← HW3.out] at hX3 hY3 hZ3 hV3 HB23 HB3 HC3 HSH hs3
  have HX3 := Lib.hid hX3
  have HY3 := Lib.hid hY3
  have HZ3 := Lib.hid hZ3
  have HV3 := Lib.hid hV3
  have e0 : W3.cell? ⟨w.heap.size, 0, none⟩ = some (.slice A n c) := hX3.cell 0
  have e1 : W3.cell? ⟨w.heap.size + 1, 0, none⟩ = some (.slice A' m d) := hY3.cell 0
  have e2 : W3.cell? ⟨w2.heap.size, 0, none⟩ = some (.slice A2 n c2) := hZ3.cell 0
  have e3 : W3.cell? ⟨w3.heap.size, 0, none⟩ = some (.slice A3 n c3) := hV3.cell 0
  have HP3 := Lib.hid (H.out.below HB3.out)
  have HQ3 := Lib.hid (H'.out.below HB3.out)
  have HC23 : Hid (RdP W3 (w2.heap.size + 1) A2 n rs2) := Lib.hid ((HC2.out.more (by omega)).below HB23.out)
  clear hX3 hY3 hZ3 hV3
  obtain ⟨bq, HBQ⟩ : ∃ b, Hid (b = decide (fns rs = fns qs)) := ⟨_, rfl⟩
  have keepS : ∀ W W' : World, Below W3.heap.size W3 W → Below W.heap.size W W' → (W'.cell? ⟨w.heap.size, 0, none⟩ = some (.slice A n c) ∧ W'.cell? ⟨w.heap.size + 1, 0, none⟩ = some (.slice A' m d) ∧ W'.cell? ⟨w2.heap.size, 0, none⟩ = some (.slice A2 n c2) ∧ W'.cell? ⟨w3.heap.size, 0, none⟩ = some (.slice A3 n c3) ∧ Below W3.heap.size W3 W') := fun W W' h1 h2 => by
    have h3 : Below W3.heap.size W3 W' := h1.trans (h2.mono h1.size)
    exact ⟨(h3.cell (p := ⟨w.heap.size, 0, none⟩) (by show w.heap.size < _; omega)).trans e0, (h3.cell (p := ⟨w.heap.size + 1, 0, none⟩) (by show w.heap.size + 1 < _; omega)).trans e1, (h3.cell (p := ⟨w2.heap.size, 0, none⟩) (by show w2.heap.size < _; omega)).trans e2, (h3.cell (p := ⟨w3.heap.size, 0, none⟩) (by show w3.heap.size < _; omega)).trans e3, h3⟩
  have HS1 : Hid (∀ W : World, (W.cell? ⟨w.heap.size, 0, none⟩ = some (.slice A n c) ∧ W.cell? ⟨w.heap.size + 1, 0, none⟩ = some (.slice A' m d) ∧ W.cell? ⟨w2.heap.size, 0, none⟩ = some (.slice A2 n c2) ∧ W.cell? ⟨w3.heap.size, 0, none⟩ = some (.slice A3 n c3) ∧ Below W3.heap.size W3 W) →
      Calls Try.prog 19 #[.agg #[.slice A3 n c3], .agg #[.slice A n c]] W fun e W' => e = .returned (.bool true) ∧ (W'.cell? ⟨w.heap.size, 0, none⟩ = some (.slice A n c) ∧ W'.cell? ⟨w.heap.size + 1, 0, none⟩ = some (.slice A' m d) ∧ W'.cell? ⟨w2.heap.size, 0, none⟩ = some (.slice A2 n c2) ∧ W'.cell? ⟨w3.heap.size, 0, none⟩ = some (.slice A3 n c3) ∧ Below W3.heap.size W3 W')) := fun W hS =>
    (same_any W3.heap.size A3 A n n c3 c rs3 rs W ((HC3.out.more (by omega)).below hS.2.2.2.2) ((HP3.out.more (by omega)).below hS.2.2.2.2) hS.2.2.2.2.size).mono fun e W' ⟨he, hb⟩ => ⟨by rw [he, HE3.out]; simp, keepS W W' hS.2.2.2.2 hb⟩
  have HS2 : Hid (∀ W : World, (W.cell? ⟨w.heap.size, 0, none⟩ = some (.slice A n c) ∧ W.cell? ⟨w.heap.size + 1, 0, none⟩ = some (.slice A' m d) ∧ W.cell? ⟨w2.heap.size, 0, none⟩ = some (.slice A2 n c2) ∧ W.cell? ⟨w3.heap.size, 0, none⟩ = some (.slice A3 n c3) ∧ Below W3.heap.size W3 W) →
      Calls Try.prog 14 #[.agg #[.slice A3 n c3], .agg #[.slice A2 n c2]] W fun e W' => e = .returned (.bool true) ∧ (W'.cell? ⟨w.heap.size, 0, none⟩ = some (.slice A n c) ∧ W'.cell? ⟨w.heap.size + 1, 0, none⟩ = some (.slice A' m d) ∧ W'.cell? ⟨w2.heap.size, 0, none⟩ = some (.slice A2 n c2) ∧ W'.cell? ⟨w3.heap.size, 0, none⟩ = some (.slice A3 n c3) ∧ Below W3.heap.size W3 W')) := fun W hS =>
    (rsame_any W3.heap.size A3 A2 n n c3 c2 rs3 rs2 W ((HC3.out.more (by omega)).below hS.2.2.2.2) ((HC23.out.more (by omega)).below hS.2.2.2.2) hS.2.2.2.2.size).mono fun e W' ⟨he, hb⟩ => ⟨by rw [he, HE3.out, HE2.out]; simp, keepS W W' hS.2.2.2.2 hb⟩
  have HS3 : Hid (∀ W : World, (W.cell? ⟨w.heap.size, 0, none⟩ = some (.slice A n c) ∧ W.cell? ⟨w.heap.size + 1, 0, none⟩ = some (.slice A' m d) ∧ W.cell? ⟨w2.heap.size, 0, none⟩ = some (.slice A2 n c2) ∧ W.cell? ⟨w3.heap.size, 0, none⟩ = some (.slice A3 n c3) ∧ Below W3.heap.size W3 W) →
      Calls Try.prog 19 #[.agg #[.slice A n c], .agg #[.slice A' m d]] W fun e W' => e = .returned (.bool bq) ∧ (W'.cell? ⟨w.heap.size, 0, none⟩ = some (.slice A n c) ∧ W'.cell? ⟨w.heap.size + 1, 0, none⟩ = some (.slice A' m d) ∧ W'.cell? ⟨w2.heap.size, 0, none⟩ = some (.slice A2 n c2) ∧ W'.cell? ⟨w3.heap.size, 0, none⟩ = some (.slice A3 n c3) ∧ Below W3.heap.size W3 W')) := fun W hS =>
    (same_any W3.heap.size A A' n m c d rs qs W ((HP3.out.more (by omega)).below hS.2.2.2.2) ((HQ3.out.more (by omega)).below hS.2.2.2.2) hS.2.2.2.2.size).mono fun e W' ⟨he, hb⟩ => ⟨by rw [he, HBQ.out], keepS W W' hS.2.2.2.2 hb⟩
  have HS4 : Hid (∀ W : World, (W.cell? ⟨w.heap.size, 0, none⟩ = some (.slice A n c) ∧ W.cell? ⟨w.heap.size + 1, 0, none⟩ = some (.slice A' m d) ∧ W.cell? ⟨w2.heap.size, 0, none⟩ = some (.slice A2 n c2) ∧ W.cell? ⟨w3.heap.size, 0, none⟩ = some (.slice A3 n c3) ∧ Below W3.heap.size W3 W) →
      Calls Try.prog 14 #[.agg #[.slice A n c], .agg #[.slice A' m d]] W fun e W' => e = .returned (.bool bq) ∧ (W'.cell? ⟨w.heap.size, 0, none⟩ = some (.slice A n c) ∧ W'.cell? ⟨w.heap.size + 1, 0, none⟩ = some (.slice A' m d) ∧ W'.cell? ⟨w2.heap.size, 0, none⟩ = some (.slice A2 n c2) ∧ W'.cell? ⟨w3.heap.size, 0, none⟩ = some (.slice A3 n c3) ∧ Below W3.heap.size W3 W')) := fun W hS =>
    (rsame_any W3.heap.size A A' n m c d rs qs W ((HP3.out.more (by omega)).below hS.2.2.2.2) ((HQ3.out.more (by omega)).below hS.2.2.2.2) hS.2.2.2.2.size).mono fun e W' ⟨he, hb⟩ => ⟨by rw [he, HBQ.out], keepS W W' hS.2.2.2.2 hb⟩
  have hb33 : Below W3.heap.size W3 W3.drew := (Below.refl _ _).drew
  clear keepS
  refine Lib.hid ?_
  go_wp2
  rw [← HW3.out]
  go_region_held3 (fun W => W.cell? ⟨w.heap.size, 0, none⟩ = some (.slice A n c) ∧ W.cell? ⟨w.heap.size + 1, 0, none⟩ = some (.slice A' m d) ∧ W.cell? ⟨w2.heap.size, 0, none⟩ = some (.slice A2 n c2) ∧ W.cell? ⟨w3.heap.size, 0, none⟩ = some (.slice A3 n c3) ∧ Below W3.heap.size W3 W)
    ((first | assumption | (refine ⟨?_, ?_, ?_, ?_, ?_⟩ <;> assumption)))
    (first
      | (go_at_call 19; with_reducible refine (HS1.out _ (by first | assumption | (refine ⟨?_, ?_, ?_, ?_, ?_⟩ <;> assumption))).mono ?_; rintro e W' ⟨rfl, hS⟩)
      | (go_at_call 19; with_reducible refine (HS3.out _ (by first | assumption | (refine ⟨?_, ?_, ?_, ?_, ?_⟩ <;> assumption))).mono ?_; rintro e W' ⟨rfl, hS⟩)
      | (go_at_call 14; with_reducible refine (HS2.out _ (by first | assumption | (refine ⟨?_, ?_, ?_, ?_, ?_⟩ <;> assumption))).mono ?_; rintro e W' ⟨rfl, hS⟩)
      | (go_at_call 14; with_reducible refine (HS4.out _ (by first | assumption | (refine ⟨?_, ?_, ?_, ?_, ?_⟩ <;> assumption))).mono ?_; rintro e W' ⟨rfl, hS⟩))
  obtain ⟨g0, g1, g2, g3, hW⟩ := hS
  have HI : Hid (MutI (w2.alloc (.cells #[.slice A2 n c2] 26)) (w2.heap.size + 1) w.heap.size w2.heap.size w3.heap.size n c c2 c3 A A2 A3 rs3 W') :=
    ⟨HSH.out.below hW, HX3.out.below hW HX3.out.lt, HZ3.out.below hW HZ3.out.lt, HV3.out.below hW HV3.out.lt, HB23.out.trans (hW.mono (by omega))⟩
  have HLN := Lib.hid HC3.out.len
  have HWF := Lib.hid HC3.out.wf
  clear g0 g1 g2 hW e0 e1 e2 e3 hb33 HS1 HS2 HS3 HS4 HX1 HY1 HB0 HX0 HY0 HB1 HP1 HX2 HY2 HZ2 HP2 HX3 HY3 HZ3 HV3 HC3 HSH HP3 HQ3 HC23 HW3 HBQ
  refine Lib.hid ?_
  go_wp2
  go_loopw [38] (fun i wr => ∃ k : Nat, k ≤ n ∧ i = .int .i64 k ∧ Hid (MutI (w2.alloc (.cells #[.slice A2 n c2] 26)) (w2.heap.size + 1) w.heap.size w2.heap.size w3.heap.size n c c2 c3 A A2 A3 rs3 wr)) (fun i _ => n - (intOf i).toNat)
  case atStart => exact ⟨0, Nat.zero_le _, rfl, HI⟩
  case round =>
    clear HI g3
    obtain ⟨k, hk, rfl, HI⟩ := hrel
    by_cases hlt : k < n
    · have hkl : k < rs3.length := by have := HLN.out; omega
      obtain ⟨r, HR⟩ : ∃ r, Hid (rs3[k]? = some r) := ⟨_, List.getElem?_eq_getElem hkl⟩
      have HM := Lib.hid (List.mem_of_getElem? HR.out)
      obtain ⟨g, x, rfl, hg, f0, ff, f1, f4, HGB⟩ := HI.out.fn HR.out HLN.out
      have d3 : wr.cell? ⟨w3.heap.size, 0, none⟩ = some (.slice (some ⟨g, 0, none⟩) n c3) := HI.out.b3.cell 0
      have wl := (HWF.out r HM.out).ll
      have wc := (HWF.out r HM.out).cl
      obtain ⟨nl, HNL⟩ : ∃ x, Hid (x = r.fn.locals.length) := ⟨_, rfl⟩
      obtain ⟨nc, HNC⟩ : ∃ x, Hid (x = r.fn.code.length) := ⟨_, rfl⟩
      rw [← HNL.out] at f1 wl
      rw [← HNC.out] at f4 wc
      go_wp2
      obtain ⟨wo, rfl⟩ : ∃ wo : World, wo = wr := ⟨_, rfl⟩
      go_loopw [48] (fun i wr => ∃ j : Nat, j ≤ nl ∧ i = .int .i64 j ∧ Hid (MutI (w2.alloc (.cells #[.slice A2 n c2] 26)) (w2.heap.size + 1) w.heap.size w2.heap.size w3.heap.size n c c2 c3 A A2 (some ⟨g, 0, none⟩) rs3 wr)) (fun i _ => nl - (intOf i).toNat)
      case atStart => exact ⟨0, Nat.zero_le _, rfl, HI⟩
      case round =>
        clear f0 ff f1 f4 HGB d3 HI
        obtain ⟨j, hj, rfl, HI⟩ := hrel
        obtain ⟨g', x, hgg, hg', f0, ff, f1, f4, HGB⟩ := HI.out.fn HR.out HLN.out
        obtain rfl : g = g' := by injection hgg with h; injection h
        have d3 : wr.cell? ⟨w3.heap.size, 0, none⟩ = some (.slice (some ⟨g, 0, none⟩) n c3) := HI.out.b3.cell 0
        rw [← HNL.out] at f1
        rw [← HNC.out] at f4
        clear hgg hg'
        by_cases hjl : j < nl
        · obtain ⟨gk, y, hlo, hgk, z0, zf, HKB⟩ := HI.out.kind HM.out (by rw [← HNL.out]; exact hjl)
          rw [hlo] at f1
          rw [hlo]
          clear hlo
          obtain ⟨curk, hcurk⟩ := HKB.out
          have HKK := Lib.hid hcurk
          clear hcurk
          go_wp2
          go_roundw
          case rel => exact ⟨j + 1, by omega, by go_num, HI.out.setKind HKK.out hgk _⟩
          case measure => simp [intOf]; omega
        · obtain rfl : nl = j := by omega
          clear hjl hj
          go_wp2
          obtain ⟨wo2, rfl⟩ : ∃ wo : World, wo = wr := ⟨_, rfl⟩
          go_loopw [70] (fun i wr => ∃ j : Nat, j ≤ nc ∧ i = .int .i64 j ∧ Hid (MutI (w2.alloc (.cells #[.slice A2 n c2] 26)) (w2.heap.size + 1) w.heap.size w2.heap.size w3.heap.size n c c2 c3 A A2 (some ⟨g, 0, none⟩) rs3 wr)) (fun i _ => nc - (intOf i).toNat)
          case atStart => exact ⟨0, Nat.zero_le _, rfl, HI⟩
          case round =>
            clear f0 ff f1 f4 HGB d3 HI
            obtain ⟨j, hj, rfl, HI⟩ := hrel
            obtain ⟨g', x, hgg, hg', f0, ff, f1, f4, HGB⟩ := HI.out.fn HR.out HLN.out
            obtain rfl : g = g' := by injection hgg with h; injection h
            have d3 : wr.cell? ⟨w3.heap.size, 0, none⟩ = some (.slice (some ⟨g, 0, none⟩) n c3) := HI.out.b3.cell 0
            rw [← HNL.out] at f1
            rw [← HNC.out] at f4
            clear hgg hg'
            by_cases hjl : j < nc
            · obtain ⟨gk, y, hco, hgk, z0, zf, HKB⟩ := HI.out.in_ HM.out (by rw [← HNC.out]; exact hjl)
              rw [hco] at f4
              rw [hco]
              clear hco
              obtain ⟨curk, hcurk⟩ := HKB.out
              have HKK := Lib.hid hcurk
              clear hcurk
              go_wp2
              go_roundw
              case rel => exact ⟨j + 1, by omega, by go_num, HI.out.setIns HKK.out hgk _⟩
              case measure => simp [intOf]; omega
            · obtain rfl : nc = j := by omega
              clear hjl hj
              obtain ⟨curg, hcurg⟩ := HGB.out
              have HGG := Lib.hid hcurg
              clear hcurg
              go_wp2
              go_roundw
              case rel => exact ⟨k + 1, by omega, by go_num, HI.out.setParams HGG.out hg _⟩
              case measure => simp [intOf]; omega
    · obtain rfl : n = k := by omega
      clear hlt hk
      have hzb := HI.out.below.size
      have HBW : Hid (Below w.heap.size w wr) := HB2.out.trans (HI.out.below.mono (by omega))
      have HPW := Lib.hid ((H.out.below HBW.out).more (show w.heap.size ≤ wr.heap.size from HBW.out.size))
      have HCW := Lib.hid ((((HC2.out.more (show w2.heap.size ≤ w2.heap.size + 1 by omega)).below HI.out.below)).more (show w2.heap.size + 1 ≤ wr.heap.size by omega))
      have d0 : wr.cell? ⟨w.heap.size, 0, none⟩ = some (.slice A n c) := HI.out.b0.cell 0
      have d2 : wr.cell? ⟨w2.heap.size, 0, none⟩ = some (.slice A2 n c2) := HI.out.b2.cell 0
      have HEE : Hid (decide (fns rs = fns rs2) = true) := Lib.hid (by rw [HE2.out]; simp)
      go_wp2_with (go_at_call 14; refine (rsame_any wr.heap.size A A2 n n c c2 rs rs2 _ HPW.out HCW.out (Nat.le_refl _)).mono ?_; rintro e w9 ⟨rfl, hb9⟩; rw [HEE.out]; refine Hid.out ?_)
      have HB9 := Lib.hid (HBW.out.trans (hb9.mono HBW.out.size))
      clear hb9
      refine Lib.hid ?_
      go_wp2
      go_ret
      exact ⟨rfl, HB9.out⟩
end Go.Proofs.Ytklfppeecgkpnaa
