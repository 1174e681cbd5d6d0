/-
  The walk through IrCopies.
-/
import Derived.Test.YtihfihockobpjaaRs
import Derived.Test.YtihfihockobpjaaSh
import Derived.Test.YtihfihockobpjaaCr
import Derived.Test.YtihfihockobpjaaFi
namespace Go.Proofs.Ytihfihockobpjaa
set_option linter.unusedVariables false
set_option linter.unusedSimpArgs false
open Go.ChangeShapes Go.WideShapes Go.ChangeAt Go.RowKit

theorem CpR.rdP {w w' : World} {n c : Nat} {A A' : Option Addr} {rs rs' : List RG} {W : World} {B : Nat} (h : CpR w n (grs rs) A c rs' w') (h0 : RdP W B A' n rs) : RdP w' w'.heap.size A n rs' := by
  have hw : ∀ r ∈ rs', WfG r.gr := fun r hr => by
    have : r.gr ∈ grs rs := by rw [← h.eq]; exact List.mem_map_of_mem hr
    obtain ⟨r0, h1, h2⟩ := List.mem_map.1 this
    rw [← h2]
    exact h0.wf r0 h1
  refine ⟨Reads.of_own h.own, ?_, fun r hr => (h.each r hr).rd (hw r hr), hw, h0.sz⟩
  rw [← length_grs, h.eq, length_grs, h0.len]
/-- a row of like elements, as far as its shape goes -/
def Row (w : World) (base : Nat) (t : TypeId) (k : IntKind) (A : Option Addr) (n : Nat) : Prop := 0 < n → ∃ g cur, A = some ⟨g, 0, none⟩ ∧ base ≤ g ∧ Blk w g t cur ∧ ∀ j, j < n → ∃ x, cur[j]? = some (.int k x)
def NRow (w : World) (base : Nat) (A : Option Addr) (n : Nat) (ns : List RN) : Prop := 0 < n → ∃ g cur, A = some ⟨g, 0, none⟩ ∧ base ≤ g ∧ Blk w g 38 cur ∧ ∀ (j : Nat) (i : RN), ns[j]? = some i → (∃ x, cur[j * 12 + 2]? = some (.int .i64 x)) ∧ cur[j * 12 + 9]? = some (.slice i.ao i.nd.args.length i.ac)
/-- what the law writes over: the copy's rows, as far as their shape goes -/
structure Sh (w : World) (base : Nat) (A : Option Addr) (n c : Nat) (rs : List RG) : Prop where
  outer : w.ownsRow base 45 8 (.slice A n c) n (rgc rs)
  params : ∀ r ∈ rs, Row w base 3 .i64 r.po r.gr.params.length
  init : ∀ r ∈ rs, Row w base 3 .i64 r.io r.gr.init.length
  kinds : ∀ r ∈ rs, Row w base 46 .u8 r.ko r.gr.kinds.length
  nodes : ∀ r ∈ rs, NRow w base r.no r.gr.nodes.length r.ns
  args : ∀ r ∈ rs, ∀ i ∈ r.ns, Row w base 3 .i64 i.ao i.nd.args.length
theorem own_block {w : World} {base size n c : Nat} {e : TypeId} {A : Option Addr} {xs : List Value} (h : w.ownsRow base e size (.slice A n c) n xs) (hn : 0 < n) : ∃ g cur, A = some ⟨g, 0, none⟩ ∧ base ≤ g ∧ Blk w g e cur ∧ ∀ (j : Nat) (u : Value), xs[j]? = some u → cur[j]? = some u := by
  rcases h.2 with ⟨_, h0⟩ | ⟨g, cap, cur, e', hg, hb, hnc, _, hcs, ht⟩
  · omega
  · injection e' with e1 e2 e3
    refine ⟨g, cur, e1, hg, hb, fun j u hj => ?_⟩
    have hjl : j < n * size := by rw [← h.1]; exact (List.getElem?_eq_some_iff.1 hj).1
    rw [← ht, List.getElem?_take, if_pos hjl] at hj
    rw [← Array.getElem?_toList]
    exact hj
theorem Row.ints {w : World} {base n c : Nat} {A : Option Addr} {l : List Int} (h : w.ownsRow base 3 1 (.slice A n c) n (i64c l)) (hl : l.length = n) : Row w base 3 .i64 A n := fun hn => by
  obtain ⟨g, cur, hA, hg, hb, hc⟩ := own_block h hn
  exact ⟨g, cur, hA, hg, hb, fun j hj => ⟨_, hc _ _ (i64c_at (List.getElem?_eq_getElem (by omega)))⟩⟩
theorem Sh.of {w w' : World} {n c : Nat} {gs : List Gr} {A : Option Addr} {rs : List RG} (h : CpR w n gs A c rs w') : Sh w' w.heap.size A n c rs := by
  refine ⟨h.own, fun r hr => Row.ints (h.each r hr).params rfl, fun r hr => Row.ints (h.each r hr).init rfl, fun r hr hl => ?_, fun r hr hl => ?_, fun r hr i hi => Row.ints ((h.each r hr).each i hi) rfl⟩
  · obtain ⟨g, cur, hA, hg, hb, hc⟩ := own_block (h.each r hr).kinds hl
    exact ⟨g, cur, hA, hg, hb, fun j hj => ⟨_, hc _ _ (u8c_at (List.getElem?_eq_getElem hj))⟩⟩
  · obtain ⟨g, cur, hA, hg, hb, hc⟩ := own_block (h.each r hr).nodes hl
    exact ⟨g, cur, hA, hg, hb, fun j i hj => ⟨⟨_, hc _ _ (rnc_at hj).2.2.1⟩, hc _ _ (rnc_at hj).2.2.2.2.2.2.2.2.2.1⟩⟩
theorem Row.below {w w' : World} {base n : Nat} {t : TypeId} {k : IntKind} {A : Option Addr} (h : Row w base t k A n) (hb : Below w.heap.size w w') : Row w' base t k A n := fun hn => by
  obtain ⟨g, cur, h1, h2, h3, h4⟩ := h hn
  exact ⟨g, cur, h1, h2, h3.below hb h3.lt, h4⟩
theorem Sh.below {w w' : World} {base n c : Nat} {A : Option Addr} {rs : List RG} (h : Sh w base A n c rs) (hb : Below w.heap.size w w') : Sh w' base A n c rs := by
  refine ⟨own_below h.outer hb, fun r hr => (h.params r hr).below hb, fun r hr => (h.init r hr).below hb, fun r hr => (h.kinds r hr).below hb, fun r hr hn => ?_, fun r hr i hi => (h.args r hr i hi).below hb⟩
  obtain ⟨g, cur, h1, h2, h3, h4⟩ := h.nodes r hr hn
  exact ⟨g, cur, h1, h2, h3.below hb h3.lt, h4⟩
theorem set_int {cur : Array Value} {k : IntKind} {i j : Nat} {y : Int} (h : ∃ x, cur[j]? = some (.int k x)) : ∃ x, (cur.setIfInBounds i (.int k y))[j]? = some (.int k x) := by
  obtain ⟨x, hx⟩ := h
  by_cases hij : i = j
  · subst hij
    have hl := (Array.getElem?_eq_some_iff.1 hx).1
    exact ⟨y, by simp [hl]⟩
  · exact ⟨x, by rw [Array.getElem?_setIfInBounds_ne hij]; exact hx⟩
theorem Row.set_ {w : World} {base n g i : Nat} {t : TypeId} {k : IntKind} {A : Option Addr} {cur0 : Array Value} (h : Row w base t k A n) (hb : Blk w g t cur0) (y : Int) : Row (w.setCell ⟨g, i, none⟩ (.int k y)) base t k A n := fun hn => by
  obtain ⟨g', cur, h1, h2, h3, h4⟩ := h hn
  by_cases hgg : g' = g
  · subst hgg
    exact ⟨g', _, h1, h2, h3.set_ i _, fun j hj => set_int (h4 j hj)⟩
  · exact ⟨g', cur, h1, h2, h3.far (p := ⟨g, i, none⟩) hgg _, h4⟩
theorem Row.far {w : World} {base n g i : Nat} {t t' : TypeId} {k : IntKind} {A : Option Addr} {cur0 : Array Value} {u : Value} (h : Row w base t k A n) (hb : Blk w g t' cur0) (hne : t ≠ t') : Row (w.setCell ⟨g, i, none⟩ u) base t k A n := fun hn => by
  obtain ⟨g', cur, h1, h2, h3, h4⟩ := h hn
  exact ⟨g', cur, h1, h2, h3.far (p := ⟨g, i, none⟩) (h3.ne_ hb hne) _, h4⟩
theorem NRow.far {w : World} {base n g i : Nat} {t' : TypeId} {ns : List RN} {A : Option Addr} {cur0 : Array Value} {u : Value} (h : NRow w base A n ns) (hb : Blk w g t' cur0) (hne : 38 ≠ t') : NRow (w.setCell ⟨g, i, none⟩ u) base A n ns := fun hn => by
  obtain ⟨g', cur, h1, h2, h3, h4⟩ := h hn
  exact ⟨g', cur, h1, h2, h3.far (p := ⟨g, i, none⟩) (h3.ne_ hb hne) _, h4⟩
section
variable {w : World} {base n c g i : Nat} {A : Option Addr} {rs : List RG} {cur0 : Array Value}
theorem Sh.setInt (h : Sh w base A n c rs) (hb : Blk w g 3 cur0) (y : Int) : Sh (w.setCell ⟨g, i, none⟩ (.int .i64 y)) base A n c rs :=
  ⟨own_far h.outer hb (by decide) _ _, fun r hr => (h.params r hr).set_ hb y, fun r hr => (h.init r hr).set_ hb y, fun r hr => (h.kinds r hr).far hb (by decide), fun r hr => (h.nodes r hr).far hb (by decide), fun r hr j hj => (h.args r hr j hj).set_ hb y⟩
theorem Sh.setKind (h : Sh w base A n c rs) (hb : Blk w g 46 cur0) (y : Int) : Sh (w.setCell ⟨g, i, none⟩ (.int .u8 y)) base A n c rs :=
  ⟨own_far h.outer hb (by decide) _ _, fun r hr => (h.params r hr).far hb (by decide), fun r hr => (h.init r hr).far hb (by decide), fun r hr => (h.kinds r hr).set_ hb y, fun r hr => (h.nodes r hr).far hb (by decide), fun r hr j hj => (h.args r hr j hj).far hb (by decide)⟩
theorem Sh.setD {k : Nat} (h : Sh w base A n c rs) (hb : Blk w g 38 cur0) (y : Int) : Sh (w.setCell ⟨g, k * 12 + 2, none⟩ (.int .i64 y)) base A n c rs := by
  refine ⟨own_far h.outer hb (by decide) _ _, fun r hr => (h.params r hr).far hb (by decide), fun r hr => (h.init r hr).far hb (by decide), fun r hr => (h.kinds r hr).far hb (by decide), fun r hr hn => ?_, fun r hr j hj => (h.args r hr j hj).far hb (by decide)⟩
  obtain ⟨g', cur, h1, h2, h3, h4⟩ := h.nodes r hr hn
  by_cases hgg : g' = g
  · subst hgg
    refine ⟨g', _, h1, h2, h3.set_ (k * 12 + 2) _, fun j i hi => ?_⟩
    obtain ⟨e1, e2⟩ := h4 j i hi
    exact ⟨set_int e1, by rw [Array.getElem?_setIfInBounds_ne (by omega)]; exact e2⟩
  · exact ⟨g', cur, h1, h2, h3.far (p := ⟨g, k * 12 + 2, none⟩) hgg _, h4⟩
end

/-- the loops that write over the copy -/
structure MutI (Wb : World) (base p0 p2 p3 n c c2 c3 : Nat) (A A2 A3 : Option Addr) (rs : List RG) (wr : World) : Prop where
  sh : Sh wr base A3 n c3 rs
  b0 : Blk wr p0 24 #[.slice A n c]
  b2 : Blk wr p2 24 #[.slice A2 n c2]
  b3 : Blk wr p3 24 #[.slice A3 n c3]
  below : Below base Wb wr
/-- .. with the graph that is at work in its box -/
structure MutJ (Wb : World) (base p0 p2 p3 n c c2 c3 : Nat) (A A2 A3 : Option Addr) (rs : List RG) (q : Nat) (hd : Array Value) (wr : World) : Prop where
  m : MutI Wb base p0 p2 p3 n c c2 c3 A A2 A3 rs wr
  box : Blk wr q 45 hd
section
variable {Wb wr : World} {base p0 p2 p3 n c c2 c3 g i : Nat} {A A2 A3 : Option Addr} {rs : List RG} {cur : Array Value} {q : Nat} {hd : Array Value}
theorem MutJ.setInt (h : MutJ Wb base p0 p2 p3 n c c2 c3 A A2 A3 rs q hd wr) (hb : Blk wr g 3 cur) (hg : base ≤ g) (y : Int) : MutJ Wb base p0 p2 p3 n c c2 c3 A A2 A3 rs q hd (wr.setCell ⟨g, i, none⟩ (.int .i64 y)) :=
  ⟨⟨h.m.sh.setInt hb y, h.m.b0.far (p := ⟨g, i, none⟩) (h.m.b0.ne_ hb (by decide)) _, h.m.b2.far (p := ⟨g, i, none⟩) (h.m.b2.ne_ hb (by decide)) _, h.m.b3.far (p := ⟨g, i, none⟩) (h.m.b3.ne_ hb (by decide)) _, h.m.below.setCell (p := ⟨g, i, none⟩) hg _⟩, h.box.far (p := ⟨g, i, none⟩) (h.box.ne_ hb (by decide)) _⟩
theorem MutJ.setKind (h : MutJ Wb base p0 p2 p3 n c c2 c3 A A2 A3 rs q hd wr) (hb : Blk wr g 46 cur) (hg : base ≤ g) (y : Int) : MutJ Wb base p0 p2 p3 n c c2 c3 A A2 A3 rs q hd (wr.setCell ⟨g, i, none⟩ (.int .u8 y)) :=
  ⟨⟨h.m.sh.setKind hb y, h.m.b0.far (p := ⟨g, i, none⟩) (h.m.b0.ne_ hb (by decide)) _, h.m.b2.far (p := ⟨g, i, none⟩) (h.m.b2.ne_ hb (by decide)) _, h.m.b3.far (p := ⟨g, i, none⟩) (h.m.b3.ne_ hb (by decide)) _, h.m.below.setCell (p := ⟨g, i, none⟩) hg _⟩, h.box.far (p := ⟨g, i, none⟩) (h.box.ne_ hb (by decide)) _⟩
theorem MutJ.setD {k : Nat} (h : MutJ Wb base p0 p2 p3 n c c2 c3 A A2 A3 rs q hd wr) (hb : Blk wr g 38 cur) (hg : base ≤ g) (y : Int) : MutJ Wb base p0 p2 p3 n c c2 c3 A A2 A3 rs q hd (wr.setCell ⟨g, k * 12 + 2, none⟩ (.int .i64 y)) :=
  ⟨⟨h.m.sh.setD hb y, h.m.b0.far (p := ⟨g, k * 12 + 2, none⟩) (h.m.b0.ne_ hb (by decide)) _, h.m.b2.far (p := ⟨g, k * 12 + 2, none⟩) (h.m.b2.ne_ hb (by decide)) _, h.m.b3.far (p := ⟨g, k * 12 + 2, none⟩) (h.m.b3.ne_ hb (by decide)) _, h.m.below.setCell (p := ⟨g, k * 12 + 2, none⟩) hg _⟩, h.box.far (p := ⟨g, k * 12 + 2, none⟩) (h.box.ne_ hb (by decide)) _⟩
theorem Row.cell {w : World} {t : TypeId} {k : IntKind} {m j : Nat} {A : Option Addr} (h : Row w base t k A m) (hj : j < m) :
    ∃ g x, A = some ⟨g, 0, none⟩ ∧ base ≤ g ∧ w.cell? ⟨g, j, none⟩ = some (.int k x) ∧ w.frozen? ⟨g, j, none⟩ = false ∧ Hid (∃ cur, Blk w g t cur) := by
  obtain ⟨g, cur, hA, hg, hb, hc⟩ := h (by omega)
  obtain ⟨x, hx⟩ := hc j hj
  exact ⟨g, x, hA, hg, (hb.cell _).trans hx, hb.frozen _, ⟨cur, hb⟩⟩
theorem NRow.cell {w : World} {m j : Nat} {A : Option Addr} {ns : List RN} {i : RN} (h : NRow w base A m ns) (hj : j < m) (hi : ns[j]? = some i) :
    ∃ g x, A = some ⟨g, 0, none⟩ ∧ base ≤ g ∧ w.cell? ⟨g, j * 12 + 2, none⟩ = some (.int .i64 x) ∧ w.frozen? ⟨g, j * 12 + 2, none⟩ = false ∧ w.cell? ⟨g, j * 12 + 9, none⟩ = some (.slice i.ao i.nd.args.length i.ac) ∧ Hid (∃ cur, Blk w g 38 cur) := by
  obtain ⟨g, cur, hA, hg, hb, hc⟩ := h (by omega)
  obtain ⟨⟨x, hx⟩, h9⟩ := hc j i hi
  exact ⟨g, x, hA, hg, (hb.cell _).trans hx, hb.frozen _, (hb.cell _).trans h9, ⟨cur, hb⟩⟩
theorem MutI.gr {k : Nat} {r : RG} (h : MutI Wb base p0 p2 p3 n c c2 c3 A A2 A3 rs wr) (hk : rs[k]? = some r) :
    ∃ g, A3 = some ⟨g, 0, none⟩ ∧ wr.cell? ⟨g, k * 8, none⟩ = some (.slice r.po r.gr.params.length r.pc) ∧ wr.cell? ⟨g, k * 8 + 1, none⟩ = some (.slice r.ko r.gr.kinds.length r.kc) ∧ wr.cell? ⟨g, k * 8 + 2, none⟩ = some (.int .i64 r.gr.cells) ∧ wr.cell? ⟨g, k * 8 + 3, none⟩ = some (.slice r.io r.gr.init.length r.ic) ∧ wr.cell? ⟨g, k * 8 + 4, none⟩ = some (.bool r.gr.result) ∧ wr.cell? ⟨g, k * 8 + 5, none⟩ = some (.int .i64 r.gr.keep) ∧ wr.cell? ⟨g, k * 8 + 6, none⟩ = some (.slice r.no r.gr.nodes.length r.nc) ∧ wr.cell? ⟨g, k * 8 + 7, none⟩ = some (.int .i64 r.gr.entry) := by
  obtain ⟨h0, h1, h2, h3, h4, h5, h6, h7⟩ := rgc_at hk
  obtain ⟨g, hA, _, _, e0, _⟩ := own_at h.sh.outer h0
  have key : ∀ (j : Nat) (u : Value), (rgc rs)[j]? = some u → wr.cell? ⟨g, j, none⟩ = some u := fun j u hj => by
    obtain ⟨g', hA', _, _, e, _⟩ := own_at h.sh.outer hj
    rw [hA] at hA'
    injection hA' with hA'
    injection hA' with hA'
    rw [hA']; exact e
  exact ⟨g, hA, e0, key _ _ h1, key _ _ h2, key _ _ h3, key _ _ h4, key _ _ h5, key _ _ h6, key _ _ h7⟩
end

set_option maxRecDepth 100000 in
set_option maxHeartbeats 64000000 in
theorem copies_walk (A : Option Addr) (n c : Nat) (rs : List RG) (A' : Option Addr) (m d : Nat) (qs : List RG) (w : World) (h : RdP w w.heap.size A n rs) (h' : RdP w w.heap.size A' m qs) :
    Calls Try.prog 5 #[.agg #[.slice A n c], .agg #[.slice A' m d]] w fun e w' => e = .returned (.bool true) ∧ Below w.heap.size w w' := by
  have hsz := h.sz
  have H := Lib.hid h
  have H' := Lib.hid h'
  have HB0 : Hid (Below w.heap.size w ((w.alloc (.cells #[.slice A n c] 24)).alloc (.cells #[.slice A' m d] 24))) := ((Below.refl _ _).alloc (Nat.le_refl _) _).alloc (by simp) _
  have HX0 : Hid (Blk ((w.alloc (.cells #[.slice A n c] 24)).alloc (.cells #[.slice A' m d] 24)) w.heap.size 24 #[.slice A n c]) := (Blk.new w _ _).alloc _
  have HY0 : Hid (Blk ((w.alloc (.cells #[.slice A n c] 24)).alloc (.cells #[.slice A' m d] 24)) (w.heap.size + 1) 24 #[.slice A' m d]) := blk_2nd w _ _ _ _
  clear h h'
  go_enter Try.func5, Try.ntmps5
  go_wp2_with (go_at_call 7; refine (first_any _).mono ?_; rintro e w1 ⟨rfl, hb1⟩; refine Hid.out ?_)
  have hx1 := HX0.out.below hb1 HX0.out.lt
  have HX1 := Lib.hid hx1
  have HY1 := Lib.hid (HY0.out.below hb1 HY0.out.lt)
  have HB1 := Lib.hid (HB0.out.trans (hb1.mono (by simp; omega)))
  have HP1 := Lib.hid (H.out.below HB1.out)
  have x0 : w1.cell? ⟨w.heap.size, 0, none⟩ = some (.slice A n c) := hx1.cell 0
  have hz1 : w.heap.size + 2 ≤ w1.heap.size := HY1.out.lt
  clear hb1 hx1
  refine Lib.hid ?_
  go_wp2_with (go_at_call 8; refine (rcopy_any w.heap.size A n c rs _ HP1.out (by omega)).mono ?_; rintro e w2 ⟨A2, c2, rs2, rfl, hcp2⟩; refine Hid.out ?_)
  clear x0
  have hz2 : w1.heap.size ≤ w2.heap.size := hcp2.below.size
  have HX2 := Lib.hid ((HX1.out.below hcp2.below HX1.out.lt).alloc (.cells #[.slice A2 n c2] 24))
  have HY2 := Lib.hid ((HY1.out.below hcp2.below HY1.out.lt).alloc (.cells #[.slice A2 n c2] 24))
  have HB2 : Hid (Below w.heap.size w (w2.alloc (.cells #[.slice A2 n c2] 24))) := (HB1.out.trans (hcp2.below.mono (by omega))).alloc (by omega) _
  have HP2 := Lib.hid (H.out.below HB2.out)
  have HC2 := Lib.hid ((hcp2.rdP HP1.out).alloc (Nat.le_refl _) (.cells #[.slice A2 n c2] 24))
  have HE2 := Lib.hid hcp2.eq
  have HZ2 := Lib.hid (Blk.new w2 24 #[.slice A2 n c2])
  have hs2 : (w2.alloc (.cells #[.slice A2 n c2] 24)).heap.size = w2.heap.size + 1 := by simp
  have x0 : (w2.alloc (.cells #[.slice A2 n c2] 24)).cell? ⟨w.heap.size, 0, none⟩ = some (.slice A n c) := HX2.out.cell 0
  clear hcp2
  refine Lib.hid ?_
  go_wp2_with (go_at_call 19; refine (copy_any w.heap.size A n c rs _ HP2.out (by omega)).mono ?_; rintro e w3 ⟨A3, c3, rs3, rfl, hcp3⟩; refine Hid.out ?_)
  clear x0
  have hz3 : w2.heap.size + 1 ≤ w3.heap.size := by have := hcp3.below.size; omega
  have hX3 := (HX2.out.below hcp3.below HX2.out.lt).alloc (.cells #[.slice A3 n c3] 24)
  have hY3 := (HY2.out.below hcp3.below HY2.out.lt).alloc (.cells #[.slice A3 n c3] 24)
  have hZ3 := (HZ2.out.below hcp3.below HZ2.out.lt).alloc (.cells #[.slice A3 n c3] 24)
  have hV3 := Blk.new w3 24 #[.slice A3 n c3]
  have HB23 : Hid (Below (w2.heap.size + 1) (w2.alloc (.cells #[.slice A2 n c2] 24)) (w3.alloc (.cells #[.slice A3 n c3] 24))) := (hcp3.below.mono (by omega)).alloc (by omega) _
  have HB3 : Hid (Below w.heap.size w (w3.alloc (.cells #[.slice A3 n c3] 24))) := HB2.out.trans (HB23.out.mono (by omega))
  have HC3 := Lib.hid ((hcp3.rdP HP2.out).alloc (Nat.le_refl _) (.cells #[.slice A3 n c3] 24))
  have HE3 := Lib.hid hcp3.eq
  have HSH := Lib.hid ((Sh.of hcp3).below ((Below.refl _ _).alloc (Nat.le_refl _) (.cells #[.slice A3 n c3] 24)))
  have hs3 : (w3.alloc (.cells #[.slice A3 n c3] 24)).heap.size = w3.heap.size + 1 := by simp
  rw [hs2] at HSH
  clear hcp3
  obtain ⟨W3, HW3⟩ : ∃ W, Hid (W = w3.alloc (.cells #[.slice A3 n c3] 24)) := ⟨_, rfl⟩
  rw [← HW3.out] at hX3 hY3 hZ3 hV3 HB23 HB3 HC3 HSH hs3
  have HX3 := Lib.hid hX3
  have HY3 := Lib.hid hY3
  have HZ3 := Lib.hid hZ3
  have HV3 := Lib.hid hV3
  have e0 : W3.cell? ⟨w.heap.size, 0, none⟩ = some (.slice A n c) := hX3.cell 0
  have e1 : W3.cell? ⟨w.heap.size + 1, 0, none⟩ = some (.slice A' m d) := hY3.cell 0
  have e2 : W3.cell? ⟨w2.heap.size, 0, none⟩ = some (.slice A2 n c2) := hZ3.cell 0
  have e3 : W3.cell? ⟨w3.heap.size, 0, none⟩ = some (.slice A3 n c3) := hV3.cell 0
  have HP3 := Lib.hid (H.out.below HB3.out)
  have HQ3 := Lib.hid (H'.out.below HB3.out)
  have HC23 : Hid (RdP W3 (w2.heap.size + 1) A2 n rs2) := Lib.hid ((HC2.out.more (by omega)).below HB23.out)
  clear hX3 hY3 hZ3 hV3
  obtain ⟨bq, HBQ⟩ : ∃ b, Hid (b = decide (grs rs = grs qs)) := ⟨_, rfl⟩
  have keepS : ∀ W W' : World, Below W3.heap.size W3 W → Below W.heap.size W W' → (W'.cell? ⟨w.heap.size, 0, none⟩ = some (.slice A n c) ∧ W'.cell? ⟨w.heap.size + 1, 0, none⟩ = some (.slice A' m d) ∧ W'.cell? ⟨w2.heap.size, 0, none⟩ = some (.slice A2 n c2) ∧ W'.cell? ⟨w3.heap.size, 0, none⟩ = some (.slice A3 n c3) ∧ Below W3.heap.size W3 W') := fun W W' h1 h2 => by
    have h3 : Below W3.heap.size W3 W' := h1.trans (h2.mono h1.size)
    exact ⟨(h3.cell (p := ⟨w.heap.size, 0, none⟩) (by show w.heap.size < _; omega)).trans e0, (h3.cell (p := ⟨w.heap.size + 1, 0, none⟩) (by show w.heap.size + 1 < _; omega)).trans e1, (h3.cell (p := ⟨w2.heap.size, 0, none⟩) (by show w2.heap.size < _; omega)).trans e2, (h3.cell (p := ⟨w3.heap.size, 0, none⟩) (by show w3.heap.size < _; omega)).trans e3, h3⟩
  have HS1 : Hid (∀ W : World, (W.cell? ⟨w.heap.size, 0, none⟩ = some (.slice A n c) ∧ W.cell? ⟨w.heap.size + 1, 0, none⟩ = some (.slice A' m d) ∧ W.cell? ⟨w2.heap.size, 0, none⟩ = some (.slice A2 n c2) ∧ W.cell? ⟨w3.heap.size, 0, none⟩ = some (.slice A3 n c3) ∧ Below W3.heap.size W3 W) →
      Calls Try.prog 20 #[.agg #[.slice A3 n c3], .agg #[.slice A n c]] W fun e W' => e = .returned (.bool true) ∧ (W'.cell? ⟨w.heap.size, 0, none⟩ = some (.slice A n c) ∧ W'.cell? ⟨w.heap.size + 1, 0, none⟩ = some (.slice A' m d) ∧ W'.cell? ⟨w2.heap.size, 0, none⟩ = some (.slice A2 n c2) ∧ W'.cell? ⟨w3.heap.size, 0, none⟩ = some (.slice A3 n c3) ∧ Below W3.heap.size W3 W')) := fun W hS =>
    (csame_any W3.heap.size A3 A n n c3 c rs3 rs W ((HC3.out.more (by omega)).below hS.2.2.2.2) ((HP3.out.more (by omega)).below hS.2.2.2.2) hS.2.2.2.2.size).mono fun e W' ⟨he, hb⟩ => ⟨by rw [he, HE3.out]; simp, keepS W W' hS.2.2.2.2 hb⟩
  have HS2 : Hid (∀ W : World, (W.cell? ⟨w.heap.size, 0, none⟩ = some (.slice A n c) ∧ W.cell? ⟨w.heap.size + 1, 0, none⟩ = some (.slice A' m d) ∧ W.cell? ⟨w2.heap.size, 0, none⟩ = some (.slice A2 n c2) ∧ W.cell? ⟨w3.heap.size, 0, none⟩ = some (.slice A3 n c3) ∧ Below W3.heap.size W3 W) →
      Calls Try.prog 11 #[.agg #[.slice A3 n c3], .agg #[.slice A2 n c2]] W fun e W' => e = .returned (.bool true) ∧ (W'.cell? ⟨w.heap.size, 0, none⟩ = some (.slice A n c) ∧ W'.cell? ⟨w.heap.size + 1, 0, none⟩ = some (.slice A' m d) ∧ W'.cell? ⟨w2.heap.size, 0, none⟩ = some (.slice A2 n c2) ∧ W'.cell? ⟨w3.heap.size, 0, none⟩ = some (.slice A3 n c3) ∧ Below W3.heap.size W3 W')) := fun W hS =>
    (rsame_any W3.heap.size A3 A2 n n c3 c2 rs3 rs2 W ((HC3.out.more (by omega)).below hS.2.2.2.2) ((HC23.out.more (by omega)).below hS.2.2.2.2) hS.2.2.2.2.size).mono fun e W' ⟨he, hb⟩ => ⟨by rw [he, HE3.out, HE2.out]; simp, keepS W W' hS.2.2.2.2 hb⟩
  have HS3 : Hid (∀ W : World, (W.cell? ⟨w.heap.size, 0, none⟩ = some (.slice A n c) ∧ W.cell? ⟨w.heap.size + 1, 0, none⟩ = some (.slice A' m d) ∧ W.cell? ⟨w2.heap.size, 0, none⟩ = some (.slice A2 n c2) ∧ W.cell? ⟨w3.heap.size, 0, none⟩ = some (.slice A3 n c3) ∧ Below W3.heap.size W3 W) →
      Calls Try.prog 20 #[.agg #[.slice A n c], .agg #[.slice A' m d]] W fun e W' => e = .returned (.bool bq) ∧ (W'.cell? ⟨w.heap.size, 0, none⟩ = some (.slice A n c) ∧ W'.cell? ⟨w.heap.size + 1, 0, none⟩ = some (.slice A' m d) ∧ W'.cell? ⟨w2.heap.size, 0, none⟩ = some (.slice A2 n c2) ∧ W'.cell? ⟨w3.heap.size, 0, none⟩ = some (.slice A3 n c3) ∧ Below W3.heap.size W3 W')) := fun W hS =>
    (csame_any W3.heap.size A A' n m c d rs qs W ((HP3.out.more (by omega)).below hS.2.2.2.2) ((HQ3.out.more (by omega)).below hS.2.2.2.2) hS.2.2.2.2.size).mono fun e W' ⟨he, hb⟩ => ⟨by rw [he, HBQ.out], keepS W W' hS.2.2.2.2 hb⟩
  have HS4 : Hid (∀ W : World, (W.cell? ⟨w.heap.size, 0, none⟩ = some (.slice A n c) ∧ W.cell? ⟨w.heap.size + 1, 0, none⟩ = some (.slice A' m d) ∧ W.cell? ⟨w2.heap.size, 0, none⟩ = some (.slice A2 n c2) ∧ W.cell? ⟨w3.heap.size, 0, none⟩ = some (.slice A3 n c3) ∧ Below W3.heap.size W3 W) →
      Calls Try.prog 11 #[.agg #[.slice A n c], .agg #[.slice A' m d]] W fun e W' => e = .returned (.bool bq) ∧ (W'.cell? ⟨w.heap.size, 0, none⟩ = some (.slice A n c) ∧ W'.cell? ⟨w.heap.size + 1, 0, none⟩ = some (.slice A' m d) ∧ W'.cell? ⟨w2.heap.size, 0, none⟩ = some (.slice A2 n c2) ∧ W'.cell? ⟨w3.heap.size, 0, none⟩ = some (.slice A3 n c3) ∧ Below W3.heap.size W3 W')) := fun W hS =>
    (rsame_any W3.heap.size A A' n m c d rs qs W ((HP3.out.more (by omega)).below hS.2.2.2.2) ((HQ3.out.more (by omega)).below hS.2.2.2.2) hS.2.2.2.2.size).mono fun e W' ⟨he, hb⟩ => ⟨by rw [he, HBQ.out], keepS W W' hS.2.2.2.2 hb⟩
  have hb33 : Below W3.heap.size W3 W3.drew := (Below.refl _ _).drew
  clear keepS
  refine Lib.hid ?_
  go_wp2
  rw [← HW3.out]
  go_region_held3 (fun W => W.cell? ⟨w.heap.size, 0, none⟩ = some (.slice A n c) ∧ W.cell? ⟨w.heap.size + 1, 0, none⟩ = some (.slice A' m d) ∧ W.cell? ⟨w2.heap.size, 0, none⟩ = some (.slice A2 n c2) ∧ W.cell? ⟨w3.heap.size, 0, none⟩ = some (.slice A3 n c3) ∧ Below W3.heap.size W3 W)
    ((first | assumption | (refine ⟨?_, ?_, ?_, ?_, ?_⟩ <;> assumption)))
    (first
      | (go_at_call 20; with_reducible refine (HS1.out _ (by first | assumption | (refine ⟨?_, ?_, ?_, ?_, ?_⟩ <;> assumption))).mono ?_; rintro e W' ⟨rfl, hS⟩)
      | (go_at_call 20; with_reducible refine (HS3.out _ (by first | assumption | (refine ⟨?_, ?_, ?_, ?_, ?_⟩ <;> assumption))).mono ?_; rintro e W' ⟨rfl, hS⟩)
      | (go_at_call 11; with_reducible refine (HS2.out _ (by first | assumption | (refine ⟨?_, ?_, ?_, ?_, ?_⟩ <;> assumption))).mono ?_; rintro e W' ⟨rfl, hS⟩)
      | (go_at_call 11; with_reducible refine (HS4.out _ (by first | assumption | (refine ⟨?_, ?_, ?_, ?_, ?_⟩ <;> assumption))).mono ?_; rintro e W' ⟨rfl, hS⟩))
  obtain ⟨g0, g1, g2, g3, hW⟩ := hS
  have HI : Hid (MutI (w2.alloc (.cells #[.slice A2 n c2] 24)) (w2.heap.size + 1) w.heap.size w2.heap.size w3.heap.size n c c2 c3 A A2 A3 rs3 W') :=
    ⟨HSH.out.below hW, HX3.out.below hW HX3.out.lt, HZ3.out.below hW HZ3.out.lt, HV3.out.below hW HV3.out.lt, HB23.out.trans (hW.mono (by omega))⟩
  have HLN := Lib.hid HC3.out.len
  have HWF := Lib.hid HC3.out.wf
  have HND : Hid (∀ r ∈ rs3, r.ns.length = r.gr.nodes.length) := Lib.hid fun r hr => by rw [← length_nds, (HC3.out.each r hr).nd]
  have HWN : Hid (∀ r ∈ rs3, ∀ i ∈ r.ns, WfN i.nd) := Lib.hid fun r hr => (HC3.out.each r hr).nodes.wf
  clear g0 g1 g2 hW e0 e1 e2 e3 hb33 HS1 HS2 HS3 HS4 HX1 HY1 HB0 HX0 HY0 HB1 HP1 HX2 HY2 HZ2 HP2 HX3 HY3 HZ3 HV3 HC3 HSH HP3 HQ3 HC23 HW3 HBQ
  refine Lib.hid ?_
  go_wp2
  go_loopw [42] (fun i wr => ∃ k : Nat, k ≤ n ∧ i = .int .i64 k ∧ Hid (MutI (w2.alloc (.cells #[.slice A2 n c2] 24)) (w2.heap.size + 1) w.heap.size w2.heap.size w3.heap.size n c c2 c3 A A2 A3 rs3 wr)) (fun i _ => n - (intOf i).toNat)
  case atStart => exact ⟨0, Nat.zero_le _, rfl, HI⟩
  case round =>
    clear HI g3
    obtain ⟨k, hk, rfl, HI⟩ := hrel
    by_cases hlt : k < n
    · have hkl : k < rs3.length := by have := HLN.out; omega
      obtain ⟨r, HR⟩ : ∃ r, Hid (rs3[k]? = some r) := ⟨_, List.getElem?_eq_getElem hkl⟩
      have HM := Lib.hid (List.mem_of_getElem? HR.out)
      obtain ⟨g, hA3, f0, f1, f2, f3, f4, f5, f6, f7⟩ := HI.out.gr HR.out
      have d3 : wr.cell? ⟨w3.heap.size, 0, none⟩ = some (.slice A3 n c3) := HI.out.b3.cell 0
      rw [hA3] at d3
      have HA3 := Lib.hid hA3
      clear hA3
      have wp := (HWF.out r HM.out).pl
      have wk := (HWF.out r HM.out).kl
      have wi := (HWF.out r HM.out).il
      have wn := (HWF.out r HM.out).nl
      obtain ⟨nP, HNP⟩ : ∃ x, Hid (x = r.gr.params.length) := ⟨_, Lib.hid rfl⟩
      obtain ⟨nK, HNK⟩ : ∃ x, Hid (x = r.gr.kinds.length) := ⟨_, Lib.hid rfl⟩
      obtain ⟨nI, HNI⟩ : ∃ x, Hid (x = r.gr.init.length) := ⟨_, Lib.hid rfl⟩
      obtain ⟨nN, HNN⟩ : ∃ x, Hid (x = r.gr.nodes.length) := ⟨_, Lib.hid rfl⟩
      rw [← HNP.out] at f0 wp
      rw [← HNK.out] at f1 wk
      rw [← HNI.out] at f3 wi
      rw [← HNN.out] at f6 wn
      have HGN : Hid (r.ns.length = nN) := Lib.hid (by rw [HNN.out]; exact HND.out r HM.out)
      obtain ⟨q, HQ⟩ : ∃ q, Hid (q = wr.heap.size) := ⟨_, Lib.hid rfl⟩
      have hb8 : Below wr.heap.size wr (wr.alloc (.cells #[.slice r.po nP r.pc, .slice r.ko nK r.kc, .int .i64 r.gr.cells, .slice r.io nI r.ic, .bool r.gr.result, .int .i64 r.gr.keep, .slice r.no nN r.nc, .int .i64 r.gr.entry] 45)) := (Below.refl _ _).alloc (Nat.le_refl _) _
      have HJ : Hid (MutJ (w2.alloc (.cells #[.slice A2 n c2] 24)) (w2.heap.size + 1) w.heap.size w2.heap.size w3.heap.size n c c2 c3 A A2 A3 rs3 q #[.slice r.po nP r.pc, .slice r.ko nK r.kc, .int .i64 r.gr.cells, .slice r.io nI r.ic, .bool r.gr.result, .int .i64 r.gr.keep, .slice r.no nN r.nc, .int .i64 r.gr.entry] (wr.alloc (.cells #[.slice r.po nP r.pc, .slice r.ko nK r.kc, .int .i64 r.gr.cells, .slice r.io nI r.ic, .bool r.gr.result, .int .i64 r.gr.keep, .slice r.no nN r.nc, .int .i64 r.gr.entry] 45))) := Lib.hid ⟨⟨HI.out.sh.below hb8, HI.out.b0.alloc _, HI.out.b2.alloc _, HI.out.b3.alloc _, HI.out.below.alloc (by have h := HI.out.below.size; rw [hs2] at h; exact h) _⟩, by rw [HQ.out]; exact Blk.new wr _ _⟩
      clear hb8 HI
      go_wp2
      rw [← HQ.out]
      obtain ⟨v5, hv5⟩ : ∃ W, W = (wr.alloc (.cells #[.slice r.po nP r.pc, .slice r.ko nK r.kc, .int .i64 r.gr.cells, .slice r.io nI r.ic, .bool r.gr.result, .int .i64 r.gr.keep, .slice r.no nN r.nc, .int .i64 r.gr.entry] 45)) := ⟨_, rfl⟩
      rw [← hv5] at HJ ⊢
      obtain ⟨wo, rfl⟩ : ∃ wo : World, wo = wr := ⟨_, rfl⟩
      clear hv5 f0 f1 f2 f3 f4 f5 f6 f7 d3 HQ
      go_loopw [53] (fun i wr => ∃ j : Nat, j ≤ nP ∧ i = .int .i64 j ∧ Hid (MutJ (w2.alloc (.cells #[.slice A2 n c2] 24)) (w2.heap.size + 1) w.heap.size w2.heap.size w3.heap.size n c c2 c3 A A2 A3 rs3 q #[.slice r.po nP r.pc, .slice r.ko nK r.kc, .int .i64 r.gr.cells, .slice r.io nI r.ic, .bool r.gr.result, .int .i64 r.gr.keep, .slice r.no nN r.nc, .int .i64 r.gr.entry] wr)) (fun i _ => nP - (intOf i).toNat)
      case atStart => exact ⟨0, Nat.zero_le _, rfl, HJ⟩
      case round =>
        clear HJ
        obtain ⟨j, hj, rfl, HJ⟩ := hrel
        have d0 : wr.cell? ⟨q, 0, none⟩ = some (.slice r.po nP r.pc) := HJ.out.box.cell 0
        have d1 : wr.cell? ⟨q, 1, none⟩ = some (.slice r.ko nK r.kc) := HJ.out.box.cell 1
        have d3 : wr.cell? ⟨q, 3, none⟩ = some (.slice r.io nI r.ic) := HJ.out.box.cell 3
        have d6 : wr.cell? ⟨q, 6, none⟩ = some (.slice r.no nN r.nc) := HJ.out.box.cell 6
        by_cases hjl : j < nP
        · obtain ⟨gk, y, hlo, hgk, z0, zf, HKB⟩ := (HJ.out.m.sh.params r HM.out).cell (show j < r.gr.params.length by rw [← HNP.out]; exact hjl)
          rw [hlo] at d0
          clear hlo
          obtain ⟨curk, hcurk⟩ := HKB.out
          have HKK := Lib.hid hcurk
          clear hcurk
          go_wp2
          go_roundw
          case rel => exact ⟨j + 1, by omega, by go_num, HJ.out.setInt HKK.out hgk _⟩
          case measure => simp [intOf]; omega
        · obtain rfl : nP = j := by omega
          clear hjl hj
          go_wp2
          clear d0 d1 d3 d6
          obtain ⟨wonP, rfl⟩ : ∃ wo : World, wo = wr := ⟨_, rfl⟩
          go_loopw [67] (fun i wr => ∃ j : Nat, j ≤ nI ∧ i = .int .i64 j ∧ Hid (MutJ (w2.alloc (.cells #[.slice A2 n c2] 24)) (w2.heap.size + 1) w.heap.size w2.heap.size w3.heap.size n c c2 c3 A A2 A3 rs3 q #[.slice r.po nP r.pc, .slice r.ko nK r.kc, .int .i64 r.gr.cells, .slice r.io nI r.ic, .bool r.gr.result, .int .i64 r.gr.keep, .slice r.no nN r.nc, .int .i64 r.gr.entry] wr)) (fun i _ => nI - (intOf i).toNat)
          case atStart => exact ⟨0, Nat.zero_le _, rfl, HJ⟩
          case round =>
            clear HJ
            obtain ⟨j, hj, rfl, HJ⟩ := hrel
            have d0 : wr.cell? ⟨q, 0, none⟩ = some (.slice r.po nP r.pc) := HJ.out.box.cell 0
            have d1 : wr.cell? ⟨q, 1, none⟩ = some (.slice r.ko nK r.kc) := HJ.out.box.cell 1
            have d3 : wr.cell? ⟨q, 3, none⟩ = some (.slice r.io nI r.ic) := HJ.out.box.cell 3
            have d6 : wr.cell? ⟨q, 6, none⟩ = some (.slice r.no nN r.nc) := HJ.out.box.cell 6
            by_cases hjl : j < nI
            · obtain ⟨gk, y, hlo, hgk, z0, zf, HKB⟩ := (HJ.out.m.sh.init r HM.out).cell (show j < r.gr.init.length by rw [← HNI.out]; exact hjl)
              rw [hlo] at d3
              clear hlo
              obtain ⟨curk, hcurk⟩ := HKB.out
              have HKK := Lib.hid hcurk
              clear hcurk
              go_wp2
              go_roundw
              case rel => exact ⟨j + 1, by omega, by go_num, HJ.out.setInt HKK.out hgk _⟩
              case measure => simp [intOf]; omega
            · obtain rfl : nI = j := by omega
              clear hjl hj
              go_wp2
              clear d0 d1 d3 d6
              obtain ⟨wonI, rfl⟩ : ∃ wo : World, wo = wr := ⟨_, rfl⟩
              go_loopw [81] (fun i wr => ∃ j : Nat, j ≤ nK ∧ i = .int .i64 j ∧ Hid (MutJ (w2.alloc (.cells #[.slice A2 n c2] 24)) (w2.heap.size + 1) w.heap.size w2.heap.size w3.heap.size n c c2 c3 A A2 A3 rs3 q #[.slice r.po nP r.pc, .slice r.ko nK r.kc, .int .i64 r.gr.cells, .slice r.io nI r.ic, .bool r.gr.result, .int .i64 r.gr.keep, .slice r.no nN r.nc, .int .i64 r.gr.entry] wr)) (fun i _ => nK - (intOf i).toNat)
              case atStart => exact ⟨0, Nat.zero_le _, rfl, HJ⟩
              case round =>
                clear HJ
                obtain ⟨j, hj, rfl, HJ⟩ := hrel
                have d0 : wr.cell? ⟨q, 0, none⟩ = some (.slice r.po nP r.pc) := HJ.out.box.cell 0
                have d1 : wr.cell? ⟨q, 1, none⟩ = some (.slice r.ko nK r.kc) := HJ.out.box.cell 1
                have d3 : wr.cell? ⟨q, 3, none⟩ = some (.slice r.io nI r.ic) := HJ.out.box.cell 3
                have d6 : wr.cell? ⟨q, 6, none⟩ = some (.slice r.no nN r.nc) := HJ.out.box.cell 6
                by_cases hjl : j < nK
                · obtain ⟨gk, y, hlo, hgk, z0, zf, HKB⟩ := (HJ.out.m.sh.kinds r HM.out).cell (show j < r.gr.kinds.length by rw [← HNK.out]; exact hjl)
                  rw [hlo] at d1
                  clear hlo
                  obtain ⟨curk, hcurk⟩ := HKB.out
                  have HKK := Lib.hid hcurk
                  clear hcurk
                  go_wp2
                  go_roundw
                  case rel => exact ⟨j + 1, by omega, by go_num, HJ.out.setKind HKK.out hgk _⟩
                  case measure => simp [intOf]; omega
                · obtain rfl : nK = j := by omega
                  clear hjl hj
                  go_wp2
                  clear d0 d1 d3 d6
                  obtain ⟨wonK, rfl⟩ : ∃ wo : World, wo = wr := ⟨_, rfl⟩
                  go_loopw [95] (fun i wr => ∃ j : Nat, j ≤ nN ∧ i = .int .i64 j ∧ Hid (MutJ (w2.alloc (.cells #[.slice A2 n c2] 24)) (w2.heap.size + 1) w.heap.size w2.heap.size w3.heap.size n c c2 c3 A A2 A3 rs3 q #[.slice r.po nP r.pc, .slice r.ko nK r.kc, .int .i64 r.gr.cells, .slice r.io nI r.ic, .bool r.gr.result, .int .i64 r.gr.keep, .slice r.no nN r.nc, .int .i64 r.gr.entry] wr)) (fun i _ => nN - (intOf i).toNat)
                  case atStart => exact ⟨0, Nat.zero_le _, rfl, HJ⟩
                  case round =>
                    clear HJ
                    obtain ⟨j, hj, rfl, HJ⟩ := hrel
                    have d0 : wr.cell? ⟨q, 0, none⟩ = some (.slice r.po nP r.pc) := HJ.out.box.cell 0
                    have d1 : wr.cell? ⟨q, 1, none⟩ = some (.slice r.ko nK r.kc) := HJ.out.box.cell 1
                    have d3 : wr.cell? ⟨q, 3, none⟩ = some (.slice r.io nI r.ic) := HJ.out.box.cell 3
                    have d6 : wr.cell? ⟨q, 6, none⟩ = some (.slice r.no nN r.nc) := HJ.out.box.cell 6
                    by_cases hjl : j < nN
                    · obtain ⟨i, HII⟩ : ∃ i, Hid (r.ns[j]? = some i) := ⟨_, Lib.hid (List.getElem?_eq_getElem (by have := HGN.out; omega))⟩
                      have HMI := Lib.hid (List.mem_of_getElem? HII.out)
                      obtain ⟨gn, y, hno, hgn, z2, zf, z9, HNB⟩ := (HJ.out.m.sh.nodes r HM.out).cell (show j < r.gr.nodes.length by rw [← HNN.out]; exact hjl) HII.out
                      have HNO := Lib.hid hno
                      rw [hno] at d6
                      clear hno
                      obtain ⟨L, HL⟩ : ∃ x, Hid (x = i.nd.args.length) := ⟨_, Lib.hid rfl⟩
                      have wa := (HWN.out r HM.out i HMI.out).al
                      rw [← HL.out] at z9 wa
                      go_wp2
                      obtain ⟨wod, rfl⟩ : ∃ wo : World, wo = wr := ⟨_, rfl⟩
                      clear d0 d1 d3 d6 z2 zf z9 HNB
                      go_loopw [105] (fun i wr => ∃ l : Nat, l ≤ L ∧ i = .int .i64 l ∧ Hid (MutJ (w2.alloc (.cells #[.slice A2 n c2] 24)) (w2.heap.size + 1) w.heap.size w2.heap.size w3.heap.size n c c2 c3 A A2 A3 rs3 q #[.slice r.po nP r.pc, .slice r.ko nK r.kc, .int .i64 r.gr.cells, .slice r.io nI r.ic, .bool r.gr.result, .int .i64 r.gr.keep, .slice r.no nN r.nc, .int .i64 r.gr.entry] wr)) (fun i _ => L - (intOf i).toNat)
                      case atStart => exact ⟨0, Nat.zero_le _, rfl, HJ⟩
                      case round =>
                        clear HJ
                        obtain ⟨l, hl, rfl, HJ⟩ := hrel
                        have d6 : wr.cell? ⟨q, 6, none⟩ = some (.slice r.no nN r.nc) := HJ.out.box.cell 6
                        obtain ⟨gn, y, hno, hgn, z2, zf, z9, HNB⟩ := (HJ.out.m.sh.nodes r HM.out).cell (show j < r.gr.nodes.length by rw [← HNN.out]; exact hjl) HII.out
                        rw [hno] at d6
                        clear hno
                        rw [← HL.out] at z9
                        by_cases hll : l < L
                        · obtain ⟨ga, y2, hao, hga, u0, uf, HAB⟩ := (HJ.out.m.sh.args r HM.out i HMI.out).cell (show l < i.nd.args.length by rw [← HL.out]; exact hll)
                          rw [hao] at z9
                          clear hao
                          obtain ⟨curk, hcurk⟩ := HAB.out
                          have HKK := Lib.hid hcurk
                          clear hcurk
                          go_wp2
                          go_roundw
                          case rel => exact ⟨l + 1, by omega, by go_num, HJ.out.setInt HKK.out hga _⟩
                          case measure => simp [intOf]; omega
                        · obtain rfl : L = l := by omega
                          clear hll hl
                          obtain ⟨curk, hcurk⟩ := HNB.out
                          have HKK := Lib.hid hcurk
                          clear hcurk
                          go_wp2
                          go_roundw
                          case rel => exact ⟨j + 1, by omega, by go_num, HJ.out.setD HKK.out hgn _⟩
                          case measure => simp [intOf]; omega
                    · obtain rfl : nN = j := by omega
                      clear hjl hj
                      go_wp2
                      go_roundw
                      case rel => exact ⟨k + 1, by omega, by go_num, HJ.out.m⟩
                      case measure => simp [intOf]; omega
    · obtain rfl : n = k := by omega
      clear hlt hk
      have hzb := HI.out.below.size
      have HBW : Hid (Below w.heap.size w wr) := HB2.out.trans (HI.out.below.mono (by omega))
      have HPW := Lib.hid ((H.out.below HBW.out).more (show w.heap.size ≤ wr.heap.size from HBW.out.size))
      have HCW := Lib.hid ((((HC2.out.more (show w2.heap.size ≤ w2.heap.size + 1 by omega)).below HI.out.below)).more (show w2.heap.size + 1 ≤ wr.heap.size by omega))
      have d0 : wr.cell? ⟨w.heap.size, 0, none⟩ = some (.slice A n c) := HI.out.b0.cell 0
      have d2 : wr.cell? ⟨w2.heap.size, 0, none⟩ = some (.slice A2 n c2) := HI.out.b2.cell 0
      have HEE : Hid (decide (grs rs = grs rs2) = true) := Lib.hid (by rw [HE2.out]; simp)
      go_wp2_with (go_at_call 11; refine (rsame_any wr.heap.size A A2 n n c c2 rs rs2 _ HPW.out HCW.out (Nat.le_refl _)).mono ?_; rintro e w9 ⟨rfl, hb9⟩; rw [HEE.out]; refine Hid.out ?_)
      have HB9 := Lib.hid (HBW.out.trans (hb9.mono HBW.out.size))
      clear hb9
      refine Lib.hid ?_
      go_wp2
      go_ret
      exact ⟨rfl, HB9.out⟩
end Go.Proofs.Ytihfihockobpjaa
