/-
  Package ir: copyGraph.
-/
import Derived.Test.YtihfihockobpjaaCp
import Derived.Deep.RegionLaw
namespace Go.Proofs.Ytihfihockobpjaa
set_option linter.unusedVariables false
set_option linter.unusedSimpArgs false
open Go.ChangeShapes Go.WideShapes Go.ChangeAt Go.RowKit

theorem own_blk {w : World} {base size n c g : Nat} {e : TypeId} {xs : List Value} (h : w.ownsRow base e size (.slice (some ⟨g, 0, none⟩) n c) n xs) : ∃ cur, Blk w g e cur := by
  rcases h.2 with ⟨h2, _⟩ | ⟨g', cap, cur, he, _, hb, _⟩
  · cases h2
  · injection he with he
    injection he with he
    injection he with he
    subst he
    exact ⟨cur, hb⟩
/-- copyGraph's loop -/
structure CgI (w : World) (r : RG) (Ap Ak Ai An : Option Addr) (cp ck ci cn nP nK nI nN : Nat) (k : Nat) (ns : List RN) (wr : World) : Prop where
  box : Blk wr w.heap.size 45 #[.slice Ap nP cp, .slice Ak nK ck, .int .i64 r.gr.cells, .slice Ai nI ci, .bool r.gr.result, .int .i64 r.gr.keep, .slice An nN cn, .int .i64 r.gr.entry]
  res : Blk wr (w.heap.size + 1) 45 #[.slice none 0 0, .slice none 0 0, .int .i64 0, .slice none 0 0, .bool false, .int .i64 0, .slice none 0 0, .int .i64 0]
  params : wr.ownsRow w.heap.size 3 1 (.slice Ap nP cp) nP (i64c r.gr.params)
  kinds : wr.ownsRow w.heap.size 46 1 (.slice Ak nK ck) nK (u8c r.gr.kinds)
  init : wr.ownsRow w.heap.size 3 1 (.slice Ai nI ci) nI (i64c r.gr.init)
  nodes : wr.ownsRow w.heap.size 38 12 (.slice An nN cn) nN (rnc ns)
  nd : nds ns = r.gr.nodes
  new : ∀ j i, j < k → ns[j]? = some i → OwnN wr w.heap.size i
  old : ∀ j, k ≤ j → ns[j]? = r.ns[j]?
  below : Below w.heap.size w wr
theorem CgI.step {w : World} {r : RG} {Ap Ak Ai An : Option Addr} {cp ck ci cn nP nK nI nN k g c' : Nat} {A' : Option Addr} {ns : List RN} {wr w2 : World} {i : RN} (h : CgI w r Ap Ak Ai An cp ck ci cn nP nK nI nN k ns wr) (hi : ns[k]? = some i) (hA : An = some ⟨g, 0, none⟩) (hb : Below wr.heap.size wr w2)
    (ho : w2.ownsRow wr.heap.size 3 1 (.slice A' i.nd.args.length c') i.nd.args.length (i64c i.nd.args)) :
    CgI w r Ap Ak Ai An cp ck ci cn nP nK nI nN (k + 1) (ns.set k ⟨i.nd, A', c'⟩) (w2.setCell ⟨g, k * 12 + 9, none⟩ (.slice A' i.nd.args.length c')) := by
  subst hA
  have hn2 := own_below h.nodes hb
  obtain ⟨cur, hcur⟩ := own_blk hn2
  have hx2 := h.box.below hb h.box.lt
  have hy2 := h.res.below hb h.res.lt
  have hz := h.below.size
  have hbl2 := h.below.trans (hb.mono hz)
  have hkl : k < ns.length := (List.getElem?_eq_some_iff.1 hi).1
  have hgb : w.heap.size ≤ g := (own_block_le hn2 (i := g) (by rfl)).1
  refine ⟨hx2.far (p := ⟨g, k * 12 + 9, none⟩) (hx2.ne_ hcur (by decide)) _, hy2.far (p := ⟨g, k * 12 + 9, none⟩) (hy2.ne_ hcur (by decide)) _, own_far (own_below h.params hb) hcur (by decide) _ _, own_far (own_below h.kinds hb) hcur (by decide) _ _, own_far (own_below h.init hb) hcur (by decide) _ _, ?_, ?_, ?_, ?_, hbl2.setCell (p := ⟨g, k * 12 + 9, none⟩) hgb _⟩
  · have := own_set (i := k * 12 + 9) (u := .slice A' i.nd.args.length c') hn2
    rwa [rnc_set hi] at this
  · rw [← h.nd]
    unfold nds
    rw [List.map_set]
    show (ns.map RN.nd).set k i.nd = _
    refine List.ext_getElem? fun j => ?_
    rw [List.getElem?_set]
    split
    · rename_i hkj
      subst hkj
      rw [List.getElem?_map, hi]
      simp [hkl]
    · rfl
  · intro j i' hj hij
    rw [List.getElem?_set] at hij
    split at hij
    · rename_i hkj
      subst hkj
      injection hij with hij
      subst hij
      exact own_far (own_more ho hz) hcur (by decide) _ _
    · rename_i hkj
      exact own_far (own_below (h.new j i' (by omega) hij) hb) hcur (by decide) _ _
  · intro j hj
    rw [List.getElem?_set, if_neg (by omega)]
    exact h.old j (by omega)
theorem OwnG.set {w : World} {base p j : Nat} {r : RG} {u : Value} {cs : Array Value} (h : OwnG w base r) (hb : Blk w p 45 cs) : OwnG (w.setCell ⟨p, j, none⟩ u) base r :=
  ⟨own_far h.params hb (by decide) _ _, own_far h.kinds hb (by decide) _ _, own_far h.init hb (by decide) _ _, own_far h.nodes hb (by decide) _ _, fun i hi => own_far (h.each i hi) hb (by decide) _ _, h.nd⟩
theorem CgI.all8 {w : World} {base p : Nat} {r : RG} {cs : Array Value} (h : OwnG w base r) (hb : Blk w p 45 cs) (u0 u1 u2 u3 u4 u5 u6 u7 : Value) :
    OwnG ((((((((w.setCell ⟨p, 0, none⟩ u0).setCell ⟨p, 1, none⟩ u1).setCell ⟨p, 2, none⟩ u2).setCell ⟨p, 3, none⟩ u3).setCell ⟨p, 4, none⟩ u4).setCell ⟨p, 5, none⟩ u5).setCell ⟨p, 6, none⟩ u6).setCell ⟨p, 7, none⟩ u7) base r := by
  have b0 := hb.set_ 0 u0
  have b1 := b0.set_ 1 u1
  have b2 := b1.set_ 2 u2
  have b3 := b2.set_ 3 u3
  have b4 := b3.set_ 4 u4
  have b5 := b4.set_ 5 u5
  have b6 := b5.set_ 6 u6
  exact (((((((h.set hb).set b0).set b1).set b2).set b3).set b4).set b5).set b6
theorem blk_2nd (w : World) (a b : Array Value) (s t : TypeId) : Blk ((w.alloc (.cells a s)).alloc (.cells b t)) (w.heap.size + 1) t b := by
  have := Blk.new (w.alloc (.cells a s)) t b
  rwa [show (w.alloc (.cells a s)).heap.size = w.heap.size + 1 by simp] at this
set_option maxRecDepth 100000 in
set_option maxHeartbeats 6400000 in
theorem copyGraph_any (B : Nat) (r : RG) (nP nK nI nN : Nat) (w : World) (h : RdG w B r) (hw : WfG r.gr) (hB : B ≤ w.heap.size) (e1 : r.gr.params.length = nP) (e2 : r.gr.kinds.length = nK) (e3 : r.gr.init.length = nI) (e4 : r.gr.nodes.length = nN) :
    Calls Try.prog 29 #[.agg #[.slice r.po nP r.pc, .slice r.ko nK r.kc, .int .i64 r.gr.cells, .slice r.io nI r.ic, .bool r.gr.result, .int .i64 r.gr.keep, .slice r.no nN r.nc, .int .i64 r.gr.entry]] w fun e w' => ∃ (Ap Ak Ai An : Option Addr) (cp ck ci cn : Nat) (ns : List RN), e = .returned (.agg #[.slice Ap nP cp, .slice Ak nK ck, .int .i64 r.gr.cells, .slice Ai nI ci, .bool r.gr.result, .int .i64 r.gr.keep, .slice An nN cn, .int .i64 r.gr.entry]) ∧ OwnG w' w.heap.size ⟨r.gr, Ap, cp, Ak, ck, Ai, ci, An, cn, ns⟩ ∧ Below w.heap.size w w' := by
  have hlp := hw.pl
  have hlk := hw.kl
  have hli := hw.il
  have hln := hw.nl
  rw [e1] at hlp
  rw [e2] at hlk
  rw [e3] at hli
  rw [e4] at hln
  have HH := Lib.hid h
  have HW := Lib.hid hw
  have h1 := h.params
  have h2 := h.kinds
  have h3 := h.init
  have h4 := h.nodes.row
  rw [e1] at h1
  rw [e2] at h2
  rw [e3] at h3
  rw [e4] at h4
  have HRP := Lib.hid h1
  have HRK := Lib.hid h2
  have HRI := Lib.hid h3
  have HRN := Lib.hid h4
  have HE1 := Lib.hid e1
  have HE2 := Lib.hid e2
  have HE3 := Lib.hid e3
  have HE4 := Lib.hid e4
  clear h h1 h2 h3 h4 e1 e2 e3 e4 hw
  have HB1 : Hid (Below w.heap.size w ((w.alloc (.cells #[.slice r.po nP r.pc, .slice r.ko nK r.kc, .int .i64 r.gr.cells, .slice r.io nI r.ic, .bool r.gr.result, .int .i64 r.gr.keep, .slice r.no nN r.nc, .int .i64 r.gr.entry] 45)).alloc (.cells #[.slice none 0 0, .slice none 0 0, .int .i64 0, .slice none 0 0, .bool false, .int .i64 0, .slice none 0 0, .int .i64 0] 45))) := ((Below.refl _ _).alloc (Nat.le_refl _) _).alloc (by simp) _
  have HX1 : Hid (Blk ((w.alloc (.cells #[.slice r.po nP r.pc, .slice r.ko nK r.kc, .int .i64 r.gr.cells, .slice r.io nI r.ic, .bool r.gr.result, .int .i64 r.gr.keep, .slice r.no nN r.nc, .int .i64 r.gr.entry] 45)).alloc (.cells #[.slice none 0 0, .slice none 0 0, .int .i64 0, .slice none 0 0, .bool false, .int .i64 0, .slice none 0 0, .int .i64 0] 45)) w.heap.size 45 #[.slice r.po nP r.pc, .slice r.ko nK r.kc, .int .i64 r.gr.cells, .slice r.io nI r.ic, .bool r.gr.result, .int .i64 r.gr.keep, .slice r.no nN r.nc, .int .i64 r.gr.entry]) := Lib.hid ((Blk.new w 45 #[.slice r.po nP r.pc, .slice r.ko nK r.kc, .int .i64 r.gr.cells, .slice r.io nI r.ic, .bool r.gr.result, .int .i64 r.gr.keep, .slice r.no nN r.nc, .int .i64 r.gr.entry]).alloc _)
  have HY1 : Hid (Blk ((w.alloc (.cells #[.slice r.po nP r.pc, .slice r.ko nK r.kc, .int .i64 r.gr.cells, .slice r.io nI r.ic, .bool r.gr.result, .int .i64 r.gr.keep, .slice r.no nN r.nc, .int .i64 r.gr.entry] 45)).alloc (.cells #[.slice none 0 0, .slice none 0 0, .int .i64 0, .slice none 0 0, .bool false, .int .i64 0, .slice none 0 0, .int .i64 0] 45)) (w.heap.size + 1) 45 #[.slice none 0 0, .slice none 0 0, .int .i64 0, .slice none 0 0, .bool false, .int .i64 0, .slice none 0 0, .int .i64 0]) := blk_2nd _ _ _ _ _
  have HZ1 : Hid (B ≤ ((w.alloc (.cells #[.slice r.po nP r.pc, .slice r.ko nK r.kc, .int .i64 r.gr.cells, .slice r.io nI r.ic, .bool r.gr.result, .int .i64 r.gr.keep, .slice r.no nN r.nc, .int .i64 r.gr.entry] 45)).alloc (.cells #[.slice none 0 0, .slice none 0 0, .int .i64 0, .slice none 0 0, .bool false, .int .i64 0, .slice none 0 0, .int .i64 0] 45)).heap.size) := Lib.hid (by simp; omega)
  go_enter Try.func29, Try.ntmps29
  go_wp2_with (go_at_call 38; refine (newList_int B _ nP _ (i64c r.gr.params) _ (HRP.out.below (HB1.out.mono hB)) (i64c_one _) (by omega) HZ1.out).mono ?_; rintro e w2 ⟨Ap, cp, rfl, ho, hb⟩; refine Hid.out ?_)
  have hx : Blk w2 w.heap.size 45 #[.slice r.po nP r.pc, .slice r.ko nK r.kc, .int .i64 r.gr.cells, .slice r.io nI r.ic, .bool r.gr.result, .int .i64 r.gr.keep, .slice r.no nN r.nc, .int .i64 r.gr.entry] := HX1.out.below hb HX1.out.lt
  have hy : Blk w2 (w.heap.size + 1) 45 #[.slice none 0 0, .slice none 0 0, .int .i64 0, .slice none 0 0, .bool false, .int .i64 0, .slice none 0 0, .int .i64 0] := HY1.out.below hb HY1.out.lt
  have d2 : w2.cell? ⟨w.heap.size, 0, none⟩ = some (.slice r.po nP r.pc) := hx.cell 0
  have f2 : w2.frozen? ⟨w.heap.size, 0, none⟩ = false := hx.frozen 0
  have HX2 : Hid (Blk (w2.setCell ⟨w.heap.size, 0, none⟩ (.slice Ap nP cp)) w.heap.size 45 #[.slice Ap nP cp, .slice r.ko nK r.kc, .int .i64 r.gr.cells, .slice r.io nI r.ic, .bool r.gr.result, .int .i64 r.gr.keep, .slice r.no nN r.nc, .int .i64 r.gr.entry]) := Lib.hid (by exact hx.set_ 0 _)
  have HY2 : Hid (Blk (w2.setCell ⟨w.heap.size, 0, none⟩ (.slice Ap nP cp)) (w.heap.size + 1) 45 #[.slice none 0 0, .slice none 0 0, .int .i64 0, .slice none 0 0, .bool false, .int .i64 0, .slice none 0 0, .int .i64 0]) := Lib.hid (by exact hy.far (p := ⟨w.heap.size, 0, none⟩) (by show w.heap.size + 1 ≠ w.heap.size; omega) _)
  have HB2 : Hid (Below w.heap.size w (w2.setCell ⟨w.heap.size, 0, none⟩ (.slice Ap nP cp))) := Lib.hid (by exact (HB1.out.trans (hb.mono HB1.out.size)).setCell (p := ⟨w.heap.size, 0, none⟩) (Nat.le_refl _) _)
  have HZ2 : Hid (B ≤ (w2.setCell ⟨w.heap.size, 0, none⟩ (.slice Ap nP cp)).heap.size) := Lib.hid (Nat.le_trans hB HB2.out.size)
  have HO2 : Hid ((w2.setCell ⟨w.heap.size, 0, none⟩ (.slice Ap nP cp)).ownsRow w.heap.size 3 1 (.slice Ap nP cp) nP (i64c r.gr.params)) := Lib.hid (by exact own_far (own_more ho HB1.out.size) hx (by decide) 0 _)
  have hl2 : w.heap.size < w2.heap.size := hx.lt
  have q2 : w2.cell? ⟨w.heap.size, 1, none⟩ = some (.slice r.ko nK r.kc) := hx.cell 1
  clear ho hb hx hy
  refine Lib.hid ?_
  go_wp2_with (go_at_call 39; refine (newList_kind B _ nK _ (u8c r.gr.kinds) _ (HRK.out.below (HB2.out.mono hB)) (u8c_one _) (by omega) HZ2.out).mono ?_; rintro e w3 ⟨Ak, ck, rfl, ho, hb⟩; refine Hid.out ?_)
  have hx : Blk w3 w.heap.size 45 #[.slice Ap nP cp, .slice r.ko nK r.kc, .int .i64 r.gr.cells, .slice r.io nI r.ic, .bool r.gr.result, .int .i64 r.gr.keep, .slice r.no nN r.nc, .int .i64 r.gr.entry] := HX2.out.below hb HX2.out.lt
  have hy : Blk w3 (w.heap.size + 1) 45 #[.slice none 0 0, .slice none 0 0, .int .i64 0, .slice none 0 0, .bool false, .int .i64 0, .slice none 0 0, .int .i64 0] := HY2.out.below hb HY2.out.lt
  have d3 : w3.cell? ⟨w.heap.size, 1, none⟩ = some (.slice r.ko nK r.kc) := hx.cell 1
  have f3 : w3.frozen? ⟨w.heap.size, 1, none⟩ = false := hx.frozen 1
  have HX3 : Hid (Blk (w3.setCell ⟨w.heap.size, 1, none⟩ (.slice Ak nK ck)) w.heap.size 45 #[.slice Ap nP cp, .slice Ak nK ck, .int .i64 r.gr.cells, .slice r.io nI r.ic, .bool r.gr.result, .int .i64 r.gr.keep, .slice r.no nN r.nc, .int .i64 r.gr.entry]) := Lib.hid (by exact hx.set_ 1 _)
  have HY3 : Hid (Blk (w3.setCell ⟨w.heap.size, 1, none⟩ (.slice Ak nK ck)) (w.heap.size + 1) 45 #[.slice none 0 0, .slice none 0 0, .int .i64 0, .slice none 0 0, .bool false, .int .i64 0, .slice none 0 0, .int .i64 0]) := Lib.hid (by exact hy.far (p := ⟨w.heap.size, 1, none⟩) (by show w.heap.size + 1 ≠ w.heap.size; omega) _)
  have HB3 : Hid (Below w.heap.size w (w3.setCell ⟨w.heap.size, 1, none⟩ (.slice Ak nK ck))) := Lib.hid (by exact (HB2.out.trans (hb.mono HB2.out.size)).setCell (p := ⟨w.heap.size, 1, none⟩) (Nat.le_refl _) _)
  have HZ3 : Hid (B ≤ (w3.setCell ⟨w.heap.size, 1, none⟩ (.slice Ak nK ck)).heap.size) := Lib.hid (Nat.le_trans hB HB3.out.size)
  have HO3 : Hid ((w3.setCell ⟨w.heap.size, 1, none⟩ (.slice Ak nK ck)).ownsRow w.heap.size 46 1 (.slice Ak nK ck) nK (u8c r.gr.kinds)) := Lib.hid (by exact own_far (own_more ho HB2.out.size) hx (by decide) 1 _)
  have HO2' : Hid ((w3.setCell ⟨w.heap.size, 1, none⟩ (.slice Ak nK ck)).ownsRow w.heap.size 3 1 (.slice Ap nP cp) nP (i64c r.gr.params)) := Lib.hid (by exact own_far (own_below HO2.out hb) hx (by decide) 1 _)
  clear HO2
  have HO2 := HO2'
  clear HO2'
  have hl3 : w.heap.size < w3.heap.size := hx.lt
  have q3 : w3.cell? ⟨w.heap.size, 3, none⟩ = some (.slice r.io nI r.ic) := hx.cell 3
  clear ho hb hx hy
  refine Lib.hid ?_
  go_wp2_with (go_at_call 38; refine (newList_int B _ nI _ (i64c r.gr.init) _ (HRI.out.below (HB3.out.mono hB)) (i64c_one _) (by omega) HZ3.out).mono ?_; rintro e w4 ⟨Ai, ci, rfl, ho, hb⟩; refine Hid.out ?_)
  have hx : Blk w4 w.heap.size 45 #[.slice Ap nP cp, .slice Ak nK ck, .int .i64 r.gr.cells, .slice r.io nI r.ic, .bool r.gr.result, .int .i64 r.gr.keep, .slice r.no nN r.nc, .int .i64 r.gr.entry] := HX3.out.below hb HX3.out.lt
  have hy : Blk w4 (w.heap.size + 1) 45 #[.slice none 0 0, .slice none 0 0, .int .i64 0, .slice none 0 0, .bool false, .int .i64 0, .slice none 0 0, .int .i64 0] := HY3.out.below hb HY3.out.lt
  have d4 : w4.cell? ⟨w.heap.size, 3, none⟩ = some (.slice r.io nI r.ic) := hx.cell 3
  have f4 : w4.frozen? ⟨w.heap.size, 3, none⟩ = false := hx.frozen 3
  have HX4 : Hid (Blk (w4.setCell ⟨w.heap.size, 3, none⟩ (.slice Ai nI ci)) w.heap.size 45 #[.slice Ap nP cp, .slice Ak nK ck, .int .i64 r.gr.cells, .slice Ai nI ci, .bool r.gr.result, .int .i64 r.gr.keep, .slice r.no nN r.nc, .int .i64 r.gr.entry]) := Lib.hid (by exact hx.set_ 3 _)
  have HY4 : Hid (Blk (w4.setCell ⟨w.heap.size, 3, none⟩ (.slice Ai nI ci)) (w.heap.size + 1) 45 #[.slice none 0 0, .slice none 0 0, .int .i64 0, .slice none 0 0, .bool false, .int .i64 0, .slice none 0 0, .int .i64 0]) := Lib.hid (by exact hy.far (p := ⟨w.heap.size, 3, none⟩) (by show w.heap.size + 1 ≠ w.heap.size; omega) _)
  have HB4 : Hid (Below w.heap.size w (w4.setCell ⟨w.heap.size, 3, none⟩ (.slice Ai nI ci))) := Lib.hid (by exact (HB3.out.trans (hb.mono HB3.out.size)).setCell (p := ⟨w.heap.size, 3, none⟩) (Nat.le_refl _) _)
  have HZ4 : Hid (B ≤ (w4.setCell ⟨w.heap.size, 3, none⟩ (.slice Ai nI ci)).heap.size) := Lib.hid (Nat.le_trans hB HB4.out.size)
  have HO4 : Hid ((w4.setCell ⟨w.heap.size, 3, none⟩ (.slice Ai nI ci)).ownsRow w.heap.size 3 1 (.slice Ai nI ci) nI (i64c r.gr.init)) := Lib.hid (by exact own_far (own_more ho HB3.out.size) hx (by decide) 3 _)
  have HO2' : Hid ((w4.setCell ⟨w.heap.size, 3, none⟩ (.slice Ai nI ci)).ownsRow w.heap.size 3 1 (.slice Ap nP cp) nP (i64c r.gr.params)) := Lib.hid (by exact own_far (own_below HO2.out hb) hx (by decide) 3 _)
  clear HO2
  have HO2 := HO2'
  clear HO2'
  have HO3' : Hid ((w4.setCell ⟨w.heap.size, 3, none⟩ (.slice Ai nI ci)).ownsRow w.heap.size 46 1 (.slice Ak nK ck) nK (u8c r.gr.kinds)) := Lib.hid (by exact own_far (own_below HO3.out hb) hx (by decide) 3 _)
  clear HO3
  have HO3 := HO3'
  clear HO3'
  have hl4 : w.heap.size < w4.heap.size := hx.lt
  have q4 : w4.cell? ⟨w.heap.size, 6, none⟩ = some (.slice r.no nN r.nc) := hx.cell 6
  clear ho hb hx hy
  refine Lib.hid ?_
  go_wp2_with (go_at_call 40; refine (newList_node B _ nN _ (rnc r.ns) _ (HRN.out.below (HB4.out.mono hB)) (rnc_one _) (by omega) HZ4.out).mono ?_; rintro e w5 ⟨An, cn, rfl, ho, hb⟩; refine Hid.out ?_)
  have hx : Blk w5 w.heap.size 45 #[.slice Ap nP cp, .slice Ak nK ck, .int .i64 r.gr.cells, .slice Ai nI ci, .bool r.gr.result, .int .i64 r.gr.keep, .slice r.no nN r.nc, .int .i64 r.gr.entry] := HX4.out.below hb HX4.out.lt
  have hy : Blk w5 (w.heap.size + 1) 45 #[.slice none 0 0, .slice none 0 0, .int .i64 0, .slice none 0 0, .bool false, .int .i64 0, .slice none 0 0, .int .i64 0] := HY4.out.below hb HY4.out.lt
  have d5 : w5.cell? ⟨w.heap.size, 6, none⟩ = some (.slice r.no nN r.nc) := hx.cell 6
  have f5 : w5.frozen? ⟨w.heap.size, 6, none⟩ = false := hx.frozen 6
  have HX5 : Hid (Blk (w5.setCell ⟨w.heap.size, 6, none⟩ (.slice An nN cn)) w.heap.size 45 #[.slice Ap nP cp, .slice Ak nK ck, .int .i64 r.gr.cells, .slice Ai nI ci, .bool r.gr.result, .int .i64 r.gr.keep, .slice An nN cn, .int .i64 r.gr.entry]) := Lib.hid (by exact hx.set_ 6 _)
  have HY5 : Hid (Blk (w5.setCell ⟨w.heap.size, 6, none⟩ (.slice An nN cn)) (w.heap.size + 1) 45 #[.slice none 0 0, .slice none 0 0, .int .i64 0, .slice none 0 0, .bool false, .int .i64 0, .slice none 0 0, .int .i64 0]) := Lib.hid (by exact hy.far (p := ⟨w.heap.size, 6, none⟩) (by show w.heap.size + 1 ≠ w.heap.size; omega) _)
  have HB5 : Hid (Below w.heap.size w (w5.setCell ⟨w.heap.size, 6, none⟩ (.slice An nN cn))) := Lib.hid (by exact (HB4.out.trans (hb.mono HB4.out.size)).setCell (p := ⟨w.heap.size, 6, none⟩) (Nat.le_refl _) _)
  have HZ5 : Hid (B ≤ (w5.setCell ⟨w.heap.size, 6, none⟩ (.slice An nN cn)).heap.size) := Lib.hid (Nat.le_trans hB HB5.out.size)
  have HO5 : Hid ((w5.setCell ⟨w.heap.size, 6, none⟩ (.slice An nN cn)).ownsRow w.heap.size 38 12 (.slice An nN cn) nN (rnc r.ns)) := Lib.hid (by exact own_far (own_more ho HB4.out.size) hx (by decide) 6 _)
  have HO2' : Hid ((w5.setCell ⟨w.heap.size, 6, none⟩ (.slice An nN cn)).ownsRow w.heap.size 3 1 (.slice Ap nP cp) nP (i64c r.gr.params)) := Lib.hid (by exact own_far (own_below HO2.out hb) hx (by decide) 6 _)
  clear HO2
  have HO2 := HO2'
  clear HO2'
  have HO3' : Hid ((w5.setCell ⟨w.heap.size, 6, none⟩ (.slice An nN cn)).ownsRow w.heap.size 46 1 (.slice Ak nK ck) nK (u8c r.gr.kinds)) := Lib.hid (by exact own_far (own_below HO3.out hb) hx (by decide) 6 _)
  clear HO3
  have HO3 := HO3'
  clear HO3'
  have HO4' : Hid ((w5.setCell ⟨w.heap.size, 6, none⟩ (.slice An nN cn)).ownsRow w.heap.size 3 1 (.slice Ai nI ci) nI (i64c r.gr.init)) := Lib.hid (by exact own_far (own_below HO4.out hb) hx (by decide) 6 _)
  clear HO4
  have HO4 := HO4'
  clear HO4'
  have hl5 : w.heap.size < w5.heap.size := hx.lt
  have q5 : w5.cell? ⟨w.heap.size, 0, none⟩ = some (.slice Ap nP cp) := hx.cell 0
  clear ho hb hx hy
  refine Lib.hid ?_
  have hlen : r.ns.length = nN := by rw [← length_nds, HH.out.nd, HE4.out]
  have HI5 : Hid (CgI w r Ap Ak Ai An cp ck ci cn nP nK nI nN 0 r.ns (w5.setCell ⟨w.heap.size, 6, none⟩ (.slice An nN cn))) := Lib.hid ⟨HX5.out, HY5.out, HO2.out, HO3.out, HO4.out, HO5.out, HH.out.nd, (fun j i hj _ => by omega), (fun j _ => rfl), HB5.out⟩
  have HNS := Lib.hid HH.out.nodes
  obtain ⟨v5, hv5⟩ : ∃ W, W = (w5.setCell ⟨w.heap.size, 6, none⟩ (.slice An nN cn)) := ⟨_, rfl⟩
  go_wp2
  rw [← hv5] at HI5 ⊢
  clear hv5 HX2 HX3 HX4 HX5 HY1 HY2 HY3 HY4 HY5 HO2 HO3 HO4 HO5 HB1 HB2 HB3 HB4 HB5 HZ1 HZ2 HZ3 HZ4 HZ5 HX1 HRP HRK HRI HRN d2 d3 d4 d5 f2 f3 f4 f5 q2 q3 q4 q5
  go_loopw [23] (fun i wr => ∃ (k : Nat) (ns : List RN), k ≤ nN ∧ i = .int .i64 k ∧ Hid (CgI w r Ap Ak Ai An cp ck ci cn nP nK nI nN k ns wr)) (fun i _ => nN - (intOf i).toNat)
  case atStart => exact ⟨0, r.ns, Nat.zero_le _, rfl, HI5⟩
  case round =>
    clear HI5
    obtain ⟨k, ns, hk, rfl, HI⟩ := hrel
    have hz := HI.out.below.size
    have x6 : wr.cell? ⟨w.heap.size, 6, none⟩ = some (.slice An nN cn) := HI.out.box.cell 6
    have hxl := HI.out.box.lt
    by_cases hlt : k < nN
    · have hnsl : ns.length = nN := by rw [← length_nds, HI.out.nd, HE4.out]
      obtain ⟨i, hi⟩ : ∃ i, ns[k]? = some i := ⟨_, List.getElem?_eq_getElem (by omega)⟩
      have hri : r.ns[k]? = some i := by rw [← HI.out.old k (Nat.le_refl _)]; exact hi
      have him := List.mem_of_getElem? hri
      obtain ⟨L, hL⟩ : ∃ L, L = i.nd.args.length := ⟨_, rfl⟩
      have har : Reads wr B 1 i.ao L (i64c i.nd.args) := by
        rw [hL]
        exact (HNS.out.each i him).args.below (HI.out.below.mono hB)
      have hal : L * 8 ≤ 140737488351232 := by rw [hL]; exact (HNS.out.wf i him).al
      have h9 : (rnc ns)[k * 12 + 9]? = some (.slice i.ao L i.ac) := by rw [hL]; exact (rnc_at hi).2.2.2.2.2.2.2.2.2.1
      obtain ⟨g, hAn, hgb, hgl, hgc, hgf⟩ := own_at HI.out.nodes h9
      have HAR := Lib.hid har
      have HIX := Lib.hid hi
      have HLL := Lib.hid hL
      have HAN := Lib.hid hAn
      rw [hAn] at x6
      have hBr : B ≤ wr.heap.size := by omega
      have h9' : wr.cell? ⟨g, 0 + k * 12 + 9, none⟩ = some (.slice i.ao L i.ac) := by rw [Nat.zero_add]; exact hgc
      clear hnsl hi hri him har h9 hL hAn
      go_wp2
      go_region_law (first
        | (go_simp; go_at_call 38; refine (newList_int B _ L _ (i64c i.nd.args) _ (by first | exact HAR.out | exact HAR.out.drew) (i64c_one _) (by omega) (by first | exact hBr | exact hBr)).mono ?_; rintro e w7 ⟨A7, c7, rfl, ho7, hb7⟩; have hb8 : Below wr.heap.size wr w7 := (by first | exact hb7 | exact (Below.refl _ _).drew.trans hb7); have y6 : w7.cell? ⟨w.heap.size, 6, none⟩ = some (.slice (some ⟨g, 0, none⟩) nN cn) := (hb8.cell (p := ⟨w.heap.size, 6, none⟩) hxl).trans x6; have yg := (hb8.cell (p := ⟨g, k * 12 + 9, none⟩) hgl).trans hgc; have yf : w7.frozen? ⟨g, k * 12 + 9, none⟩ = false := (by have hq := own_at (own_below HI.out.nodes hb8) (by rw [HLL.out]; exact (rnc_at HIX.out).2.2.2.2.2.2.2.2.2.1 : (rnc ns)[k * 12 + 9]? = some (.slice i.ao L i.ac)); obtain ⟨g2, e2, _, _, _, f2⟩ := hq; rw [HAN.out] at e2; injection e2 with e2; injection e2 with e2; subst e2; exact f2); have HS7 := Lib.hid (HI.out.step HIX.out HAN.out hb8 (by rw [← HLL.out]; exact ho7)); clear hb7 hb8 ho7))
      all_goals
        rw [← HLL.out] at HS7
        go_wp2
        go_roundw
        case rel => exact ⟨k + 1, _, by omega, by go_num, HS7⟩
        case measure => simp [intOf]; omega
    · obtain rfl : nN = k := by omega
      have b0 : wr.cell? ⟨w.heap.size, 0, none⟩ = some (.slice Ap nP cp) := HI.out.box.cell 0
      have b1 : wr.cell? ⟨w.heap.size, 1, none⟩ = some (.slice Ak nK ck) := HI.out.box.cell 1
      have b2 : wr.cell? ⟨w.heap.size, 2, none⟩ = some (.int .i64 r.gr.cells) := HI.out.box.cell 2
      have b3 : wr.cell? ⟨w.heap.size, 3, none⟩ = some (.slice Ai nI ci) := HI.out.box.cell 3
      have b4 : wr.cell? ⟨w.heap.size, 4, none⟩ = some (.bool r.gr.result) := HI.out.box.cell 4
      have b5 : wr.cell? ⟨w.heap.size, 5, none⟩ = some (.int .i64 r.gr.keep) := HI.out.box.cell 5
      have b7 : wr.cell? ⟨w.heap.size, 7, none⟩ = some (.int .i64 r.gr.entry) := HI.out.box.cell 7
      have b6 : wr.cell? ⟨w.heap.size, 6, none⟩ = some (.slice An nN cn) := HI.out.box.cell 6
      have z0 : wr.cell? ⟨w.heap.size + 1, 0, none⟩ = some (.slice none 0 0) := HI.out.res.cell 0
      have zf0 : wr.frozen? ⟨w.heap.size + 1, 0, none⟩ = false := HI.out.res.frozen 0
      have z1 : wr.cell? ⟨w.heap.size + 1, 1, none⟩ = some (.slice none 0 0) := HI.out.res.cell 1
      have zf1 : wr.frozen? ⟨w.heap.size + 1, 1, none⟩ = false := HI.out.res.frozen 1
      have z2 : wr.cell? ⟨w.heap.size + 1, 2, none⟩ = some (.int .i64 0) := HI.out.res.cell 2
      have zf2 : wr.frozen? ⟨w.heap.size + 1, 2, none⟩ = false := HI.out.res.frozen 2
      have z3 : wr.cell? ⟨w.heap.size + 1, 3, none⟩ = some (.slice none 0 0) := HI.out.res.cell 3
      have zf3 : wr.frozen? ⟨w.heap.size + 1, 3, none⟩ = false := HI.out.res.frozen 3
      have z4 : wr.cell? ⟨w.heap.size + 1, 4, none⟩ = some (.bool false) := HI.out.res.cell 4
      have zf4 : wr.frozen? ⟨w.heap.size + 1, 4, none⟩ = false := HI.out.res.frozen 4
      have z5 : wr.cell? ⟨w.heap.size + 1, 5, none⟩ = some (.int .i64 0) := HI.out.res.cell 5
      have zf5 : wr.frozen? ⟨w.heap.size + 1, 5, none⟩ = false := HI.out.res.frozen 5
      have z6 : wr.cell? ⟨w.heap.size + 1, 6, none⟩ = some (.slice none 0 0) := HI.out.res.cell 6
      have zf6 : wr.frozen? ⟨w.heap.size + 1, 6, none⟩ = false := HI.out.res.frozen 6
      have z7 : wr.cell? ⟨w.heap.size + 1, 7, none⟩ = some (.int .i64 0) := HI.out.res.cell 7
      have zf7 : wr.frozen? ⟨w.heap.size + 1, 7, none⟩ = false := HI.out.res.frozen 7
      have hzz := HI.out.res.lt
      have HD : Hid (OwnG ((((((((wr.setCell ⟨w.heap.size + 1, 0, none⟩ (.slice Ap nP cp)).setCell ⟨w.heap.size + 1, 1, none⟩ (.slice Ak nK ck)).setCell ⟨w.heap.size + 1, 2, none⟩ (.int .i64 r.gr.cells)).setCell ⟨w.heap.size + 1, 3, none⟩ (.slice Ai nI ci)).setCell ⟨w.heap.size + 1, 4, none⟩ (.bool r.gr.result)).setCell ⟨w.heap.size + 1, 5, none⟩ (.int .i64 r.gr.keep)).setCell ⟨w.heap.size + 1, 6, none⟩ (.slice An nN cn)).setCell ⟨w.heap.size + 1, 7, none⟩ (.int .i64 r.gr.entry)) w.heap.size ⟨r.gr, Ap, cp, Ak, ck, Ai, ci, An, cn, ns⟩ ∧ Below w.heap.size w ((((((((wr.setCell ⟨w.heap.size + 1, 0, none⟩ (.slice Ap nP cp)).setCell ⟨w.heap.size + 1, 1, none⟩ (.slice Ak nK ck)).setCell ⟨w.heap.size + 1, 2, none⟩ (.int .i64 r.gr.cells)).setCell ⟨w.heap.size + 1, 3, none⟩ (.slice Ai nI ci)).setCell ⟨w.heap.size + 1, 4, none⟩ (.bool r.gr.result)).setCell ⟨w.heap.size + 1, 5, none⟩ (.int .i64 r.gr.keep)).setCell ⟨w.heap.size + 1, 6, none⟩ (.slice An nN cn)).setCell ⟨w.heap.size + 1, 7, none⟩ (.int .i64 r.gr.entry))) := Lib.hid ⟨by
        refine CgI.all8 ?_ HI.out.res _ _ _ _ _ _ _ _
        exact ⟨by show World.ownsRow _ _ _ _ (.slice Ap r.gr.params.length cp) _ _; rw [HE1.out]; exact HI.out.params, by show World.ownsRow _ _ _ _ (.slice Ak r.gr.kinds.length ck) _ _; rw [HE2.out]; exact HI.out.kinds, by show World.ownsRow _ _ _ _ (.slice Ai r.gr.init.length ci) _ _; rw [HE3.out]; exact HI.out.init, by show World.ownsRow _ _ _ _ (.slice An r.gr.nodes.length cn) _ _; rw [HE4.out]; exact HI.out.nodes, (fun i hi => by
          obtain ⟨j, hj⟩ := List.mem_iff_getElem?.1 hi
          have hjl := (List.getElem?_eq_some_iff.1 hj).1
          exact HI.out.new j i (by rw [← length_nds, HI.out.nd, HE4.out] at hjl; exact hjl) hj), HI.out.nd⟩, by
        have h1 : w.heap.size ≤ w.heap.size + 1 := Nat.le_succ _
        exact (((((((HI.out.below.setCell (p := ⟨w.heap.size + 1, 0, none⟩) h1 _).setCell (p := ⟨w.heap.size + 1, 1, none⟩) h1 _).setCell (p := ⟨w.heap.size + 1, 2, none⟩) h1 _).setCell (p := ⟨w.heap.size + 1, 3, none⟩) h1 _).setCell (p := ⟨w.heap.size + 1, 4, none⟩) h1 _).setCell (p := ⟨w.heap.size + 1, 5, none⟩) h1 _).setCell (p := ⟨w.heap.size + 1, 6, none⟩) h1 _).setCell (p := ⟨w.heap.size + 1, 7, none⟩) h1 _⟩
      go_wp2
      exact bodyPost_ret (v := .agg #[.slice Ap nP cp, .slice Ak nK ck, .int .i64 r.gr.cells, .slice Ai nI ci, .bool r.gr.result, .int .i64 r.gr.keep, .slice An nN cn, .int .i64 r.gr.entry]) (by simp [results, Try.results29, go_sem, z0, z1, z2, z3, z4, z5, z6, z7]) rfl ⟨_, _, _, _, _, _, _, _, ns, rfl, HD.out.1, HD.out.2⟩
end Go.Proofs.Ytihfihockobpjaa
