/-
  The document's Copy.
-/
import Derived.Test.YtihfihockobpjaaCq
namespace Go.Proofs.Ytihfihockobpjaa
set_option linter.unusedVariables false
set_option linter.unusedSimpArgs false
open Go.ChangeShapes Go.WideShapes Go.ChangeAt Go.RowKit

/-- the document's inner loop -/
structure CgJ (w : World) (r : RG) (Ap Ak Ai An : Option Addr) (cp ck ci cn nP nK nI nN : Nat) (k : Nat) (ns : List RN) (wr : World) : Prop where
  box : Blk wr w.heap.size 45 #[.slice Ap nP cp, .slice Ak nK ck, .int .i64 r.gr.cells, .slice Ai nI ci, .bool r.gr.result, .int .i64 r.gr.keep, .slice An nN cn, .int .i64 r.gr.entry]
  params : wr.ownsRow w.heap.size 3 1 (.slice Ap nP cp) nP (i64c r.gr.params)
  kinds : wr.ownsRow w.heap.size 46 1 (.slice Ak nK ck) nK (u8c r.gr.kinds)
  init : wr.ownsRow w.heap.size 3 1 (.slice Ai nI ci) nI (i64c r.gr.init)
  nodes : wr.ownsRow w.heap.size 38 12 (.slice An nN cn) nN (rnc ns)
  nd : nds ns = r.gr.nodes
  new : ∀ j i, j < k → ns[j]? = some i → OwnN wr w.heap.size i
  old : ∀ j, k ≤ j → ns[j]? = r.ns[j]?
  below : Below w.heap.size w wr
theorem CgJ.step {w : World} {r : RG} {Ap Ak Ai An : Option Addr} {cp ck ci cn nP nK nI nN k g c' : Nat} {A' : Option Addr} {ns : List RN} {wr w2 : World} {i : RN} (h : CgJ w r Ap Ak Ai An cp ck ci cn nP nK nI nN k ns wr) (hi : ns[k]? = some i) (hA : An = some ⟨g, 0, none⟩) (hb : Below wr.heap.size wr w2)
    (ho : w2.ownsRow wr.heap.size 3 1 (.slice A' i.nd.args.length c') i.nd.args.length (i64c i.nd.args)) :
    CgJ w r Ap Ak Ai An cp ck ci cn nP nK nI nN (k + 1) (ns.set k ⟨i.nd, A', c'⟩) (w2.setCell ⟨g, k * 12 + 9, none⟩ (.slice A' i.nd.args.length c')) := by
  subst hA
  have hn2 := own_below h.nodes hb
  obtain ⟨cur, hcur⟩ := own_blk hn2
  have hx2 := h.box.below hb h.box.lt
  have hz := h.below.size
  have hbl2 := h.below.trans (hb.mono hz)
  have hkl : k < ns.length := (List.getElem?_eq_some_iff.1 hi).1
  have hgb : w.heap.size ≤ g := (own_block_le hn2 (i := g) (by rfl)).1
  refine ⟨hx2.far (p := ⟨g, k * 12 + 9, none⟩) (hx2.ne_ hcur (by decide)) _, own_far (own_below h.params hb) hcur (by decide) _ _, own_far (own_below h.kinds hb) hcur (by decide) _ _, own_far (own_below h.init hb) hcur (by decide) _ _, ?_, ?_, ?_, ?_, hbl2.setCell (p := ⟨g, k * 12 + 9, none⟩) hgb _⟩
  · have := own_set (i := k * 12 + 9) (u := .slice A' i.nd.args.length c') hn2
    rwa [rnc_set hi] at this
  · rw [← h.nd]
    unfold nds
    rw [List.map_set]
    show (ns.map RN.nd).set k i.nd = _
    refine List.ext_getElem? fun j => ?_
    rw [List.getElem?_set]
    split
    · rename_i hkj
      subst hkj
      rw [List.getElem?_map, hi]
      simp [hkl]
    · rfl
  · intro j i' hj hij
    rw [List.getElem?_set] at hij
    split at hij
    · rename_i hkj
      subst hkj
      injection hij with hij
      subst hij
      exact own_far (own_more ho hz) hcur (by decide) _ _
    · rename_i hkj
      exact own_far (own_below (h.new j i' (by omega) hij) hb) hcur (by decide) _ _
  · intro j hj
    rw [List.getElem?_set, if_neg (by omega)]
    exact h.old j (by omega)

set_option maxRecDepth 100000 in
set_option maxHeartbeats 12800000 in
theorem rcopy_any (B : Nat) (A : Option Addr) (n c : Nat) (rs : List RG) (w : World) (h : RdP w B A n rs) (hB : B ≤ w.heap.size) :
    Calls Try.prog 8 #[.agg #[.slice A n c]] w (CpE w n (grs rs)) := by
  have hsz := h.sz
  have H := Lib.hid h
  have HN : Hid ((grs rs).length = n) := Lib.hid (by rw [length_grs, h.len])
  have HW0 : Hid (Below w.heap.size w (((w.alloc (.cells #[.slice A n c] 24)).alloc (.cells #[.slice none 0 0] 24)).alloc (.cells #[.slice none 0 0] 24))) := (((Below.refl _ _).alloc (Nat.le_refl _) _).alloc (by simp) _).alloc (by simp; omega) _
  have HI0 : Hid (CpI w (w.heap.size + 2) (grs rs) [] 0 none 0 (((w.alloc (.cells #[.slice A n c] 24)).alloc (.cells #[.slice none 0 0] 24)).alloc (.cells #[.slice none 0 0] 24))) := by
    refine ⟨?_, (blk_2nd w _ _ _ _).alloc _, own_none _ _ _ _, (fun r hr => by cases hr), rfl, HW0.out, SepK.nil⟩
    have := Blk.new ((w.alloc (.cells #[.slice A n c] 24)).alloc (.cells #[.slice none 0 0] 24)) 24 #[.slice none 0 0]
    rw [show ((w.alloc (.cells #[.slice A n c] 24)).alloc (.cells #[.slice none 0 0] 24)).heap.size = w.heap.size + 2 by simp] at this
    exact this
  clear h HW0
  go_enter Try.func8, Try.ntmps8
  go_wp2
  go_loopw [10] (fun i wr => ∃ (rs' : List RG) (k : Nat) (A : Option Addr) (c : Nat), k ≤ n ∧ i = .int .i64 k ∧ Hid (CpI w (w.heap.size + 2) (grs rs) rs' k A c wr)) (fun i _ => n - (intOf i).toNat)
  case atStart => exact ⟨[], 0, none, 0, Nat.zero_le _, rfl, HI0⟩
  case round =>
    clear HI0
    obtain ⟨rs', k, Aq, cq, hk, rfl, HI⟩ := hrel
    have hz := HI.out.below.size
    have hpz := HI.out.blk.lt
    by_cases hlt : k < n
    · obtain ⟨b, off, r, rfl, hbk, HX, HRG, HWG, x0, x1, x2, x3, x4, x5, x6, x7⟩ := (H.out.below (HI.out.below.mono hB)).gr hlt
      have HXK : Hid ((grs rs)[k]? = some r.gr) := Lib.hid (by unfold grs; rw [List.getElem?_map, HX.out]; rfl)
      have hbr : b < wr.heap.size := by omega
      have hlp := HWG.out.pl
      have hlk := HWG.out.kl
      have hli := HWG.out.il
      have hln := HWG.out.nl
      have h1 := HRG.out.params
      have h2 := HRG.out.kinds
      have h3 := HRG.out.init
      have h4 := HRG.out.nodes.row
      obtain ⟨nP, e1⟩ : ∃ x, r.gr.params.length = x := ⟨_, rfl⟩
      obtain ⟨nK, e2⟩ : ∃ x, r.gr.kinds.length = x := ⟨_, rfl⟩
      obtain ⟨nI, e3⟩ : ∃ x, r.gr.init.length = x := ⟨_, rfl⟩
      obtain ⟨nN, e4⟩ : ∃ x, r.gr.nodes.length = x := ⟨_, rfl⟩
      rw [e1] at hlp x0 h1
      rw [e2] at hlk x1 h2
      rw [e3] at hli x3 h3
      rw [e4] at hln x6 h4
      have HRP := Lib.hid h1
      have HRK := Lib.hid h2
      have HRI := Lib.hid h3
      have HRN := Lib.hid h4
      have HE1 := Lib.hid e1
      have HE2 := Lib.hid e2
      have HE3 := Lib.hid e3
      have HE4 := Lib.hid e4
      clear h1 h2 h3 h4 e1 e2 e3 e4 HX
      have hBr : B ≤ wr.heap.size := by omega
      have HB1 : Hid (Below wr.heap.size wr (wr.alloc (.cells #[.slice r.po nP r.pc, .slice r.ko nK r.kc, .int .i64 r.gr.cells, .slice r.io nI r.ic, .bool r.gr.result, .int .i64 r.gr.keep, .slice r.no nN r.nc, .int .i64 r.gr.entry] 45))) := (Below.refl _ _).alloc (Nat.le_refl _) _
      have HX1 : Hid (Blk (wr.alloc (.cells #[.slice r.po nP r.pc, .slice r.ko nK r.kc, .int .i64 r.gr.cells, .slice r.io nI r.ic, .bool r.gr.result, .int .i64 r.gr.keep, .slice r.no nN r.nc, .int .i64 r.gr.entry] 45)) wr.heap.size 45 #[.slice r.po nP r.pc, .slice r.ko nK r.kc, .int .i64 r.gr.cells, .slice r.io nI r.ic, .bool r.gr.result, .int .i64 r.gr.keep, .slice r.no nN r.nc, .int .i64 r.gr.entry]) := Lib.hid (Blk.new wr 45 #[.slice r.po nP r.pc, .slice r.ko nK r.kc, .int .i64 r.gr.cells, .slice r.io nI r.ic, .bool r.gr.result, .int .i64 r.gr.keep, .slice r.no nN r.nc, .int .i64 r.gr.entry])
      have HS1 : Hid ((wr.alloc (.cells #[.slice r.po nP r.pc, .slice r.ko nK r.kc, .int .i64 r.gr.cells, .slice r.io nI r.ic, .bool r.gr.result, .int .i64 r.gr.keep, .slice r.no nN r.nc, .int .i64 r.gr.entry] 45)).heap.size = wr.heap.size + 1) := Lib.hid (by simp)
      have HEB2 : Hid (Below wr.heap.size wr ((wr.alloc (.cells #[.slice r.po nP r.pc, .slice r.ko nK r.kc, .int .i64 r.gr.cells, .slice r.io nI r.ic, .bool r.gr.result, .int .i64 r.gr.keep, .slice r.no nN r.nc, .int .i64 r.gr.entry] 45)).alloc (.cells #[] 3))) := Lib.hid (HB1.out.alloc HB1.out.size _)
      have HEX2 : Hid (Blk ((wr.alloc (.cells #[.slice r.po nP r.pc, .slice r.ko nK r.kc, .int .i64 r.gr.cells, .slice r.io nI r.ic, .bool r.gr.result, .int .i64 r.gr.keep, .slice r.no nN r.nc, .int .i64 r.gr.entry] 45)).alloc (.cells #[] 3)) wr.heap.size 45 #[.slice r.po nP r.pc, .slice r.ko nK r.kc, .int .i64 r.gr.cells, .slice r.io nI r.ic, .bool r.gr.result, .int .i64 r.gr.keep, .slice r.no nN r.nc, .int .i64 r.gr.entry]) := Lib.hid (HX1.out.alloc _)
      have HEO2 : Hid (((wr.alloc (.cells #[.slice r.po nP r.pc, .slice r.ko nK r.kc, .int .i64 r.gr.cells, .slice r.io nI r.ic, .bool r.gr.result, .int .i64 r.gr.keep, .slice r.no nN r.nc, .int .i64 r.gr.entry] 45)).alloc (.cells #[] 3)).ownsRow wr.heap.size 3 1 (.slice (some ⟨wr.heap.size + 1, 0, none⟩) 0 0) 0 []) := by
        have := World.ownsRow_made (base := wr.heap.size) (e := 3) (size := 1) (wr.alloc (.cells #[.slice r.po nP r.pc, .slice r.ko nK r.kc, .int .i64 r.gr.cells, .slice r.io nI r.ic, .bool r.gr.result, .int .i64 r.gr.keep, .slice r.no nN r.nc, .int .i64 r.gr.entry] 45)) #[] 0 HB1.out.size (Nat.zero_le _) (by simp)
        rw [HS1.out] at this
        exact this
      have hes2 : wr.heap.size ≤ ((wr.alloc (.cells #[.slice r.po nP r.pc, .slice r.ko nK r.kc, .int .i64 r.gr.cells, .slice r.io nI r.ic, .bool r.gr.result, .int .i64 r.gr.keep, .slice r.no nN r.nc, .int .i64 r.gr.entry] 45)).alloc (.cells #[] 3)).heap.size := HEB2.out.size
      have HRR2 := Lib.hid (HRP.out.below (HEB2.out.mono hBr))
      have qe2 : ((wr.alloc (.cells #[.slice r.po nP r.pc, .slice r.ko nK r.kc, .int .i64 r.gr.cells, .slice r.io nI r.ic, .bool r.gr.result, .int .i64 r.gr.keep, .slice r.no nN r.nc, .int .i64 r.gr.entry] 45)).alloc (.cells #[] 3)).cell? ⟨wr.heap.size, 0, none⟩ = some (.slice r.po nP r.pc) := HEX2.out.cell 0
      go_wp2_with (at_builtin; refine app_int rfl _ _ rfl wr.heap.size (.slice (some ⟨wr.heap.size + 1, 0, none⟩) 0 0) 0 [] rfl HEO2.out B r.po nP r.pc (i64c r.gr.params) rfl HRR2.out (i64c_one _) (by omega) hes2 ?_; intro v2 w2 hown hgr _; refine Hid.out ?_)
      rw [Nat.zero_add, List.nil_append] at hown
      obtain ⟨Ap, cp, rfl⟩ := own_slice hown
      have hx : Blk w2 wr.heap.size 45 #[.slice r.po nP r.pc, .slice r.ko nK r.kc, .int .i64 r.gr.cells, .slice r.io nI r.ic, .bool r.gr.result, .int .i64 r.gr.keep, .slice r.no nN r.nc, .int .i64 r.gr.entry] := blk_grown HEX2.out HEO2.out hgr (by decide)
      have hbl : Below wr.heap.size wr w2 := HEB2.out.grown hgr hes2 fun i hi => (own_block_le HEO2.out hi).1
      have d2 : w2.cell? ⟨wr.heap.size, 0, none⟩ = some (.slice r.po nP r.pc) := hx.cell 0
      have f2 : w2.frozen? ⟨wr.heap.size, 0, none⟩ = false := hx.frozen 0
      have q2 : w2.cell? ⟨wr.heap.size, 1, none⟩ = some (.slice r.ko nK r.kc) := hx.cell 1
      have hl2 : wr.heap.size < w2.heap.size := hx.lt
      have HX2 : Hid (Blk (w2.setCell ⟨wr.heap.size, 0, none⟩ (.slice Ap nP cp)) wr.heap.size 45 #[.slice Ap nP cp, .slice r.ko nK r.kc, .int .i64 r.gr.cells, .slice r.io nI r.ic, .bool r.gr.result, .int .i64 r.gr.keep, .slice r.no nN r.nc, .int .i64 r.gr.entry]) := Lib.hid (hx.set_ 0 _)
      have HB2 : Hid (Below wr.heap.size wr (w2.setCell ⟨wr.heap.size, 0, none⟩ (.slice Ap nP cp))) := Lib.hid (hbl.setCell (p := ⟨wr.heap.size, 0, none⟩) (Nat.le_refl _) _)
      have HS2 : Hid ((w2.setCell ⟨wr.heap.size, 0, none⟩ (.slice Ap nP cp)).heap.size = w2.heap.size) := Lib.hid (by simp [World.setCell])
      have HO2 : Hid ((w2.setCell ⟨wr.heap.size, 0, none⟩ (.slice Ap nP cp)).ownsRow wr.heap.size 3 1 (.slice Ap nP cp) nP (i64c r.gr.params)) := Lib.hid (own_far hown hx (by decide) 0 _)
      clear hown hgr hx hbl qe2
      refine Lib.hid ?_
      have HEB3 : Hid (Below wr.heap.size wr ((w2.setCell ⟨wr.heap.size, 0, none⟩ (.slice Ap nP cp)).alloc (.cells #[] 46))) := Lib.hid (HB2.out.alloc HB2.out.size _)
      have HEX3 : Hid (Blk ((w2.setCell ⟨wr.heap.size, 0, none⟩ (.slice Ap nP cp)).alloc (.cells #[] 46)) wr.heap.size 45 #[.slice Ap nP cp, .slice r.ko nK r.kc, .int .i64 r.gr.cells, .slice r.io nI r.ic, .bool r.gr.result, .int .i64 r.gr.keep, .slice r.no nN r.nc, .int .i64 r.gr.entry]) := Lib.hid (HX2.out.alloc _)
      have HEO3 : Hid (((w2.setCell ⟨wr.heap.size, 0, none⟩ (.slice Ap nP cp)).alloc (.cells #[] 46)).ownsRow wr.heap.size 46 1 (.slice (some ⟨w2.heap.size, 0, none⟩) 0 0) 0 []) := by
        have := World.ownsRow_made (base := wr.heap.size) (e := 46) (size := 1) (w2.setCell ⟨wr.heap.size, 0, none⟩ (.slice Ap nP cp)) #[] 0 HB2.out.size (Nat.zero_le _) (by simp)
        rw [HS2.out] at this
        exact this
      have hes3 : wr.heap.size ≤ ((w2.setCell ⟨wr.heap.size, 0, none⟩ (.slice Ap nP cp)).alloc (.cells #[] 46)).heap.size := HEB3.out.size
      have HRR3 := Lib.hid (HRK.out.below (HEB3.out.mono hBr))
      have qe3 : ((w2.setCell ⟨wr.heap.size, 0, none⟩ (.slice Ap nP cp)).alloc (.cells #[] 46)).cell? ⟨wr.heap.size, 1, none⟩ = some (.slice r.ko nK r.kc) := HEX3.out.cell 1
      go_wp2_with (at_builtin; refine app_kind rfl _ _ rfl wr.heap.size (.slice (some ⟨w2.heap.size, 0, none⟩) 0 0) 0 [] rfl HEO3.out B r.ko nK r.kc (u8c r.gr.kinds) rfl HRR3.out (u8c_one _) (by omega) hes3 ?_; intro v3 w3 hown hgr _; refine Hid.out ?_)
      rw [Nat.zero_add, List.nil_append] at hown
      obtain ⟨Ak, ck, rfl⟩ := own_slice hown
      have hx : Blk w3 wr.heap.size 45 #[.slice Ap nP cp, .slice r.ko nK r.kc, .int .i64 r.gr.cells, .slice r.io nI r.ic, .bool r.gr.result, .int .i64 r.gr.keep, .slice r.no nN r.nc, .int .i64 r.gr.entry] := blk_grown HEX3.out HEO3.out hgr (by decide)
      have hbl : Below wr.heap.size wr w3 := HEB3.out.grown hgr hes3 fun i hi => (own_block_le HEO3.out hi).1
      have d3 : w3.cell? ⟨wr.heap.size, 1, none⟩ = some (.slice r.ko nK r.kc) := hx.cell 1
      have f3 : w3.frozen? ⟨wr.heap.size, 1, none⟩ = false := hx.frozen 1
      have q3 : w3.cell? ⟨wr.heap.size, 3, none⟩ = some (.slice r.io nI r.ic) := hx.cell 3
      have hl3 : wr.heap.size < w3.heap.size := hx.lt
      have HX3 : Hid (Blk (w3.setCell ⟨wr.heap.size, 1, none⟩ (.slice Ak nK ck)) wr.heap.size 45 #[.slice Ap nP cp, .slice Ak nK ck, .int .i64 r.gr.cells, .slice r.io nI r.ic, .bool r.gr.result, .int .i64 r.gr.keep, .slice r.no nN r.nc, .int .i64 r.gr.entry]) := Lib.hid (hx.set_ 1 _)
      have HB3 : Hid (Below wr.heap.size wr (w3.setCell ⟨wr.heap.size, 1, none⟩ (.slice Ak nK ck))) := Lib.hid (hbl.setCell (p := ⟨wr.heap.size, 1, none⟩) (Nat.le_refl _) _)
      have HS3 : Hid ((w3.setCell ⟨wr.heap.size, 1, none⟩ (.slice Ak nK ck)).heap.size = w3.heap.size) := Lib.hid (by simp [World.setCell])
      have HO3 : Hid ((w3.setCell ⟨wr.heap.size, 1, none⟩ (.slice Ak nK ck)).ownsRow wr.heap.size 46 1 (.slice Ak nK ck) nK (u8c r.gr.kinds)) := Lib.hid (own_far hown hx (by decide) 1 _)
      have HOx : Hid ((w3.setCell ⟨wr.heap.size, 1, none⟩ (.slice Ak nK ck)).ownsRow wr.heap.size 3 1 (.slice Ap nP cp) nP (i64c r.gr.params)) := Lib.hid (own_far (own_kept (own_alloc HO2.out _) fun i hi => hgr.block i (own_block_le (own_alloc HO2.out _) hi).2 (fun e => absurd (own_block_le HO2.out hi).2 (by rw [show i = w2.heap.size by simpa [Value.ownBlock] using e, HS2.out]; omega))) hx (by decide) 1 _)
      clear HO2
      have HO2 := HOx
      clear HOx
      clear hown hgr hx hbl qe3
      refine Lib.hid ?_
      have HEB4 : Hid (Below wr.heap.size wr ((w3.setCell ⟨wr.heap.size, 1, none⟩ (.slice Ak nK ck)).alloc (.cells #[] 3))) := Lib.hid (HB3.out.alloc HB3.out.size _)
      have HEX4 : Hid (Blk ((w3.setCell ⟨wr.heap.size, 1, none⟩ (.slice Ak nK ck)).alloc (.cells #[] 3)) wr.heap.size 45 #[.slice Ap nP cp, .slice Ak nK ck, .int .i64 r.gr.cells, .slice r.io nI r.ic, .bool r.gr.result, .int .i64 r.gr.keep, .slice r.no nN r.nc, .int .i64 r.gr.entry]) := Lib.hid (HX3.out.alloc _)
      have HEO4 : Hid (((w3.setCell ⟨wr.heap.size, 1, none⟩ (.slice Ak nK ck)).alloc (.cells #[] 3)).ownsRow wr.heap.size 3 1 (.slice (some ⟨w3.heap.size, 0, none⟩) 0 0) 0 []) := by
        have := World.ownsRow_made (base := wr.heap.size) (e := 3) (size := 1) (w3.setCell ⟨wr.heap.size, 1, none⟩ (.slice Ak nK ck)) #[] 0 HB3.out.size (Nat.zero_le _) (by simp)
        rw [HS3.out] at this
        exact this
      have hes4 : wr.heap.size ≤ ((w3.setCell ⟨wr.heap.size, 1, none⟩ (.slice Ak nK ck)).alloc (.cells #[] 3)).heap.size := HEB4.out.size
      have HRR4 := Lib.hid (HRI.out.below (HEB4.out.mono hBr))
      have qe4 : ((w3.setCell ⟨wr.heap.size, 1, none⟩ (.slice Ak nK ck)).alloc (.cells #[] 3)).cell? ⟨wr.heap.size, 3, none⟩ = some (.slice r.io nI r.ic) := HEX4.out.cell 3
      go_wp2_with (at_builtin; refine app_int rfl _ _ rfl wr.heap.size (.slice (some ⟨w3.heap.size, 0, none⟩) 0 0) 0 [] rfl HEO4.out B r.io nI r.ic (i64c r.gr.init) rfl HRR4.out (i64c_one _) (by omega) hes4 ?_; intro v4 w4 hown hgr _; refine Hid.out ?_)
      rw [Nat.zero_add, List.nil_append] at hown
      obtain ⟨Ai, ci, rfl⟩ := own_slice hown
      have hx : Blk w4 wr.heap.size 45 #[.slice Ap nP cp, .slice Ak nK ck, .int .i64 r.gr.cells, .slice r.io nI r.ic, .bool r.gr.result, .int .i64 r.gr.keep, .slice r.no nN r.nc, .int .i64 r.gr.entry] := blk_grown HEX4.out HEO4.out hgr (by decide)
      have hbl : Below wr.heap.size wr w4 := HEB4.out.grown hgr hes4 fun i hi => (own_block_le HEO4.out hi).1
      have d4 : w4.cell? ⟨wr.heap.size, 3, none⟩ = some (.slice r.io nI r.ic) := hx.cell 3
      have f4 : w4.frozen? ⟨wr.heap.size, 3, none⟩ = false := hx.frozen 3
      have q4 : w4.cell? ⟨wr.heap.size, 6, none⟩ = some (.slice r.no nN r.nc) := hx.cell 6
      have hl4 : wr.heap.size < w4.heap.size := hx.lt
      have HX4 : Hid (Blk (w4.setCell ⟨wr.heap.size, 3, none⟩ (.slice Ai nI ci)) wr.heap.size 45 #[.slice Ap nP cp, .slice Ak nK ck, .int .i64 r.gr.cells, .slice Ai nI ci, .bool r.gr.result, .int .i64 r.gr.keep, .slice r.no nN r.nc, .int .i64 r.gr.entry]) := Lib.hid (hx.set_ 3 _)
      have HB4 : Hid (Below wr.heap.size wr (w4.setCell ⟨wr.heap.size, 3, none⟩ (.slice Ai nI ci))) := Lib.hid (hbl.setCell (p := ⟨wr.heap.size, 3, none⟩) (Nat.le_refl _) _)
      have HS4 : Hid ((w4.setCell ⟨wr.heap.size, 3, none⟩ (.slice Ai nI ci)).heap.size = w4.heap.size) := Lib.hid (by simp [World.setCell])
      have HO4 : Hid ((w4.setCell ⟨wr.heap.size, 3, none⟩ (.slice Ai nI ci)).ownsRow wr.heap.size 3 1 (.slice Ai nI ci) nI (i64c r.gr.init)) := Lib.hid (own_far hown hx (by decide) 3 _)
      have HOx : Hid ((w4.setCell ⟨wr.heap.size, 3, none⟩ (.slice Ai nI ci)).ownsRow wr.heap.size 3 1 (.slice Ap nP cp) nP (i64c r.gr.params)) := Lib.hid (own_far (own_kept (own_alloc HO2.out _) fun i hi => hgr.block i (own_block_le (own_alloc HO2.out _) hi).2 (fun e => absurd (own_block_le HO2.out hi).2 (by rw [show i = w3.heap.size by simpa [Value.ownBlock] using e, HS3.out]; omega))) hx (by decide) 3 _)
      clear HO2
      have HO2 := HOx
      clear HOx
      have HOx : Hid ((w4.setCell ⟨wr.heap.size, 3, none⟩ (.slice Ai nI ci)).ownsRow wr.heap.size 46 1 (.slice Ak nK ck) nK (u8c r.gr.kinds)) := Lib.hid (own_far (own_kept (own_alloc HO3.out _) fun i hi => hgr.block i (own_block_le (own_alloc HO3.out _) hi).2 (fun e => absurd (own_block_le HO3.out hi).2 (by rw [show i = w3.heap.size by simpa [Value.ownBlock] using e, HS3.out]; omega))) hx (by decide) 3 _)
      clear HO3
      have HO3 := HOx
      clear HOx
      clear hown hgr hx hbl qe4
      refine Lib.hid ?_
      have HEB5 : Hid (Below wr.heap.size wr ((w4.setCell ⟨wr.heap.size, 3, none⟩ (.slice Ai nI ci)).alloc (.cells #[] 38))) := Lib.hid (HB4.out.alloc HB4.out.size _)
      have HEX5 : Hid (Blk ((w4.setCell ⟨wr.heap.size, 3, none⟩ (.slice Ai nI ci)).alloc (.cells #[] 38)) wr.heap.size 45 #[.slice Ap nP cp, .slice Ak nK ck, .int .i64 r.gr.cells, .slice Ai nI ci, .bool r.gr.result, .int .i64 r.gr.keep, .slice r.no nN r.nc, .int .i64 r.gr.entry]) := Lib.hid (HX4.out.alloc _)
      have HEO5 : Hid (((w4.setCell ⟨wr.heap.size, 3, none⟩ (.slice Ai nI ci)).alloc (.cells #[] 38)).ownsRow wr.heap.size 38 12 (.slice (some ⟨w4.heap.size, 0, none⟩) 0 0) 0 []) := by
        have := World.ownsRow_made (base := wr.heap.size) (e := 38) (size := 12) (w4.setCell ⟨wr.heap.size, 3, none⟩ (.slice Ai nI ci)) #[] 0 HB4.out.size (Nat.zero_le _) (by simp)
        rw [HS4.out] at this
        exact this
      have hes5 : wr.heap.size ≤ ((w4.setCell ⟨wr.heap.size, 3, none⟩ (.slice Ai nI ci)).alloc (.cells #[] 38)).heap.size := HEB5.out.size
      have HRR5 := Lib.hid (HRN.out.below (HEB5.out.mono hBr))
      have qe5 : ((w4.setCell ⟨wr.heap.size, 3, none⟩ (.slice Ai nI ci)).alloc (.cells #[] 38)).cell? ⟨wr.heap.size, 6, none⟩ = some (.slice r.no nN r.nc) := HEX5.out.cell 6
      go_wp2_with (at_builtin; refine app_node rfl _ _ rfl wr.heap.size (.slice (some ⟨w4.heap.size, 0, none⟩) 0 0) 0 [] rfl HEO5.out B r.no nN r.nc (rnc r.ns) rfl HRR5.out (rnc_one _) (by omega) hes5 ?_; intro v5 w5 hown hgr _; refine Hid.out ?_)
      rw [Nat.zero_add, List.nil_append] at hown
      obtain ⟨An, cn, rfl⟩ := own_slice hown
      have hx : Blk w5 wr.heap.size 45 #[.slice Ap nP cp, .slice Ak nK ck, .int .i64 r.gr.cells, .slice Ai nI ci, .bool r.gr.result, .int .i64 r.gr.keep, .slice r.no nN r.nc, .int .i64 r.gr.entry] := blk_grown HEX5.out HEO5.out hgr (by decide)
      have hbl : Below wr.heap.size wr w5 := HEB5.out.grown hgr hes5 fun i hi => (own_block_le HEO5.out hi).1
      have d5 : w5.cell? ⟨wr.heap.size, 6, none⟩ = some (.slice r.no nN r.nc) := hx.cell 6
      have f5 : w5.frozen? ⟨wr.heap.size, 6, none⟩ = false := hx.frozen 6
      have q5 : w5.cell? ⟨wr.heap.size, 0, none⟩ = some (.slice Ap nP cp) := hx.cell 0
      have hl5 : wr.heap.size < w5.heap.size := hx.lt
      have HX5 : Hid (Blk (w5.setCell ⟨wr.heap.size, 6, none⟩ (.slice An nN cn)) wr.heap.size 45 #[.slice Ap nP cp, .slice Ak nK ck, .int .i64 r.gr.cells, .slice Ai nI ci, .bool r.gr.result, .int .i64 r.gr.keep, .slice An nN cn, .int .i64 r.gr.entry]) := Lib.hid (hx.set_ 6 _)
      have HB5 : Hid (Below wr.heap.size wr (w5.setCell ⟨wr.heap.size, 6, none⟩ (.slice An nN cn))) := Lib.hid (hbl.setCell (p := ⟨wr.heap.size, 6, none⟩) (Nat.le_refl _) _)
      have HS5 : Hid ((w5.setCell ⟨wr.heap.size, 6, none⟩ (.slice An nN cn)).heap.size = w5.heap.size) := Lib.hid (by simp [World.setCell])
      have HO5 : Hid ((w5.setCell ⟨wr.heap.size, 6, none⟩ (.slice An nN cn)).ownsRow wr.heap.size 38 12 (.slice An nN cn) nN (rnc r.ns)) := Lib.hid (own_far hown hx (by decide) 6 _)
      have HOx : Hid ((w5.setCell ⟨wr.heap.size, 6, none⟩ (.slice An nN cn)).ownsRow wr.heap.size 3 1 (.slice Ap nP cp) nP (i64c r.gr.params)) := Lib.hid (own_far (own_kept (own_alloc HO2.out _) fun i hi => hgr.block i (own_block_le (own_alloc HO2.out _) hi).2 (fun e => absurd (own_block_le HO2.out hi).2 (by rw [show i = w4.heap.size by simpa [Value.ownBlock] using e, HS4.out]; omega))) hx (by decide) 6 _)
      clear HO2
      have HO2 := HOx
      clear HOx
      have HOx : Hid ((w5.setCell ⟨wr.heap.size, 6, none⟩ (.slice An nN cn)).ownsRow wr.heap.size 46 1 (.slice Ak nK ck) nK (u8c r.gr.kinds)) := Lib.hid (own_far (own_kept (own_alloc HO3.out _) fun i hi => hgr.block i (own_block_le (own_alloc HO3.out _) hi).2 (fun e => absurd (own_block_le HO3.out hi).2 (by rw [show i = w4.heap.size by simpa [Value.ownBlock] using e, HS4.out]; omega))) hx (by decide) 6 _)
      clear HO3
      have HO3 := HOx
      clear HOx
      have HOx : Hid ((w5.setCell ⟨wr.heap.size, 6, none⟩ (.slice An nN cn)).ownsRow wr.heap.size 3 1 (.slice Ai nI ci) nI (i64c r.gr.init)) := Lib.hid (own_far (own_kept (own_alloc HO4.out _) fun i hi => hgr.block i (own_block_le (own_alloc HO4.out _) hi).2 (fun e => absurd (own_block_le HO4.out hi).2 (by rw [show i = w4.heap.size by simpa [Value.ownBlock] using e, HS4.out]; omega))) hx (by decide) 6 _)
      clear HO4
      have HO4 := HOx
      clear HOx
      clear hown hgr hx hbl qe5
      refine Lib.hid ?_
      have hlen : r.ns.length = nN := by rw [← length_nds, HRG.out.nd, HE4.out]
      have HI5 : Hid (CgJ wr r Ap Ak Ai An cp ck ci cn nP nK nI nN 0 r.ns (w5.setCell ⟨wr.heap.size, 6, none⟩ (.slice An nN cn))) := Lib.hid ⟨HX5.out, HO2.out, HO3.out, HO4.out, HO5.out, HRG.out.nd, (fun j i hj _ => by omega), (fun j _ => rfl), HB5.out⟩
      have HNS := Lib.hid HRG.out.nodes
      have HR2x : ∀ ns : List RN, Hid (rgOne ⟨r.gr, Ap, cp, Ak, ck, Ai, ci, An, cn, ns⟩ = [.slice Ap nP cp, .slice Ak nK ck, .int .i64 r.gr.cells, .slice Ai nI ci, .bool r.gr.result, .int .i64 r.gr.keep, .slice An nN cn, .int .i64 r.gr.entry]) := fun ns => Lib.hid (by
        show ([.slice Ap r.gr.params.length cp, .slice Ak r.gr.kinds.length ck, .int .i64 r.gr.cells, .slice Ai r.gr.init.length ci, .bool r.gr.result, .int .i64 r.gr.keep, .slice An r.gr.nodes.length cn, .int .i64 r.gr.entry] : List Value) = _
        rw [HE1.out, HE2.out, HE3.out, HE4.out])
      obtain ⟨v5, hv5⟩ : ∃ W, W = (w5.setCell ⟨wr.heap.size, 6, none⟩ (.slice An nN cn)) := ⟨_, rfl⟩
      obtain ⟨wo, rfl⟩ : ∃ wo, wo = wr := ⟨_, rfl⟩
      go_wp2
      rw [← hv5] at HI5 ⊢
      clear hv5 HX2 HX3 HX4 HX5 HO2 HO3 HO4 HO5 HB1 HB2 HB3 HB4 HB5 HX1 HRP HRK HRI HRN HS1 HS2 HS3 HS4 HS5 HEB2 HEB3 HEB4 HEB5 HEX2 HEX3 HEX4 HEX5 HEO2 HEO3 HEO4 HEO5 HRR2 HRR3 HRR4 HRR5 d2 d3 d4 d5 f2 f3 f4 f5 q2 q3 q4 q5 x0 x1 x2 x3 x4 x5 x6 x7
      go_loopw [37] (fun i wx => ∃ (m : Nat) (ns : List RN), m ≤ nN ∧ i = .int .i64 m ∧ Hid (CgJ wo r Ap Ak Ai An cp ck ci cn nP nK nI nN m ns wx)) (fun i _ => nN - (intOf i).toNat)
      case atStart => exact ⟨0, r.ns, Nat.zero_le _, rfl, HI5⟩
      case round =>
        clear HI5
        obtain ⟨m, ns, hm, rfl, HJ⟩ := hrel
        obtain ⟨wx, rfl⟩ : ∃ wx, wx = wr := ⟨_, rfl⟩
        have hzx := HJ.out.below.size
        have b6 : wx.cell? ⟨wo.heap.size, 6, none⟩ = some (.slice An nN cn) := HJ.out.box.cell 6
        have hxl := HJ.out.box.lt
        by_cases hltm : m < nN
        · have hnsl : ns.length = nN := by rw [← length_nds, HJ.out.nd, HE4.out]
          obtain ⟨i, hi⟩ : ∃ i, ns[m]? = some i := ⟨_, List.getElem?_eq_getElem (by omega)⟩
          have hri : r.ns[m]? = some i := by rw [← HJ.out.old m (Nat.le_refl _)]; exact hi
          have him := List.mem_of_getElem? hri
          obtain ⟨L, hL⟩ : ∃ L, L = i.nd.args.length := ⟨_, rfl⟩
          have har : Reads wx B 1 i.ao L (i64c i.nd.args) := by
            rw [hL]
            exact (HNS.out.each i him).args.below (HJ.out.below.mono hBr)
          have hal : L * 8 ≤ 140737488351232 := by rw [hL]; exact (HNS.out.wf i him).al
          have h9 : (rnc ns)[m * 12 + 9]? = some (.slice i.ao L i.ac) := by rw [hL]; exact (rnc_at hi).2.2.2.2.2.2.2.2.2.1
          obtain ⟨g, hAn, hgb, hgl, hgc, hgf⟩ := own_at HJ.out.nodes h9
          have HIX := Lib.hid hi
          have HLL := Lib.hid hL
          have HAN := Lib.hid hAn
          have H9 := Lib.hid h9
          rw [hAn] at b6
          have hBx : B ≤ wx.heap.size := by omega
          have HEB : Hid (Below wx.heap.size wx (wx.alloc (.cells #[] 3))) := (Below.refl _ _).alloc (Nat.le_refl _) _
          have HEO : Hid ((wx.alloc (.cells #[] 3)).drew.ownsRow wx.heap.size 3 1 (.slice (some ⟨wx.heap.size, 0, none⟩) 0 0) 0 []) := Lib.hid (World.ownsRow_made (base := wx.heap.size) (e := 3) (size := 1) wx #[] 0 (Nat.le_refl _) (Nat.zero_le _) (by simp))
          have HAR : Hid (Reads (wx.alloc (.cells #[] 3)).drew B 1 i.ao L (i64c i.nd.args)) := Lib.hid (har.below (HEB.out.mono hBx)).drew
          have hes : wx.heap.size ≤ (wx.alloc (.cells #[] 3)).drew.heap.size := HEB.out.size
          have b6a : ∀ o, (wx.alloc o).cell? ⟨wo.heap.size, 6, none⟩ = some (.slice (some ⟨g, 0, none⟩) nN cn) := fun o => (World.cell?_alloc_lt wx o _ hxl).trans b6
          have hga : ∀ o, (wx.alloc o).cell? ⟨g, m * 12 + 9, none⟩ = some (.slice i.ao L i.ac) := fun o => (World.cell?_alloc_lt wx o _ hgl).trans hgc
          clear hnsl hi hri him har h9 hL hAn
          go_wp2
          go_region_law (refine step_int rfl _ _ rfl wx.heap.size (.slice (some ⟨wx.heap.size, 0, none⟩) 0 0) 0 [] rfl HEO.out B i.ao L i.ac (i64c i.nd.args) rfl HAR.out (i64c_one _) (by omega) hes ?_; intro v7 w7 hown hgr hor; rw [Nat.zero_add, List.nil_append] at hown; obtain ⟨A7, c7, rfl⟩ := own_slice hown; have hb8 : Below wx.heap.size wx w7 := (HEB.out.drew.grown hgr hes fun j hj => (own_block_le HEO.out hj).1); have y6 : w7.cell? ⟨wo.heap.size, 6, none⟩ = some (.slice (some ⟨g, 0, none⟩) nN cn) := (hb8.cell (p := ⟨wo.heap.size, 6, none⟩) hxl).trans b6; have yg := (hb8.cell (p := ⟨g, m * 12 + 9, none⟩) hgl).trans hgc; have yf : w7.frozen? ⟨g, m * 12 + 9, none⟩ = false := (by have hq := own_at (own_below HJ.out.nodes hb8) H9.out; obtain ⟨g2, e2, _, _, _, f2⟩ := hq; rw [HAN.out] at e2; injection e2 with e2; injection e2 with e2; subst e2; exact f2); have HS7 := Lib.hid (HJ.out.step HIX.out HAN.out hb8 (by rw [← HLL.out]; exact hown)); clear hown hgr hb8)
          all_goals
            rw [← HLL.out] at HS7
            go_wp2
            go_roundw
            case rel => exact ⟨m + 1, _, by omega, by go_num, HS7⟩
            case measure => simp [intOf]; omega
        · obtain rfl : nN = m := by omega
          have d0 : wx.cell? ⟨wo.heap.size, 0, none⟩ = some (.slice Ap nP cp) := HJ.out.box.cell 0
          have d1 : wx.cell? ⟨wo.heap.size, 1, none⟩ = some (.slice Ak nK ck) := HJ.out.box.cell 1
          have d2 : wx.cell? ⟨wo.heap.size, 2, none⟩ = some (.int .i64 r.gr.cells) := HJ.out.box.cell 2
          have d3 : wx.cell? ⟨wo.heap.size, 3, none⟩ = some (.slice Ai nI ci) := HJ.out.box.cell 3
          have d4 : wx.cell? ⟨wo.heap.size, 4, none⟩ = some (.bool r.gr.result) := HJ.out.box.cell 4
          have d5 : wx.cell? ⟨wo.heap.size, 5, none⟩ = some (.int .i64 r.gr.keep) := HJ.out.box.cell 5
          have d7 : wx.cell? ⟨wo.heap.size, 7, none⟩ = some (.int .i64 r.gr.entry) := HJ.out.box.cell 7
          have p0 : wx.cell? ⟨w.heap.size + 2, 0, none⟩ = some (.slice Aq k cq) := (HI.out.blk.below HJ.out.below hpz).cell 0
          have HOF : Hid (OwnG wx wo.heap.size ⟨r.gr, Ap, cp, Ak, ck, Ai, ci, An, cn, ns⟩) := Lib.hid ⟨by show World.ownsRow _ _ _ _ (.slice Ap r.gr.params.length cp) _ _; rw [HE1.out]; exact HJ.out.params, by show World.ownsRow _ _ _ _ (.slice Ak r.gr.kinds.length ck) _ _; rw [HE2.out]; exact HJ.out.kinds, by show World.ownsRow _ _ _ _ (.slice Ai r.gr.init.length ci) _ _; rw [HE3.out]; exact HJ.out.init, by show World.ownsRow _ _ _ _ (.slice An r.gr.nodes.length cn) _ _; rw [HE4.out]; exact HJ.out.nodes, (fun i hi => by
            obtain ⟨j, hj⟩ := List.mem_iff_getElem?.1 hi
            have hjl := (List.getElem?_eq_some_iff.1 hj).1
            exact HJ.out.new j i (by rw [← length_nds, HJ.out.nd, HE4.out] at hjl; exact hjl) hj), HJ.out.nd⟩
          have HOWN : Hid ((wx.alloc (.cells #[.slice Ap nP cp, .slice Ak nK ck, .int .i64 r.gr.cells, .slice Ai nI ci, .bool r.gr.result, .int .i64 r.gr.keep, .slice An nN cn, .int .i64 r.gr.entry] 45)).ownsRow w.heap.size 45 8 (.slice Aq k cq) k (rgc rs')) := Lib.hid (own_alloc (own_below HI.out.own HJ.out.below) _)
          have HRD : Hid (Reads (wx.alloc (.cells #[.slice Ap nP cp, .slice Ak nK ck, .int .i64 r.gr.cells, .slice Ai nI ci, .bool r.gr.result, .int .i64 r.gr.keep, .slice An nN cn, .int .i64 r.gr.entry] 45)) (wx.heap.size + 1) 8 (some ⟨wx.heap.size, 0, none⟩) 1 [.slice Ap nP cp, .slice Ak nK ck, .int .i64 r.gr.cells, .slice Ai nI ci, .bool r.gr.result, .int .i64 r.gr.keep, .slice An nN cn, .int .i64 r.gr.entry]) := Lib.hid (one_reads wx 45 [.slice Ap nP cp, .slice Ak nK ck, .int .i64 r.gr.cells, .slice Ai nI ci, .bool r.gr.result, .int .i64 r.gr.keep, .slice An nN cn, .int .i64 r.gr.entry] 8 rfl)
          have HON : Hid (∀ u ∈ ([.slice Ap nP cp, .slice Ak nK ck, .int .i64 r.gr.cells, .slice Ai nI ci, .bool r.gr.result, .int .i64 r.gr.keep, .slice An nN cn, .int .i64 r.gr.entry] : List Value), u.oneCell' = true) := Lib.hid (by rw [← (HR2x ns).out]; exact rgOne_one _)
          have hs2 : w.heap.size ≤ (wx.alloc (.cells #[.slice Ap nP cp, .slice Ak nK ck, .int .i64 r.gr.cells, .slice Ai nI ci, .bool r.gr.result, .int .i64 r.gr.keep, .slice An nN cn, .int .i64 r.gr.entry] 45)).heap.size := by simp; omega
          clear hltm hm
          go_wp2_with (at_builtin; refine app_graph rfl _ _ rfl w.heap.size (.slice Aq k cq) k (rgc rs') rfl HOWN.out (wx.heap.size + 1) (some ⟨wx.heap.size, 0, none⟩) 1 1 [.slice Ap nP cp, .slice Ak nK ck, .int .i64 r.gr.cells, .slice Ai nI ci, .bool r.gr.result, .int .i64 r.gr.keep, .slice An nN cn, .int .i64 r.gr.entry] rfl HRD.out HON.out (by omega) hs2 ?_; intro v4 w4 hown4 hgr4 _; refine Hid.out ?_)
          rw [← (HR2x ns).out] at hown4
          obtain ⟨A4, c4, rfl, e4, f4, hI4⟩ := HI.out.step (r := ⟨r.gr, Ap, cp, Ak, ck, Ai, ci, An, cn, ns⟩) _ (by omega) (by omega) HXK.out HJ.out.below HOF.out hown4 hgr4
          have HI4 := Lib.hid hI4
          clear hown4 hgr4 hI4
          refine Lib.hid ?_
          go_wp2
          go_roundw
          case rel => exact ⟨rs' ++ [⟨r.gr, Ap, cp, Ak, ck, Ai, ci, An, cn, ns⟩], k + 1, A4, c4, by omega, by go_num, HI4⟩
          case measure => simp [intOf]; omega
    · obtain rfl : n = k := by omega
      clear hlt hk
      have p0 : wr.cell? ⟨w.heap.size + 2, 0, none⟩ = some (.slice Aq n cq) := HI.out.blk.cell 0
      have r0 : wr.cell? ⟨w.heap.size + 1, 0, none⟩ = some (.slice none 0 0) := HI.out.res.cell 0
      have rf := HI.out.res.frozen 0
      have HD := Lib.hid (HI.out.done HN.out)
      go_wp2
      exact bodyPost_ret (v := .agg #[.slice Aq n cq]) (by simp [results, Try.results8, go_sem, r0]) rfl HD.out
end Go.Proofs.Ytihfihockobpjaa
