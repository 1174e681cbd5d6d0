/-
  Package ir: Copy.
-/
import Derived.Test.YtihfihockobpjaaCg
namespace Go.Proofs.Ytihfihockobpjaa
set_option linter.unusedVariables false
set_option linter.unusedSimpArgs false
open Go.ChangeShapes Go.WideShapes Go.ChangeAt Go.RowKit

/-- no two graphs have their kinds in one block -/
def SepK (rs : List RG) : Prop := ∀ (i j : Nat) (a b : RG) (g : Nat), i ≠ j → rs[i]? = some a → rs[j]? = some b → a.ko = some ⟨g, 0, none⟩ → b.ko ≠ some ⟨g, 0, none⟩
theorem SepK.nil : SepK [] := fun i j a b g _ ha => by cases ha
theorem SepK.snoc {rs : List RG} {r : RG} (h : SepK rs) (hn : ∀ a ∈ rs, ∀ g, a.ko = some ⟨g, 0, none⟩ → r.ko ≠ some ⟨g, 0, none⟩) : SepK (rs ++ [r]) := by
  intro i j a b g hij ha hb hg
  rcases Nat.lt_or_ge i rs.length with hi | hi
  · rw [List.getElem?_append_left hi] at ha
    rcases Nat.lt_or_ge j rs.length with hj | hj
    · rw [List.getElem?_append_left hj] at hb
      exact h i j a b g hij ha hb hg
    · rw [List.getElem?_append_right hj] at hb
      have hb' := List.mem_of_getElem? hb
      rw [show b = r by simpa using hb']
      exact hn a (List.mem_of_getElem? ha) g hg
  · rw [List.getElem?_append_right hi] at ha
    have ha' := List.mem_of_getElem? ha
    rw [show a = r by simpa using ha'] at hg
    rcases Nat.lt_or_ge j rs.length with hj | hj
    · rw [List.getElem?_append_left hj] at hb
      intro hbg
      exact hn b (List.mem_of_getElem? hb) g hbg hg
    · exfalso
      rw [List.getElem?_append_right hj] at hb
      have h1 := (List.getElem?_eq_some_iff.1 ha).1
      have h2 := (List.getElem?_eq_some_iff.1 hb).1
      simp at h1 h2
      omega
/-- what Copy leaves: the same graphs, in memory of its own -/
structure CpR (w : World) (n : Nat) (gs : List Gr) (A : Option Addr) (c : Nat) (rs : List RG) (w' : World) : Prop where
  eq : grs rs = gs
  own : w'.ownsRow w.heap.size 45 8 (.slice A n c) n (rgc rs)
  each : ∀ r ∈ rs, OwnG w' w.heap.size r
  below : Below w.heap.size w w'
  sep : SepK rs
def CpE (w : World) (n : Nat) (gs : List Gr) (e : Ending) (w' : World) : Prop := ∃ (A : Option Addr) (c : Nat) (rs : List RG), e = .returned (.agg #[.slice A n c]) ∧ CpR w n gs A c rs w'
/-- the copying loop -/
structure CpI (w : World) (p : Nat) (gs : List Gr) (rs : List RG) (k : Nat) (A : Option Addr) (c : Nat) (wr : World) : Prop where
  blk : Blk wr p 24 #[.slice A k c]
  res : Blk wr (w.heap.size + 1) 24 #[.slice none 0 0]
  own : wr.ownsRow w.heap.size 45 8 (.slice A k c) k (rgc rs)
  each : ∀ r ∈ rs, OwnG wr w.heap.size r
  eq : grs rs = gs.take k
  below : Below w.heap.size w wr
  sep : SepK rs
theorem OwnG.alloc {w : World} {base : Nat} {r : RG} (h : OwnG w base r) (o : Obj) : OwnG (w.alloc o) base r :=
  ⟨own_alloc h.params o, own_alloc h.kinds o, own_alloc h.init o, own_alloc h.nodes o, fun i hi => own_alloc (h.each i hi) o, h.nd⟩
theorem OwnG.farG {w : World} {base p : Nat} {r : RG} {u : Value} {cs : Array Value} (h : OwnG w base r) (hb : Blk w p 24 cs) (j : Nat) : OwnG (w.setCell ⟨p, j, none⟩ u) base r :=
  ⟨own_far h.params hb (by decide) _ _, own_far h.kinds hb (by decide) _ _, own_far h.init hb (by decide) _ _, own_far h.nodes hb (by decide) _ _, fun i hi => own_far (h.each i hi) hb (by decide) _ _, h.nd⟩
theorem OwnG.grown {w w' : World} {base b2 n2 : Nat} {r : RG} {v : Value} {xs : List Value} (h : OwnG w base r) (ho : w.ownsRow b2 45 8 v n2 xs) (hg : w.grownBy w' v.ownBlock) : OwnG w' base r :=
  ⟨own_grown ho h.params hg (by decide), own_grown ho h.kinds hg (by decide), own_grown ho h.init hg (by decide), own_grown ho h.nodes hg (by decide), fun i hi => own_grown ho (h.each i hi) hg (by decide), h.nd⟩
theorem CpI.step {w wr w2 w4 : World} {p k c : Nat} {gs : List Gr} {rs : List RG} {A : Option Addr} {r : RG} {v' : Value} (o : Obj) (h : CpI w p gs rs k A c wr) (hp : p ≠ w.heap.size + 1) (hpz : w.heap.size ≤ p)
    (hr : gs[k]? = some r.gr) (hb2 : Below wr.heap.size wr w2) (hof : OwnG w2 wr.heap.size r)
    (hown : w4.ownsRow w.heap.size 45 8 v' (k + 1) (rgc rs ++ rgOne r)) (hgr : (w2.alloc o).grownBy w4 (Value.slice A k c).ownBlock) :
    ∃ A4 c4, v' = .slice A4 (k + 1) c4 ∧ w4.cell? ⟨p, 0, none⟩ = some (.slice A k c) ∧ w4.frozen? ⟨p, 0, none⟩ = false ∧ CpI w p gs (rs ++ [r]) (k + 1) A4 c4 (w4.setCell ⟨p, 0, none⟩ (.slice A4 (k + 1) c4)) := by
  obtain ⟨A4, c4, rfl⟩ := own_slice hown
  have hzr : w.heap.size ≤ wr.heap.size := h.below.size
  have hb2' : Blk (w2.alloc o) p 24 #[.slice A k c] := (h.blk.below hb2 h.blk.lt).alloc o
  have hs2 : Blk (w2.alloc o) (w.heap.size + 1) 24 #[.slice none 0 0] := (h.res.below hb2 h.res.lt).alloc o
  have ho2 := own_alloc (own_below h.own hb2) o
  have hb4 : Blk w4 p 24 #[.slice A k c] := blk_grown hb2' ho2 hgr (by decide)
  have hs4 := blk_grown hs2 ho2 hgr (by decide)
  have keepL : ∀ r' : RG, OwnG (w2.alloc o) w.heap.size r' → OwnG (w4.setCell ⟨p, 0, none⟩ (.slice A4 (k + 1) c4)) w.heap.size r' := fun r' hr' => (hr'.grown ho2 hgr).farG hb4 0
  have hz2 := hb2.size
  refine ⟨A4, c4, rfl, hb4.cell 0, hb4.frozen 0, ⟨hb4.set_ 0 _, hs4.far (p := ⟨p, 0, none⟩) (by show w.heap.size + 1 ≠ p; omega) _, ?_, ?_, ?_, ?_, h.sep.snoc fun a ha g hg hgr => ?_⟩⟩
  · have := own_far hown hb4 (by decide) 0 (.slice A4 (k + 1) c4)
    rw [rgc_append]
    simpa [rgc] using this
  · intro r' hr'
    rcases List.mem_append.1 hr' with hr' | hr'
    · exact keepL r' (((h.each r' hr').below hb2).alloc o)
    · obtain rfl : r' = r := by simpa using hr'
      exact keepL r' ((hof.alloc o).more hzr)
  · rw [grs_append, h.eq, List.take_add_one, hr]; rfl
  · have h1 : Below w.heap.size w (w2.alloc o) := (h.below.trans (hb2.mono hzr)).alloc (by omega) o
    exact (h1.grown hgr (by simp; omega) fun i hi => (own_block_le h.own hi).1).setCell (p := ⟨p, 0, none⟩) hpz _
  · have e1 := (own_block_le (h.each a ha).kinds (i := g) (by rw [hg]; rfl)).2
    have e2 := (own_block_le hof.kinds (i := g) (by rw [hgr]; rfl)).1
    omega
theorem CpI.done {w wr : World} {p n c : Nat} {gs : List Gr} {rs : List RG} {A : Option Addr} (h : CpI w p gs rs n A c wr) (hn : gs.length = n) :
    CpE w n gs (.returned (.agg #[.slice A n c])) (wr.setCell ⟨w.heap.size + 1, 0, none⟩ (.slice A n c)) := by
  refine ⟨A, c, rs, rfl, ⟨?_, own_far h.own h.res (by decide) 0 _, fun r hr => (h.each r hr).farG h.res 0, h.below.setCell (p := ⟨w.heap.size + 1, 0, none⟩) (by show w.heap.size ≤ w.heap.size + 1; omega) _, h.sep⟩⟩
  rw [h.eq, List.take_of_length_le (by omega)]

set_option maxRecDepth 100000 in
set_option maxHeartbeats 6400000 in
theorem copy_any (B : Nat) (A : Option Addr) (n c : Nat) (rs : List RG) (w : World) (h : RdP w B A n rs) (hB : B ≤ w.heap.size) :
    Calls Try.prog 19 #[.agg #[.slice A n c]] w (CpE w n (grs rs)) := by
  have hsz := h.sz
  have H := Lib.hid h
  have HN : Hid ((grs rs).length = n) := Lib.hid (by rw [length_grs, h.len])
  have HW0 : Hid (Below w.heap.size w (((w.alloc (.cells #[.slice A n c] 24)).alloc (.cells #[.slice none 0 0] 24)).alloc (.cells #[.slice none 0 0] 24))) := (((Below.refl _ _).alloc (Nat.le_refl _) _).alloc (by simp) _).alloc (by simp; omega) _
  have HI0 : Hid (CpI w (w.heap.size + 2) (grs rs) [] 0 none 0 (((w.alloc (.cells #[.slice A n c] 24)).alloc (.cells #[.slice none 0 0] 24)).alloc (.cells #[.slice none 0 0] 24))) := by
    refine ⟨?_, (blk_2nd w _ _ _ _).alloc _, own_none _ _ _ _, (fun r hr => by cases hr), rfl, HW0.out, SepK.nil⟩
    have := Blk.new ((w.alloc (.cells #[.slice A n c] 24)).alloc (.cells #[.slice none 0 0] 24)) 24 #[.slice none 0 0]
    rw [show ((w.alloc (.cells #[.slice A n c] 24)).alloc (.cells #[.slice none 0 0] 24)).heap.size = w.heap.size + 2 by simp] at this
    exact this
  clear h HW0
  go_enter Try.func19, Try.ntmps19
  go_wp2
  go_loopw [9] (fun i wr => ∃ (rs' : List RG) (k : Nat) (A : Option Addr) (c : Nat), k ≤ n ∧ i = .int .i64 k ∧ Hid (CpI w (w.heap.size + 2) (grs rs) rs' k A c wr)) (fun i _ => n - (intOf i).toNat)
  case atStart => exact ⟨[], 0, none, 0, Nat.zero_le _, rfl, HI0⟩
  case round =>
    clear HI0
    obtain ⟨rs', k, Aq, cq, hk, rfl, HI⟩ := hrel
    have hz := HI.out.below.size
    have hpz := HI.out.blk.lt
    by_cases hlt : k < n
    · obtain ⟨b, off, r, rfl, hbk, HX, HRG, HWG, x0, x1, x2, x3, x4, x5, x6, x7⟩ := (H.out.below (HI.out.below.mono hB)).gr hlt
      have HXK : Hid ((grs rs)[k]? = some r.gr) := Lib.hid (by unfold grs; rw [List.getElem?_map, HX.out]; rfl)
      have hbr : b < wr.heap.size := by omega
      have HBF : Hid (Below wr.heap.size wr (wr.alloc (.cells #[.slice r.po r.gr.params.length r.pc, .slice r.ko r.gr.kinds.length r.kc, .int .i64 r.gr.cells, .slice r.io r.gr.init.length r.ic, .bool r.gr.result, .int .i64 r.gr.keep, .slice r.no r.gr.nodes.length r.nc, .int .i64 r.gr.entry] 45))) := (Below.refl _ _).alloc (Nat.le_refl _) _
      have HRA := Lib.hid (HRG.out.below (HBF.out.mono (by omega)))
      have hBf : B ≤ (wr.alloc (.cells #[.slice r.po r.gr.params.length r.pc, .slice r.ko r.gr.kinds.length r.kc, .int .i64 r.gr.cells, .slice r.io r.gr.init.length r.ic, .bool r.gr.result, .int .i64 r.gr.keep, .slice r.no r.gr.nodes.length r.nc, .int .i64 r.gr.entry] 45)).heap.size := by simp; omega
      have p0 : (wr.alloc (.cells #[.slice r.po r.gr.params.length r.pc, .slice r.ko r.gr.kinds.length r.kc, .int .i64 r.gr.cells, .slice r.io r.gr.init.length r.ic, .bool r.gr.result, .int .i64 r.gr.keep, .slice r.no r.gr.nodes.length r.nc, .int .i64 r.gr.entry] 45)).cell? ⟨w.heap.size + 2, 0, none⟩ = some (.slice Aq k cq) := (HI.out.blk.alloc _).cell 0
      have hpl : w.heap.size + 2 < wr.heap.size := hpz
      have HCG := Lib.hid (copyGraph_any B r _ _ _ _ (wr.alloc (.cells #[.slice r.po r.gr.params.length r.pc, .slice r.ko r.gr.kinds.length r.kc, .int .i64 r.gr.cells, .slice r.io r.gr.init.length r.ic, .bool r.gr.result, .int .i64 r.gr.keep, .slice r.no r.gr.nodes.length r.nc, .int .i64 r.gr.entry] 45)) HRA.out HWG.out hBf rfl rfl rfl rfl)
      have HCG2 := Lib.hid (copyGraph_any B r _ _ _ _ (wr.alloc (.cells #[.slice r.po r.gr.params.length r.pc, .slice r.ko r.gr.kinds.length r.kc, .int .i64 r.gr.cells, .slice r.io r.gr.init.length r.ic, .bool r.gr.result, .int .i64 r.gr.keep, .slice r.no r.gr.nodes.length r.nc, .int .i64 r.gr.entry] 45)).drew (HRA.out.keep fun _ _ => rfl) HWG.out hBf rfl rfl rfl rfl)
      clear HX
      go_wp2
      go_region_law (first
        | (refine step_graph rfl _ _ rfl w.heap.size (.slice Aq k cq) k (rgc rs') rfl HOWN.out (w2.heap.size + 1) (some ⟨w2.heap.size, 0, none⟩) 1 1 (rgOne ⟨r.gr, Ap, cp, Ak, ck, Ai, ci, An, cn, ns⟩) rfl HRD.out (rgOne_one _) (by omega) hs2 ?_; intro v4 w4 hown4 hgr4 hor4; obtain ⟨A4, c4, rfl, e4, f4, hI4⟩ := HI.out.step (r := ⟨r.gr, Ap, cp, Ak, ck, Ai, ci, An, cn, ns⟩) _ (by omega) (by omega) HXK.out HB2.out HOF.out hown4 hgr4; have HI4 := Lib.hid hI4; clear hown4 hgr4 hI4)
        | (go_simp; go_at_call 29; refine (by first | exact HCG2.out | exact HCG.out : Calls _ _ _ _ _).mono ?_; rintro e w2 ⟨Ap, Ak, Ai, An, cp, ck, ci, cn, ns, rfl, ho, hb⟩; have HB2 : Hid (Below wr.heap.size wr w2) := Lib.hid (by first | exact HBF.out.trans (hb.mono HBF.out.size) | exact HBF.out.drew.trans (hb.mono HBF.out.size)); have HOF : Hid (OwnG w2 wr.heap.size ⟨r.gr, Ap, cp, Ak, ck, Ai, ci, An, cn, ns⟩) := Lib.hid (ho.more HBF.out.size); have HOWN : Hid ((w2.alloc (.cells #[.slice Ap r.gr.params.length cp, .slice Ak r.gr.kinds.length ck, .int .i64 r.gr.cells, .slice Ai r.gr.init.length ci, .bool r.gr.result, .int .i64 r.gr.keep, .slice An r.gr.nodes.length cn, .int .i64 r.gr.entry] 45)).ownsRow w.heap.size 45 8 (.slice Aq k cq) k (rgc rs')) := Lib.hid (own_alloc (own_below HI.out.own HB2.out) _); have HRD : Hid (Reads (w2.alloc (.cells #[.slice Ap r.gr.params.length cp, .slice Ak r.gr.kinds.length ck, .int .i64 r.gr.cells, .slice Ai r.gr.init.length ci, .bool r.gr.result, .int .i64 r.gr.keep, .slice An r.gr.nodes.length cn, .int .i64 r.gr.entry] 45)) (w2.heap.size + 1) 8 (some ⟨w2.heap.size, 0, none⟩) 1 (rgOne ⟨r.gr, Ap, cp, Ak, ck, Ai, ci, An, cn, ns⟩)) := Lib.hid (one_reads w2 45 (rgOne ⟨r.gr, Ap, cp, Ak, ck, Ai, ci, An, cn, ns⟩) 8 rfl); have hs2 : w.heap.size ≤ (w2.alloc (.cells #[.slice Ap r.gr.params.length cp, .slice Ak r.gr.kinds.length ck, .int .i64 r.gr.cells, .slice Ai r.gr.init.length ci, .bool r.gr.result, .int .i64 r.gr.keep, .slice An r.gr.nodes.length cn, .int .i64 r.gr.entry] 45)).heap.size := (by have := HB2.out.size; simp; omega); have p2 : w2.cell? ⟨w.heap.size + 2, 0, none⟩ = some (.slice Aq k cq) := (HI.out.blk.below HB2.out hpz).cell 0; have p3 : ∀ o, (w2.alloc o).cell? ⟨w.heap.size + 2, 0, none⟩ = some (.slice Aq k cq) := (fun o => ((HI.out.blk.below HB2.out hpz).alloc o).cell 0); clear ho hb))
      all_goals
        go_wp2
        go_roundw
        case rel => exact ⟨rs' ++ [⟨r.gr, Ap, cp, Ak, ck, Ai, ci, An, cn, ns⟩], k + 1, A4, c4, by omega, by go_num, HI4⟩
        case measure => simp [intOf]; omega
    · obtain rfl : n = k := by omega
      clear hlt hk
      have p0 : wr.cell? ⟨w.heap.size + 2, 0, none⟩ = some (.slice Aq n cq) := HI.out.blk.cell 0
      have r0 : wr.cell? ⟨w.heap.size + 1, 0, none⟩ = some (.slice none 0 0) := HI.out.res.cell 0
      have rf := HI.out.res.frozen 0
      have HD := Lib.hid (HI.out.done HN.out)
      go_wp2
      exact bodyPost_ret (v := .agg #[.slice Aq n cq]) (by simp [results, Try.results19, go_sem, r0]) rfl HD.out
end Go.Proofs.Ytihfihockobpjaa
