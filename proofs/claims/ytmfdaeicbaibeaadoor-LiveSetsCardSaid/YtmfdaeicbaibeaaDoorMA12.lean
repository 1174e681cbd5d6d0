/-
  Texts of one seat, one behind the other: LIn, LCk, LOr, LAft, LOut.
-/
import Derived.Test.YtmfdaeicbaibeaaDoorMA7
import Derived.Test.YtmfdaeicbaibeaaDoorMA11
import Derived.Test.YtmfdaeicbaibeaaDoorMA4

/-
  Package live: lists, check, In.
-/
namespace Go.Proofs.YtmfdaeicbaibeaaDoor
set_option linter.unusedVariables false
set_option linter.unusedSimpArgs false
open Go.ChangeShapes Go.WideShapes Go.ChangeAt Go.RowKit

/-- a row of rows of ints -/
structure RdL (w : World) (base O n : Nat) (vs : Nat → Value) (f : Nat → List Int) : Prop where
  row : Blk w O 33 (rowA n vs)
  own : ∀ i, i < n → w.ownsRow base 3 1 (vs i) (f i).length (i64c (f i))
theorem RdL.on {w w' : World} {base O n : Nat} {vs : Nat → Value} {f : Nat → List Int} (h : RdL w base O n vs f) (hb : Below w.heap.size w w') : RdL w' base O n vs f :=
  ⟨h.row.below hb h.row.lt, fun i hi => own_kept (h.own i hi) fun g hg => hb.block g (own_block_le (h.own i hi) hg).2⟩
theorem RdL.congr {w : World} {base O n : Nat} {vs : Nat → Value} {f g : Nat → List Int} (h : RdL w base O n vs f) (he : ∀ i, i < n → f i = g i) : RdL w base O n vs g := ⟨h.row, fun i hi => by rw [← he i hi]; exact h.own i hi⟩
/-- the lists, under way -/
structure LiI (W : World) (O n k : Nat) (vs : Nat → Value) (f : Nat → List Int) (wr : World) : Prop where
  row : Blk wr O 33 (rowA n vs)
  own : ∀ i, i < k → wr.ownsRow W.heap.size 3 1 (vs i) (f i).length (i64c (f i))
  below : Below W.heap.size W wr
  le : W.heap.size ≤ O
theorem LiI.step {W wr w2 : World} {O n k : Nat} {vs : Nat → Value} {f : Nat → List Int} {v : Value} (h : LiI W O n k vs f wr) (hb : Below wr.heap.size wr w2) (ho : w2.ownsRow wr.heap.size 3 1 v (f k).length (i64c (f k))) :
    LiI W O n (k + 1) (upd vs k v) f (w2.setCell ⟨O, k, none⟩ v) := by
  have hr := h.row.below hb h.row.lt
  have hle := h.le
  refine ⟨?_, fun i hi => ?_, (h.below.trans (hb.mono h.below.size)).setCell (p := ⟨O, k, none⟩) (by show W.heap.size ≤ O; exact hle) _, hle⟩
  · have h1 := hr.set_ k v
    rw [rowA_set] at h1
    exact h1
  · by_cases e : i = k
    · subst e
      rw [upd_at]
      exact own_far (own_more ho h.below.size) hr (by decide) _ _
    · rw [upd_ne e]
      exact own_far (own_kept (h.own i (by omega)) fun g hg => hb.block g (own_block_le (h.own i (by omega)) hg).2) hr (by decide) _ _
set_option maxRecDepth 100000 in
set_option maxHeartbeats 3200000 in
theorem lists_any (R n q m : Nat) (wss : List (List Nat)) (w : World) (h : SetsI w R n q m wss) (hn : n ≤ 4096) (hT : TzTab w) :
    Calls Tryd.prog 19 #[.slice (some ⟨R, 0, none⟩) n n] w fun e w' => ∃ vs, e = .returned (.slice (some ⟨w.heap.size, 0, none⟩) n n) ∧ RdL w' w.heap.size w.heap.size n vs (fun i => listK (wss.getD i []) q) ∧ Below w.heap.size w w' := by
  have hmk : ∀ W : World, (Instr.makeSlice 26 (.int .i64 n) (.int .i64 n)).run Tryd.prog W = .ok (.slice (some ⟨W.heap.size, 0, none⟩) n n) (W.alloc (.cells (madeCells #[.slice none 0 0] n) 33)) := fun W => run_make_row' _ _ _ 24 Tryd.underlying26 info_sint rfl .i64 .i64 n (by omega) (by omega) W
  have HS := Lib.hid h
  have HT := Lib.hid hT
  have HI0 : Hid (LiI w w.heap.size n 0 (fun _ => .slice none 0 0) (fun i => listK (wss.getD i []) q) (w.alloc (.cells (madeCells #[.slice none 0 0] n) 33))) := Lib.hid ⟨by rw [rowA_made]; exact Blk.new _ _ _, fun i hi => absurd hi (by omega), (Below.refl _ _).alloc (Nat.le_refl _) _, Nat.le_refl _⟩
  clear h hT
  go_enter Tryd.func19, Tryd.ntmps19
  go_wp2
  go_loopw [11] (fun i wr => ∃ (k : Nat) (vs : Nat → Value), k ≤ n ∧ i = .int .i64 k ∧ Hid (LiI w w.heap.size n k vs (fun i => listK (wss.getD i []) q) wr)) (fun i _ => n - (intOf i).toNat)
  case atStart => exact ⟨0, _, by omega, rfl, HI0⟩
  case round =>
    clear HI0
    obtain ⟨k, vs, hk, rfl, HI⟩ := hrel
    by_cases hlt : k < n
    · have HSr := Lib.hid (HS.out.on (E := w.heap.size) HI.out.below HS.out.row.lt fun i hi => (HS.out.box i hi).lt)
      have s0 : wr.cell? ⟨R, k, none⟩ = some (.pointer (some ⟨R + 2 + 2 * k, 0, none⟩)) := by rw [HSr.out.row.cell, rowA_at _ hlt]
      have hmem := getD_mem [] (show k < wss.length by rw [HS.out.wf.len]; exact hlt)
      have HLI := Lib.hid (llist_any (R + 2 + 2 * k) (R + 1 + 2 * k) q (wss.getD k []) wr ((HSr.out.box k hlt).cell 1) (HSr.out.words k hlt) (HS.out.wf.each _ hmem) (HS.out.wf.lt _ hmem) (by have := HS.out.qm; have := HS.out.mb; omega) (HT.out.below HI.out.below))
      clear hmem
      go_wp2_with (go_at_call 39; refine HLI.out.mono ?_; rintro e w2 ⟨A2, c2, rfl, ho2, hb2⟩; have HO2 := Lib.hid ho2; have HB2 := Lib.hid hb2; have f2 : w2.frozen? ⟨w.heap.size, k, none⟩ = false := (HI.out.row.below hb2 HI.out.row.lt).frozen k; obtain ⟨y2, hy2⟩ : ∃ y, w2.cell? ⟨w.heap.size, k, none⟩ = some y := ⟨_, ((HI.out.row.below hb2 HI.out.row.lt).cell k).trans (rowA_at _ hlt)⟩; clear ho2 hb2)
      go_roundw
      case rel => exact ⟨k + 1, _, by omega, by go_num, Lib.hid (HI.out.step HB2.out HO2.out)⟩
      case measure => simp [intOf]; omega
    · have hkn : k = n := by omega
      have HFIN : Hid (RdL wr w.heap.size w.heap.size n vs (fun i => listK (wss.getD i []) q)) := Lib.hid ⟨HI.out.row, fun i hi => HI.out.own i (by omega)⟩
      go_wp2
      go_ret
      exact ⟨vs, rfl, HFIN.out, HI.out.below⟩
open Classical in
/-- the places that are live, rising -/
noncomputable def liveL (ns : List Nd) (m i : Nat) : List Int := ((List.range m).filter fun p : Nat => decide (Live ns (p : Int) i)).map fun (p : Nat) => (p : Int)
open Classical in
/-- .. behind a node -/
noncomputable def liveOL (ns : List Nd) (m i : Nat) : List Int := ((List.range m).filter fun p : Nat => decide (LiveO ns (p : Int) i)).map fun (p : Nat) => (p : Int)
open Classical in
theorem liveL_of {wss : List (List Nat)} {ns : List Nd} {n q m i : Nat} (hw : WfS wss n q m) (hq : q = (m + 63) / 64) (h : ∀ p : Nat, hasS wss i p = true ↔ Live ns p i) : listK (wss.getD i []) q = liveL ns m i := by
  rw [listK_all (m := m) (by omega) (fun j hj => hw.most i j hj)]
  unfold liveL
  congr 1
  refine List.filter_congr fun p _ => ?_
  exact Bool.eq_iff_iff.2 ((h p).trans decide_eq_true_iff.symm)
open Classical in
theorem liveOL_of {wss : List (List Nat)} {ns : List Nd} {n q m i : Nat} (hw : WfS wss n q m) (hq : q = (m + 63) / 64) (h : ∀ p : Nat, hasS wss i p = true ↔ LiveO ns p i) : listK (wss.getD i []) q = liveOL ns m i := by
  rw [listK_all (m := m) (by omega) (fun j hj => hw.most i j hj)]
  unfold liveOL
  congr 1
  refine List.filter_congr fun p _ => ?_
  exact Bool.eq_iff_iff.2 ((h p).trans decide_eq_true_iff.symm)
theorem add1_mem {l : List Int} {x y : Int} (h : y ∈ add1 l x) : y ∈ l ∨ (y = x ∧ 0 ≤ x) := by
  unfold add1 at h
  split at h
  · rename_i hx
    rcases List.mem_append.1 h with h | h
    · exact .inl h
    · exact .inr ⟨by simpa using h, hx.1⟩
  · exact .inl h
theorem addL_mem (more : List Int) : ∀ {l : List Int} {y : Int}, y ∈ addL l more → y ∈ l ∨ (y ∈ more ∧ 0 ≤ y) := by
  unfold addL
  induction more with
  | nil => intro l y h; exact .inl h
  | cons x r ih =>
    intro l y h
    rw [List.foldl_cons] at h
    rcases ih h with h | h
    · rcases add1_mem h with h | ⟨h, h2⟩
      · exact .inl h
      · exact .inr ⟨by simp [h], by rw [h]; exact h2⟩
    · exact .inr ⟨by simp [h.1], h.2⟩
theorem reads_in {gs : List Gr} {g : Gr} {n : Nd} (h : uses gs g false n) : ∀ x ∈ readsOf n, 0 ≤ x ∧ x < (g.kinds.length : Int) := by
  intro x hx
  have hx' : x ∈ readF n ∧ 0 ≤ x := by
    rcases addL_mem _ hx with h1 | h1
    · cases h1
    · exact h1
  obtain ⟨h1, h0⟩ := hx'
  refine ⟨h0, ?_⟩
  have key : ∀ k, fits g.kinds false x k → x < (g.kinds.length : Int) := fun k hf => hf.1.2
  unfold readF at h1
  unfold uses at h
  split at h1
  · rename_i ho
    obtain rfl : x = n.a := by simpa using h1
    rcases ho with e | e | e | e | e | e | e | e
    · rw [e] at h; simp at h; exact h.1.2
    · rw [e] at h; simp at h; exact key _ h.2
    · rw [e] at h; simp at h; exact key _ h.2
    · rw [e] at h; simp at h; exact key _ h
    · rw [e] at h
      simp at h
      split at h
      · exact key _ h
      · omega
    · rw [e] at h; simp at h; exact key _ h
    · rw [e] at h; simp at h; exact key _ h
    · rw [e] at h; simp at h; exact key _ h
  · split at h1
    · rename_i ho
      rcases ho with e | e
      · rw [e] at h
        simp at h h1
        rcases h1 with rfl | rfl
        · exact key _ h.2.2.1
        · exact key _ h.2.2.2
      · rw [e] at h
        simp at h h1
        rcases h1 with rfl | rfl
        · exact key _ h.1
        · exact key _ h.2
    · split at h1
      · rename_i ho
        have hh : hands gs g false n.f n.args := by
          rcases ho with e | e
          · rw [e] at h; simp at h; exact h.1
          · rw [e] at h; simp at h; exact h
        have h3 := hh.2.2
        rw [if_neg (by decide)] at h3
        obtain ⟨i, hi, rfl⟩ := List.mem_iff_getElem.1 h1
        have h4 := h3 i hi
        rw [List.getD_eq_getElem?_getD, List.getElem?_eq_getElem hi] at h4
        exact h4.1.2
      · cases h1
theorem valid_reads {gs : List Gr} {g : Gr} (h : valid gs false) (hg : g ∈ gs) : ReadIn g.nodes g.kinds.length := fun n hn => reads_in (h.2.2.2 g hg n hn).1
theorem valid_next {gs : List Gr} {g : Gr} (h : valid gs false) (hg : g ∈ gs) : NextIn g.nodes := fun n hn x hx => (h.2.2.2 g hg n hn).2 x hx
theorem valid_sizes {gs : List Gr} {g : Gr} (h : valid gs false) (hg : g ∈ gs) : g.kinds.length ≤ 1024 ∧ g.nodes.length ≤ 4096 := by
  have hh := h.2.2.1 g hg
  exact ⟨hh.1.1, hh.2.2.2.2.2.2.1⟩
end Go.Proofs.YtmfdaeicbaibeaaDoor

/-
  Package live: check, In.
-/
namespace Go.Proofs.YtmfdaeicbaibeaaDoor
set_option linter.unusedVariables false
set_option linter.unusedSimpArgs false
open Go.ChangeShapes Go.WideShapes Go.ChangeAt Go.RowKit

/-- what live.check answers -/
def chkL (gs : List Gr) (f : Int) : Int := if valid gs false then (if f < 0 ∨ (gs.length : Int) ≤ f then 2 else 0) else 70
theorem lcheck_any (B : Nat) (fo : Option Addr) (nF cF : Nat) (rs : List RG) (f : Int) (w : World) (h : RdP w B fo nF rs) (hB : B ≤ w.heap.size) :
    Calls Tryd.prog 18 #[.agg #[.slice fo nF cF], .int .i64 f] w fun e w' => e = .returned (.int .i64 (chkL (grs rs) f)) ∧ Below w.heap.size w w' := by
  have HBL : Hid (Below w.heap.size w (w.alloc (.cells #[.slice fo nF cF] 24))) := (Below.refl _ _).alloc (Nat.le_refl _) _
  have HG := Lib.hid (Blk.new w 24 #[.slice fo nF cF])
  have HV := Lib.hid (check_any B fo nF cF rs false (w.alloc (.cells #[.slice fo nF cF] 24)) (h.below (HBL.out.mono hB)) (by simp; omega))
  have HL : Hid ((grs rs).length = nF) := Lib.hid (by rw [length_grs]; exact h.len)
  clear h
  by_cases hv : valid (grs rs) false
  · rw [if_pos hv] at HV
    by_cases h0 : f < 0
    · have HC : Hid (chkL (grs rs) f = 2) := Lib.hid (by unfold chkL; rw [if_pos hv, if_pos (.inl h0)])
      have g0 : decide (f < 0) = true := by simpa using h0
      clear hv h0
      go_enter Tryd.func18, Tryd.ntmps18
      go_wp2_with (go_at_call 38; refine HV.out.mono ?_; rintro e w2 ⟨rfl, hb2⟩; have HB2 := Lib.hid hb2; clear hb2)
      go_ret
      exact ⟨by rw [HC.out]; rfl, HBL.out.trans (HB2.out.mono (by simp))⟩
    · have g0 : decide (f < 0) = false := by simpa using h0
      by_cases h1 : (nF : Int) ≤ f
      · have HC : Hid (chkL (grs rs) f = 2) := Lib.hid (by unfold chkL; rw [if_pos hv, HL.out, if_pos (.inr h1)])
        have g1 : decide (f ≥ (nF : Int)) = true := by simpa using h1
        have g2 : decide ((nF : Int) ≤ f) = true := by simpa using h1
        clear hv h0 h1
        go_enter Tryd.func18, Tryd.ntmps18
        go_wp2_with (go_at_call 38; refine HV.out.mono ?_; rintro e w2 ⟨rfl, hb2⟩; have HB2 := Lib.hid hb2; have g6 : w2.cell? ⟨w.heap.size, 0, none⟩ = some (.slice fo nF cF) := (HG.out.below hb2 HG.out.lt).cell 0; clear hb2)
        go_ret
        exact ⟨by rw [HC.out]; rfl, HBL.out.trans (HB2.out.mono (by simp))⟩
      · have HC : Hid (chkL (grs rs) f = 0) := Lib.hid (by unfold chkL; rw [if_pos hv, HL.out, if_neg (fun h => h.elim h0 h1)])
        have g1 : decide (f ≥ (nF : Int)) = false := by simpa using h1
        have g2 : decide ((nF : Int) ≤ f) = false := by simpa using h1
        clear hv h0 h1
        go_enter Tryd.func18, Tryd.ntmps18
        go_wp2_with (go_at_call 38; refine HV.out.mono ?_; rintro e w2 ⟨rfl, hb2⟩; have HB2 := Lib.hid hb2; have g6 : w2.cell? ⟨w.heap.size, 0, none⟩ = some (.slice fo nF cF) := (HG.out.below hb2 HG.out.lt).cell 0; clear hb2)
        go_ret
        exact ⟨by rw [HC.out]; rfl, HBL.out.trans (HB2.out.mono (by simp))⟩
  · rw [if_neg hv] at HV
    have HC : Hid (chkL (grs rs) f = 70) := Lib.hid (by unfold chkL; rw [if_neg hv])
    clear hv
    go_enter Tryd.func18, Tryd.ntmps18
    go_wp2_with (go_at_call 38; refine HV.out.mono ?_; rintro e w2 ⟨rfl, hb2⟩; have HB2 := Lib.hid hb2; clear hb2)
    go_ret
    exact ⟨by rw [HC.out]; rfl, HBL.out.trans (HB2.out.mono (by simp))⟩
/-- what In and Out leave: an error, or lists -/
def LvPost (L : List Nd → Nat → Nat → List Int) (gs : List Gr) (f : Int) (w : World) (e : Ending) (w' : World) : Prop :=
  Below w.heap.size w w' ∧ ∃ (A : Option Addr) (n c : Nat), e = .returned (.tuple #[.slice A n c, .int .i64 (chkL gs f)]) ∧ (chkL gs f ≠ 0 → A = none ∧ n = 0 ∧ c = 0) ∧ (chkL gs f = 0 → ∃ O vs g, gs[f.toNat]? = some g ∧ A = some ⟨O, 0, none⟩ ∧ n = g.nodes.length ∧ c = n ∧ w.heap.size ≤ O ∧ RdL w' w.heap.size O n vs (L g.nodes g.kinds.length))
theorem chk_zero {gs : List Gr} {f : Int} (h : chkL gs f = 0) : valid gs false ∧ ∃ k : Nat, f = k ∧ k < gs.length := by
  unfold chkL at h
  split at h
  · rename_i hv
    split at h
    · omega
    · exact ⟨hv, f.toNat, by omega, by omega⟩
  · omega
set_option maxRecDepth 100000 in
set_option maxHeartbeats 3200000 in
theorem in_live (B : Nat) (fo : Option Addr) (nF cF : Nat) (rs : List RG) (f : Int) (w : World) (h : RdP w B fo nF rs) (hB : B ≤ w.heap.size) (hT : TzTab w) :
    Calls Tryd.prog 7 #[.agg #[.slice fo nF cF], .int .i64 f] w (LvPost liveL (grs rs) f w) := by
  have HBL : Hid (Below w.heap.size w (w.alloc (.cells #[.slice fo nF cF] 24))) := (Below.refl _ _).alloc (Nat.le_refl _) _
  have HG := Lib.hid (Blk.new w 24 #[.slice fo nF cF])
  have HV := Lib.hid (lcheck_any B fo nF cF rs f (w.alloc (.cells #[.slice fo nF cF] 24)) (h.below (HBL.out.mono hB)) (by simp; omega))
  have H := Lib.hid h
  have HT := Lib.hid hT
  clear h hT
  obtain ⟨z, hz⟩ : ∃ z, z = chkL (grs rs) f := ⟨_, rfl⟩
  rw [← hz] at HV
  have HZ := Lib.hid hz
  clear hz
  by_cases h0 : z = 0
  · subst h0
    obtain ⟨hv, k, rfl, hk⟩ := chk_zero HZ.out.symm
    have hkF : k < nF := by rw [length_grs, H.out.len] at hk; exact hk
    obtain ⟨b, off, r, rfl, hb, HX, HRG, HWG, x0, x1, x2, x3, x4, x5, x6, x7⟩ := H.out.gr hkF
    have HXG : Hid ((grs rs)[k]? = some r.gr) := Lib.hid (by unfold grs; rw [List.getElem?_map, HX.out]; rfl)
    have hmem : r.gr ∈ grs rs := List.mem_of_getElem? HXG.out
    have hsz := valid_sizes hv hmem
    have hrin := valid_reads hv hmem
    have hnin := valid_next hv hmem
    rw [← HRG.out.nd] at hrin hnin
    have HSZ := Lib.hid hsz
    have HAT : Hid (∀ W, Below w.heap.size w W → Calls Tryd.prog 20 #[.agg #[.slice r.po r.gr.params.length r.pc, .slice r.ko r.gr.kinds.length r.kc, .int .i64 r.gr.cells, .slice r.io r.gr.init.length r.ic, .bool r.gr.result, .int .i64 r.gr.keep, .slice r.no r.gr.nodes.length r.nc, .int .i64 r.gr.entry]] W fun e w' =>
      ∃ R wss, e = .returned (.slice (some ⟨R, 0, none⟩) r.gr.nodes.length r.gr.nodes.length) ∧ SetsI w' R r.gr.nodes.length ((r.gr.kinds.length + 63) / 64) r.gr.kinds.length wss ∧ (∀ i p, hasS wss i p = true ↔ Live (nds r.ns) p i) ∧ Below W.heap.size W w' ∧ W.heap.size < R) := Lib.hid fun W hbw =>
        liveAt_any B r.po r.ko r.io r.no r.gr.params.length r.pc r.gr.kinds.length r.kc r.gr.init.length r.ic r.gr.nodes.length r.nc ((r.gr.kinds.length + 63) / 64) r.gr.cells r.gr.keep r.gr.entry r.gr.result r.ns W (HRG.out.nodes.below (hbw.mono hB)) (by have := hbw.size; omega) hsz.2 hsz.1 rfl hnin hrin
    clear hsz hrin hnin hv hk
    go_enter Tryd.func7, Tryd.ntmps7
    go_wp2_with (first
      | (go_at_call 18; refine HV.out.mono ?_; rintro e w2 ⟨rfl, hb2⟩; have HB2 := Lib.hid (HBL.out.trans (hb2.mono HBL.out.size)); have g6 : w2.cell? ⟨w.heap.size, 0, none⟩ = some (.slice (some ⟨b, off, none⟩) nF cF) := (HG.out.below hb2 HG.out.lt).cell 0; have bc := HB2.out; have y0 := (bc.cell (p := ⟨b, off + k * 8, none⟩) (by show b < _; omega)).trans x0; have y1 := (bc.cell (p := ⟨b, off + k * 8 + 1, none⟩) (by show b < _; omega)).trans x1; have y2 := (bc.cell (p := ⟨b, off + k * 8 + 2, none⟩) (by show b < _; omega)).trans x2; have y3 := (bc.cell (p := ⟨b, off + k * 8 + 3, none⟩) (by show b < _; omega)).trans x3; have y4 := (bc.cell (p := ⟨b, off + k * 8 + 4, none⟩) (by show b < _; omega)).trans x4; have y5 := (bc.cell (p := ⟨b, off + k * 8 + 5, none⟩) (by show b < _; omega)).trans x5; have y6 := (bc.cell (p := ⟨b, off + k * 8 + 6, none⟩) (by show b < _; omega)).trans x6; have y7 := (bc.cell (p := ⟨b, off + k * 8 + 7, none⟩) (by show b < _; omega)).trans x7; clear hb2 bc)
      | (go_at_call 20; refine (HAT.out _ HB2.out).mono ?_; rintro e w3 ⟨R, wss, rfl, hs3, hl3, hb3, _⟩; have HS3 := Lib.hid hs3; have HL3 := Lib.hid hl3; have HB3 := Lib.hid (HB2.out.trans (hb3.mono HB2.out.size)); clear hs3 hl3 hb3)
      | (go_at_call 19; refine (lists_any R _ _ _ wss w3 HS3.out HSZ.out.2 (HT.out.below HB3.out)).mono ?_; rintro e w4 ⟨vs, rfl, hr4, hb4⟩; have HR4 := Lib.hid hr4; have HB4 := Lib.hid (HB3.out.trans (hb4.mono HB3.out.size)); clear hr4 hb4))
    go_ret2
    refine ⟨HB4.out, some ⟨w3.heap.size, 0, none⟩, r.gr.nodes.length, r.gr.nodes.length, by rw [← HZ.out]; rfl, fun h => absurd HZ.out.symm h, fun _ => ⟨w3.heap.size, vs, r.gr, HXG.out, rfl, rfl, rfl, HB3.out.size, HR4.out.row, fun i hi => ?_⟩⟩
    have e1 := liveL_of HS3.out.wf rfl (fun p => HL3.out i p)
    rw [HRG.out.nd] at e1
    rw [← e1]
    exact own_more (HR4.out.own i hi) HB3.out.size
  · have g1 : (z != 0) = true := by simpa using h0
    have H0 := Lib.hid h0
    clear h0
    go_enter Tryd.func7, Tryd.ntmps7
    go_wp2_with (first
      | (go_at_call 18; refine HV.out.mono ?_; rintro e w2 ⟨rfl, hb2⟩; have HB2 := Lib.hid (HBL.out.trans (hb2.mono HBL.out.size)); clear hb2))
    go_ret2
    exact ⟨HB2.out, none, 0, 0, by rw [← HZ.out]; rfl, fun _ => ⟨rfl, rfl, rfl⟩, fun h => absurd (HZ.out.trans h) H0.out⟩
end Go.Proofs.YtmfdaeicbaibeaaDoor

/-
  Package bits, any sets: Or.
-/
namespace Go.Proofs.YtmfdaeicbaibeaaDoor
set_option linter.unusedVariables false
set_option linter.unusedSimpArgs false
open Go.ChangeShapes Go.WideShapes Go.ChangeAt Go.RowKit

/-- one block may have turned -/
structure KpB (w w' : World) (b : Nat) : Prop where
  os : w'.os = w.os
  tape : w'.tape = w.tape
  output : w'.output = w.output
  size : w.heap.size ≤ w'.heap.size
  block : ∀ i, i < w.heap.size → i ≠ b → w'.heap[i]? = w.heap[i]?
theorem KpB.refl (w : World) (b : Nat) : KpB w w b := ⟨rfl, rfl, rfl, Nat.le_refl _, fun _ _ _ => rfl⟩
theorem KpB.drewN {w w' : World} {b : Nat} (h : KpB w w' b) (n : Nat) : KpB w (w'.drewN n) b := ⟨h.os, h.tape, h.output, h.size, h.block⟩
theorem KpB.set {w w' : World} {b : Nat} (h : KpB w w' b) (k : Nat) (u : Value) : KpB w (w'.setCell ⟨b, k, none⟩ u) b :=
  ⟨h.os, h.tape, h.output, by simpa [World.setCell] using h.size, fun i hi hne => (Below.heap_setCell w' ⟨b, k, none⟩ u i hne).trans (h.block i hi hne)⟩
theorem KpB.blk {w w' : World} {b g : Nat} {t : TypeId} {cs : Array Value} (h : KpB w w' b) (hb : Blk w g t cs) (hne : g ≠ b) : Blk w' g t cs := (h.block g hb.lt hne).trans hb
theorem KpB.out {w w' : World} {b : Nat} (h : KpB w w' b) (B : Nat) (hB : B ≤ w.heap.size) (hb : B ≤ b) : Below B w w' := ⟨h.os, h.tape, h.output, h.size, fun i hi => h.block i (by omega) (by omega)⟩
theorem shl_below (s : Nat) (h : s ≤ 64) : IntKind.u64.wrap (IntKind.u64.wrap ((2 : Int) ^ s) - 1) = ((2 ^ s - 1 : Nat) : Int) := by
  rw [pow_int, wrap_u64_eq, wrap_u64_eq]
  have hp : 0 < 2 ^ s := Nat.pow_pos (by decide)
  have hle : 2 ^ s ≤ 2 ^ 64 := Nat.pow_le_pow_right (by decide) h
  by_cases e : s = 64
  · subst e
    decide
  · have hlt : 2 ^ s < 2 ^ 64 := Nat.pow_lt_pow_right (by decide) (by omega)
    omega
theorem below_any (p k m : Nat) (s : Nat) (w : World) (h0 : w.cell? ⟨p, 0, none⟩ = some (.int .i64 m)) (hk : 64 * k < m) (hm : m ≤ 1024) (hs : s = min (m - 64 * k) 64) : Calls Tryd.prog 67 #[.pointer (some ⟨p, 0, none⟩), .int .i64 k] w fun e w' => e = .returned (.int .u64 ((2 ^ s - 1 : Nat) : Int)) ∧ w' = w := by
  have hsb := shl_below s (by omega)
  have hms : min (m - 64 * k) 64 = s := hs.symm
  obtain ⟨c, hc⟩ : ∃ c : Nat, c = m - 64 * k := ⟨_, rfl⟩
  rw [← hc] at hms
  have g1 : (m : Int) - (k : Int) * 64 = (c : Int) := by omega
  have g0 : decide ((c : Int) < 0) = false := by simp
  clear hs hc
  go_enter Tryd.func67, Tryd.ntmps67
  go_wp2
  go_ret
  refine ⟨?_, rfl⟩
  simp [hms]
  try exact hsb
theorem shared_any (p1 b1 p2 b2 q : Nat) (w : World) (h1 : w.cell? ⟨p1, 1, none⟩ = some (.slice (some ⟨b1, 0, none⟩) q q)) (h2 : w.cell? ⟨p2, 1, none⟩ = some (.slice (some ⟨b2, 0, none⟩) q q)) (hq : q ≤ 16) :
    Calls Tryd.prog 66 #[.pointer (some ⟨p1, 0, none⟩), .pointer (some ⟨p2, 0, none⟩)] w fun e w' => e = .returned (.slice (some ⟨b2, 0, none⟩) q q) ∧ w' = w := by
  have HA := Lib.hid (lall_some p1 _ _ _ w h1)
  have HB := Lib.hid (lall_some p2 _ _ _ w h2)
  clear h1 h2
  go_enter Tryd.func66, Tryd.ntmps66
  go_wp2_with (first
    | (go_at_call 58; with_reducible refine HA.out.mono ?_; rintro e w1 ⟨rfl, hw1⟩; rw [hw1]; clear hw1)
    | (go_at_call 58; with_reducible refine HB.out.mono ?_; rintro e w1 ⟨rfl, hw1⟩; rw [hw1]; clear hw1))
  go_ret
  exact ⟨rfl, rfl⟩
set_option maxRecDepth 100000 in
set_option maxHeartbeats 1600000 in
theorem lor_any (p1 b1 p2 b2 m q : Nat) (ws vs : List Nat) (w : World) (hp1 : Blk w p1 117 #[.int .i64 m, .slice (some ⟨b1, 0, none⟩) q q]) (hw1 : Blk w b1 40 (u64n ws).toArray) (hp2 : Blk w p2 117 #[.int .i64 m, .slice (some ⟨b2, 0, none⟩) q q]) (hw2 : Blk w b2 40 (u64n vs).toArray)
    (hl1 : ws.length = q) (hl2 : vs.length = q) (hlt1 : ∀ x ∈ ws, x < 18446744073709551616) (hlt2 : ∀ x ∈ vs, x < 18446744073709551616) (hm : m ≤ 1024) (hq : q = (m + 63) / 64) (hmost : ∀ j, hasW vs j = true → j < m) (hne : b2 ≠ b1) :
    Calls Tryd.prog 45 #[.pointer (some ⟨p1, 0, none⟩), .pointer (some ⟨p2, 0, none⟩)] w fun e w' => (∃ bo, e = .returned (.bool bo)) ∧ Blk w' b1 40 (u64n (orK ws vs q)).toArray ∧ KpB w w' b1 := by
  have HSH := Lib.hid (shared_any p1 b1 p2 b2 q w (hp1.cell 1) (hp2.cell 1) (by omega))
  have HP1 := Lib.hid hp1
  have HW1 := Lib.hid hw1
  have HW2 := Lib.hid hw2
  have HL1 := Lib.hid hl1
  have HL2 := Lib.hid hl2
  have HLT1 := Lib.hid hlt1
  have HLT2 := Lib.hid hlt2
  have HM := Lib.hid hmost
  have HQ := Lib.hid hq
  have HPB : Hid (p1 ≠ b1) := Lib.hid (Blk.ne_ hp1 hw1 (by decide))
  have HNE := Lib.hid hne
  have hq16 : q ≤ 16 := by omega
  clear hp1 hw1 hp2 hw2 hl1 hl2 hlt1 hlt2 hmost hq hne
  go_enter Tryd.func45, Tryd.ntmps45
  go_wp2_with (go_at_call 66; refine HSH.out.mono ?_; rintro e w1 ⟨rfl, hw1⟩; rw [hw1]; clear hw1)
  go_loopw [5, 13] (fun v i wr => ∃ (k : Nat) (bo : Bool), k ≤ q ∧ v = .bool bo ∧ i = .int .i64 k ∧ Hid (Blk wr b1 40 (u64n (orK ws vs k)).toArray) ∧ Hid (KpB w wr b1)) (fun _ i _ => q - (intOf i).toNat)
  case atStart => exact ⟨0, false, by omega, rfl, rfl, by rw [orK_zero]; exact HW1, Lib.hid (KpB.refl w b1)⟩
  case round =>
    obtain ⟨k, bo, hk, rfl, rfl, HW, HK⟩ := hrel
    by_cases hlt : k < q
    · have hkm : 64 * k < m := by have := HQ.out; omega
      obtain ⟨T, hT⟩ : ∃ T : Nat, T = vs.getD k 0 := ⟨_, rfl⟩
      obtain ⟨X, hX⟩ : ∃ X : Nat, X = ws.getD k 0 := ⟨_, rfl⟩
      have hTl : T < 18446744073709551616 := by rw [hT]; exact getD_lt HLT2.out k
      have hXl : X < 18446744073709551616 := by rw [hX]; exact getD_lt HLT1.out k
      have hXk : (orK ws vs k).getD k 0 = X := by rw [orK_at, if_neg (fun h => by omega), hX]
      have x2 : wr.cell? ⟨b2, k, none⟩ = some (.int .u64 T) := by
        rw [(HK.out.blk HW2.out HNE.out).cell, List.getElem?_toArray, hT]
        exact u64n_at (by rw [HL2.out]; exact hlt)
      have x1 : wr.cell? ⟨b1, k, none⟩ = some (.int .u64 X) := by
        rw [HW.out.cell, List.getElem?_toArray, ← hXk]
        exact u64n_at (by rw [orK_len, HL1.out]; exact hlt)
      have c0 : wr.cell? ⟨p1, 1, none⟩ = some (.slice (some ⟨b1, 0, none⟩) q q) := (HK.out.blk HP1.out HPB.out).cell 1
      have c9 : wr.cell? ⟨p1, 0, none⟩ = some (.int .i64 m) := (HK.out.blk HP1.out HPB.out).cell 0
      have f1 : wr.frozen? ⟨b1, k, none⟩ = false := HW.out.frozen k
      obtain ⟨s, hs⟩ : ∃ s, s = min (m - 64 * k) 64 := ⟨_, rfl⟩
      have HBE := Lib.hid (fun W (h : W.cell? ⟨p1, 0, none⟩ = some (.int .i64 m)) => below_any p1 k m s W h hkm hm hs)
      obtain ⟨D, hD⟩ : ∃ D : Nat, D = 2 ^ s - 1 := ⟨_, rfl⟩
      rw [← hD] at HBE
      have hDl : D < 18446744073709551616 := by
        have : 2 ^ s ≤ 2 ^ 64 := Nat.pow_le_pow_right (by decide) (by omega)
        omega
      obtain ⟨Y, hY⟩ : ∃ Y : Nat, Y = T &&& (18446744073709551615 - X) := ⟨_, rfl⟩
      have hYl : Y < 18446744073709551616 := by rw [hY]; exact Nat.lt_of_le_of_lt Nat.and_le_left hTl
      have ga : bits BinOp.andNot IntKind.u64 (T : Int) (X : Int) = (Y : Int) := by rw [u64_andNot_nat _ _ hTl hXl, hY]
      obtain ⟨Z, hZ⟩ : ∃ Z : Nat, Z = Y &&& D := ⟨_, rfl⟩
      have hZl : Z < 18446744073709551616 := by rw [hZ]; exact Nat.lt_of_le_of_lt Nat.and_le_left hYl
      have gb : bits BinOp.and IntKind.u64 (Y : Int) (D : Int) = (Z : Int) := by rw [u64_and_nat _ _ hYl hDl, hZ]
      obtain ⟨V, hV⟩ : ∃ V : Nat, V = X ||| T := ⟨_, rfl⟩
      have gor : bits BinOp.or IntKind.u64 (X : Int) (Z : Int) = (V : Int) := by
        rw [u64_or_nat _ _ hXl hZl, hZ, hY, hD, or_added X T s hXl hTl (fun i hi => ?_) (by omega), hV]
        have hi64 : i < 64 := by
          rcases Nat.lt_or_ge i 64 with h | h
          · exact h
          · rw [Nat.testBit_lt_two_pow (Nat.lt_of_lt_of_le (show T < 2 ^ 64 from hTl) (Nat.pow_le_pow_right (by decide) h))] at hi
            cases hi
        have h2 := HM.out (64 * k + i) (by
          unfold hasW
          rw [show (64 * k + i) / 64 = k by omega, show (64 * k + i) % 64 = i by omega, ← hT]
          exact hi)
        omega
      obtain ⟨rz, hrz⟩ : ∃ rz : Bool, ((Z : Int) != 0) = rz := ⟨_, rfl⟩
      have HSTEP : Hid (u64n (orK ws vs (k + 1)) = (u64n (orK ws vs k)).set k (.int .u64 (V : Int))) := Lib.hid (by
        rw [orK_succ ws vs k (by rw [HL1.out]; exact hlt), u64n_set, ← hT, ← hX, ← hV])
      clear hT hX hTl hXl hXk hkm hs hD hDl hY hYl hZ hZl hV
      cases bo
      · go_wp2
        go_quiet ((go_at_call 67; exact Calls.quiet_of_same (HBE.out _ c9)))
        go_wp2
        go_roundw
        case rel =>
          refine ⟨k + 1, rz, by omega, rfl, by go_num, ?_, Lib.hid ((HK.out.drewN nq).set k _)⟩
          have h1 := (HW.out.drewN nq).set_ k (.int .u64 (V : Int))
          rw [List.setIfInBounds_toArray, ← HSTEP.out] at h1
          exact Lib.hid h1
        case measure => simp [intOf]; omega
      · go_wp2
        go_quiet ((go_at_call 67; exact Calls.quiet_of_same (HBE.out _ c9)))
        go_wp2
        go_roundw
        case rel =>
          refine ⟨k + 1, true, by omega, rfl, by go_num, ?_, Lib.hid ((HK.out.drewN nq).set k _)⟩
          have h1 := (HW.out.drewN nq).set_ k (.int .u64 (V : Int))
          rw [List.setIfInBounds_toArray, ← HSTEP.out] at h1
          exact Lib.hid h1
        case measure => simp [intOf]; omega
    · have hkq : k = q := by omega
      rw [hkq] at HW
      go_wp2
      go_ret
      exact ⟨⟨bo, rfl⟩, HW.out, HK.out⟩
end Go.Proofs.YtmfdaeicbaibeaaDoor

/-
  Package live: liveAfter.
-/
namespace Go.Proofs.YtmfdaeicbaibeaaDoor
set_option linter.unusedVariables false
set_option linter.unusedSimpArgs false
open Go.ChangeShapes Go.WideShapes Go.ChangeAt Go.RowKit

def orS (wss : List (List Nat)) (i q : Nat) (vs : List Nat) : List (List Nat) := wss.set i (orK (wss.getD i []) vs q)
theorem hasS_or {wss : List (List Nat)} {n q m i : Nat} {vs : List Nat} (h : WfS wss n q m) (hi : i < n) (hv : vs.length = q) (a b : Nat) : hasS (orS wss i q vs) a b = (hasS wss a b || (decide (a = i) && hasW vs b)) := by
  unfold hasS orS
  rw [List.getD_eq_getElem?_getD, List.getElem?_set]
  by_cases e : i = a
  · subst e
    rw [if_pos rfl, if_pos (by rw [h.len]; exact hi), Option.getD_some, orK_has (h.each _ (getD_mem _ (by rw [h.len]; exact hi))) hv]
    simp
  · rw [if_neg e, ← List.getD_eq_getElem?_getD]
    have : ¬ a = i := fun h => e h.symm
    simp [this]
theorem orS_wf {wss : List (List Nat)} {n q m i : Nat} {vs : List Nat} (h : WfS wss n q m) (hi : i < n) (hv : vs.length = q) (hl : ∀ x ∈ vs, x < 18446744073709551616) (hm : ∀ j, hasW vs j = true → j < m) : WfS (orS wss i q vs) n q m := by
  have hmem := getD_mem [] (show i < wss.length by rw [h.len]; exact hi)
  refine ⟨by simp [orS, h.len], fun ws hw => ?_, fun ws hw => ?_, fun a b hab => ?_⟩
  · rcases List.mem_or_eq_of_mem_set hw with hw | rfl
    · exact h.each ws hw
    · rw [orK_len]; exact h.each _ hmem
  · rcases List.mem_or_eq_of_mem_set hw with hw | rfl
    · exact h.lt ws hw
    · exact orK_lt (h.lt _ hmem) hl q
  · rw [hasS_or h hi hv] at hab
    rcases Bool.or_eq_true _ _ ▸ hab with hab | hab
    · exact h.most a b hab
    · simp at hab
      exact hm b hab.2
/-- what lies behind nodes, under way -/
structure OvI (ns : List Nd) (wss : List (List Nat)) (k j : Nat) : Prop where
  low : ∀ i, i < k → ∀ p : Nat, hasS wss i p = true ↔ LiveO ns p i
  mid : ∀ p : Nat, hasS wss k p = true ↔ ∃ nd, ns[k]? = some nd ∧ ∃ x : Nat, (x : Int) ∈ (nextsOf nd).take j ∧ Live ns p x
  high : ∀ i, k < i → ∀ p, hasS wss i p = false
theorem OvI.start (ns : List Nd) (n q : Nat) : OvI ns (List.replicate n (List.replicate q 0)) 0 0 :=
  ⟨fun i hi => absurd hi (by omega), fun p => by rw [zeroS_has]; simp, fun i _ p => zeroS_has n q i p⟩
theorem OvI.next {ns : List Nd} {wss : List (List Nat)} {k j : Nat} {nd : Nd} (h : OvI ns wss k j) (hn : ns[k]? = some nd) (hj : (nextsOf nd).length ≤ j) : OvI ns wss (k + 1) 0 := by
  refine ⟨fun i hi p => ?_, fun p => ?_, fun i hi p => h.high i (by omega) p⟩
  · by_cases e : i = k
    · subst e
      rw [h.mid p]
      unfold LiveO
      constructor
      · rintro ⟨n2, h1, x, h2, h3⟩
        exact ⟨n2, h1, x, List.mem_of_mem_take h2, h3⟩
      · rintro ⟨n2, h1, x, h2, h3⟩
        have e2 : n2 = nd := by
          rw [hn] at h1
          injection h1 with h1
          exact h1.symm
        subst e2
        exact ⟨n2, h1, x, by rw [List.take_of_length_le hj]; exact h2, h3⟩
    · exact h.low i (by omega) p
  · rw [h.high (k + 1) (by omega) p]
    simp
theorem OvI.step {ns : List Nd} {wa wss : List (List Nat)} {k j n q m x : Nat} {nd : Nd} (h : OvI ns wss k j) (hw : WfS wss n q m) (hk : k < n) (hl : (wa.getD x []).length = q) (hn : ns[k]? = some nd) (hx : (nextsOf nd)[j]? = some (x : Int)) (hL : ∀ i p, hasS wa i p = true ↔ Live ns p i) :
    OvI ns (orS wss k q (wa.getD x [])) k (j + 1) := by
  refine ⟨fun i hi p => ?_, fun p => ?_, fun i hi p => ?_⟩
  · rw [hasS_or hw hk hl]
    have : ¬ i = k := by omega
    simpa [this] using h.low i hi p
  · rw [hasS_or hw hk hl, Bool.or_eq_true, h.mid p]
    simp only [decide_true, Bool.true_and]
    rw [show hasW (wa.getD x []) p = hasS wa x p from rfl, hL x p]
    constructor
    · rintro (⟨n2, h1, y, h2, h3⟩ | h1)
      · refine ⟨n2, h1, y, ?_, h3⟩
        rw [List.take_add_one]
        exact List.mem_append_left _ h2
      · exact ⟨nd, hn, x, by rw [List.take_add_one, hx]; simp, h1⟩
    · rintro ⟨n2, h1, y, h2, h3⟩
      have e2 : n2 = nd := by
        rw [hn] at h1
        injection h1 with h1
        exact h1.symm
      subst e2
      rw [List.take_add_one, hx] at h2
      rcases List.mem_append.1 h2 with h2 | h2
      · exact .inl ⟨n2, h1, y, h2, h3⟩
      · have : y = x := by
          have : (y : Int) = x := by simpa using h2
          omega
        subst this
        exact .inr h3
  · rw [hasS_or hw hk hl, h.high i hi p]
    have : ¬ i = k := by omega
    simp [this]
section
variable {w w' : World} {R n q m k : Nat} {wss : List (List Nat)}
/-- sets after an Or -/
theorem SetsI.or {vs : List Nat} (h : SetsI w R n q m wss) (hk : k < n) (hb : Blk w' (R + 1 + 2 * k) 40 (u64n (orK (wss.getD k []) vs q)).toArray) (kp : KpB w w' (R + 1 + 2 * k)) (hv : vs.length = q) (hl : ∀ x ∈ vs, x < 18446744073709551616) (hm : ∀ j, hasW vs j = true → j < m) : SetsI w' R n q m (orS wss k q vs) := by
  refine ⟨kp.blk h.row (by omega), fun i hi => kp.blk (h.box i hi) (by omega), fun i hi => ?_, orS_wf h.wf hk hv hl hm, h.qm, h.mb⟩
  by_cases e : i = k
  · subst e
    unfold orS
    rw [List.getD_eq_getElem?_getD, List.getElem?_set, if_pos rfl, if_pos (by rw [h.wf.len]; exact hi), Option.getD_some]
    exact hb
  · unfold orS
    rw [List.getD_eq_getElem?_getD, List.getElem?_set, if_neg (fun h => e h.symm), ← List.getD_eq_getElem?_getD]
    exact kp.blk (h.words i hi) (by omega)
theorem SetsI.apart {b : Nat} {ws : List Nat} (h : SetsI w R n q m wss) (hw : Blk w b 40 (u64n ws).toArray) (kp : KpB w w' b) (hb : ∀ i, i < n → R + 1 + 2 * i ≠ b) : SetsI w' R n q m wss :=
  ⟨kp.blk h.row (Blk.ne_ h.row hw (by decide)), fun i hi => kp.blk (h.box i hi) (Blk.ne_ (h.box i hi) hw (by decide)), fun i hi => kp.blk (h.words i hi) (hb i hi), h.wf, h.qm, h.mb⟩
end
/-- both sets -/
structure AfI (W : World) (Ra Rb n q m : Nat) (wa wb : List (List Nat)) (wr : World) : Prop where
  sa : SetsI wr Ra n q m wa
  sb : SetsI wr Rb n q m wb
  ap : ∀ i j, i < n → j < n → Ra + 1 + 2 * i ≠ Rb + 1 + 2 * j
  below : Below W.heap.size W wr
  lb : W.heap.size < Rb
theorem AfI.on {W wr w' : World} {Ra Rb n q m : Nat} {wa wb : List (List Nat)} (h : AfI W Ra Rb n q m wa wb wr) (hb : Below wr.heap.size wr w') : AfI W Ra Rb n q m wa wb w' :=
  ⟨h.sa.below hb, h.sb.below hb, h.ap, h.below.trans (hb.mono h.below.size), h.lb⟩
/-- first the sets at nodes, then fresh ones -/
theorem AfI.A {W w1 w2 w3 : World} {Ra Rb n q m : Nat} {wa wb : List (List Nat)} (h0 : Below W.heap.size W w1) (hz : W.heap.size < w1.heap.size) (ha : SetsI w2 Ra n q m wa) (hb : Below w1.heap.size w1 w2) (hc : SetsI w3 Rb n q m wb) (hd : Below w2.heap.size w2 w3) (he : w2.heap.size ≤ Rb) : AfI W Ra Rb n q m wa wb w3 := by
  have h1 := hb.size
  refine ⟨ha.below hd, hc, fun i j hi hj => ?_, (h0.trans (hb.mono h0.size)).trans (hd.mono (by omega)), by omega⟩
  have := (ha.words i hi).lt
  omega
/-- .. the other way round -/
theorem AfI.B {W w1 w2 w3 : World} {Ra Rb n q m : Nat} {wa wb : List (List Nat)} (h0 : Below W.heap.size W w1) (hz : W.heap.size < w1.heap.size) (hc : SetsI w2 Rb n q m wb) (hb : Below w1.heap.size w1 w2) (hr : w1.heap.size ≤ Rb) (ha : SetsI w3 Ra n q m wa) (hd : Below w2.heap.size w2 w3) (he : w2.heap.size ≤ Ra) : AfI W Ra Rb n q m wa wb w3 := by
  have h1 := hb.size
  refine ⟨ha, hc.below hd, fun i j hi hj => ?_, (h0.trans (hb.mono h0.size)).trans (hd.mono (by omega)), by omega⟩
  have := (hc.words j hj).lt
  omega
set_option maxRecDepth 100000 in
set_option maxHeartbeats 6400000 in
theorem liveAfter_any (B : Nat) (po ko io no : Option Addr) (nP pc nK kc nI ic n nc q : Nat) (cells keep entry : Int) (res : Bool) (rn : List RN) (w : World) (hN : RdNs w B no n rn) (hB : B ≤ w.heap.size) (hn : n ≤ 4096) (hK : nK ≤ 1024) (hq : q = (nK + 63) / 64) (hv : NextIn (nds rn)) (hrd : ReadIn (nds rn) nK) :
    Calls Tryd.prog 21 #[.agg #[.slice po nP pc, .slice ko nK kc, .int .i64 cells, .slice io nI ic, .bool res, .int .i64 keep, .slice no n nc, .int .i64 entry]] w fun e w' =>
      ∃ R wss, e = .returned (.slice (some ⟨R, 0, none⟩) n n) ∧ SetsI w' R n q nK wss ∧ (∀ i, i < n → ∀ p : Nat, hasS wss i p = true ↔ LiveO (nds rn) p i) ∧ Below w.heap.size w w' ∧ w.heap.size < R := by
  have hb1 : Below w.heap.size w (w.alloc (.cells #[.slice po nP pc, .slice ko nK kc, .int .i64 cells, .slice io nI ic, .bool res, .int .i64 keep, .slice no n nc, .int .i64 entry] 37)) := (Below.refl _ _).alloc (Nat.le_refl _) _
  have hg1 := Blk.new w 37 #[.slice po nP pc, .slice ko nK kc, .int .i64 cells, .slice io nI ic, .bool res, .int .i64 keep, .slice no n nc, .int .i64 entry]
  have HAT : Hid (∀ W, Below w.heap.size w W → Calls Tryd.prog 20 #[.agg #[.slice po nP pc, .slice ko nK kc, .int .i64 cells, .slice io nI ic, .bool res, .int .i64 keep, .slice no n nc, .int .i64 entry]] W fun e w' =>
      ∃ R wss, e = .returned (.slice (some ⟨R, 0, none⟩) n n) ∧ SetsI w' R n q nK wss ∧ (∀ i p, hasS wss i p = true ↔ Live (nds rn) p i) ∧ Below W.heap.size W w' ∧ W.heap.size < R) := Lib.hid fun W hbw => liveAt_any B po ko io no nP pc nK kc nI ic n nc q cells keep entry res rn W (hN.below (hbw.mono hB)) (by have := hbw.size; omega) hn hK hq hv hrd
  have HNW := Lib.hid (fun W => newSets_any po ko io no nP pc nK kc nI ic n nc q cells keep entry res W hn hK hq)
  have HRN := Lib.hid hN
  have HV := Lib.hid hv
  have HLN : Hid ((nds rn).length = n) := Lib.hid (by rw [length_nds]; exact hN.len)
  obtain ⟨W1, hW1⟩ : ∃ W, W = (w.alloc (.cells #[.slice po nP pc, .slice ko nK kc, .int .i64 cells, .slice io nI ic, .bool res, .int .i64 keep, .slice no n nc, .int .i64 entry] 37)) := ⟨_, rfl⟩
  have HZ1 : Hid (w.heap.size < W1.heap.size) := Lib.hid (by rw [hW1]; simp)
  have HB1 : Hid (Below w.heap.size w W1) := Lib.hid (by rw [hW1]; exact hb1)
  have HG1 : Hid (Blk W1 w.heap.size 37 #[.slice po nP pc, .slice ko nK kc, .int .i64 cells, .slice io nI ic, .bool res, .int .i64 keep, .slice no n nc, .int .i64 entry]) := Lib.hid (by rw [hW1]; exact hg1)
  clear hN hv hrd hb1 hg1
  go_enter Tryd.func21, Tryd.ntmps21
  go_upto_region 1 with fail
  rw [← hW1]
  clear hW1 hq
  go_cut [3, 4] (fun s3 s4 wx => ∃ Ra Rb wa, s3 = .slice (some ⟨Ra, 0, none⟩) n n ∧ s4 = .slice (some ⟨Rb, 0, none⟩) n n ∧ Hid (AfI w Ra Rb n q nK wa (List.replicate n (List.replicate q 0)) wx) ∧ Hid (∀ i p, hasS wa i p = true ↔ Live (nds rn) p i) ∧ Hid (Blk wx w.heap.size 37 #[.slice po nP pc, .slice ko nK kc, .int .i64 cells, .slice io nI ic, .bool res, .int .i64 keep, .slice no n nc, .int .i64 entry]))
  case first =>
    have x0 : W1.cell? ⟨w.heap.size, 0, none⟩ = some (.slice po nP pc) := HG1.out.cell 0
    have x1 : W1.cell? ⟨w.heap.size, 1, none⟩ = some (.slice ko nK kc) := HG1.out.cell 1
    have x2 : W1.cell? ⟨w.heap.size, 2, none⟩ = some (.int .i64 cells) := HG1.out.cell 2
    have x3 : W1.cell? ⟨w.heap.size, 3, none⟩ = some (.slice io nI ic) := HG1.out.cell 3
    have x4 : W1.cell? ⟨w.heap.size, 4, none⟩ = some (.bool res) := HG1.out.cell 4
    have x5 : W1.cell? ⟨w.heap.size, 5, none⟩ = some (.int .i64 keep) := HG1.out.cell 5
    have x6 : W1.cell? ⟨w.heap.size, 6, none⟩ = some (.slice no n nc) := HG1.out.cell 6
    have x7 : W1.cell? ⟨w.heap.size, 7, none⟩ = some (.int .i64 entry) := HG1.out.cell 7
    have HX : Hid (∀ W, Below W1.heap.size W1 W → Blk W w.heap.size 37 #[.slice po nP pc, .slice ko nK kc, .int .i64 cells, .slice io nI ic, .bool res, .int .i64 keep, .slice no n nc, .int .i64 entry]) := Lib.hid fun W hb => HG1.out.below hb HG1.out.lt
    go_region_law (go_simp; first
      | (go_at_call 20; refine (HAT.out W1.drew HB1.out.drew).mono ?_; rintro e w2 ⟨Ra, wa, rfl, hs2, hl2, hb2, hlt2⟩; have HY := Lib.hid (HX.out w2 ((Below.refl _ _).drew.trans hb2)); have y0 := (HY.out.cell 0 : w2.cell? ⟨w.heap.size, 0, none⟩ = some (.slice po nP pc)); have y1 := (HY.out.cell 1 : w2.cell? ⟨w.heap.size, 1, none⟩ = some (.slice ko nK kc)); have y2 := (HY.out.cell 2 : w2.cell? ⟨w.heap.size, 2, none⟩ = some (.int .i64 cells)); have y3 := (HY.out.cell 3 : w2.cell? ⟨w.heap.size, 3, none⟩ = some (.slice io nI ic)); have y4 := (HY.out.cell 4 : w2.cell? ⟨w.heap.size, 4, none⟩ = some (.bool res)); have y5 := (HY.out.cell 5 : w2.cell? ⟨w.heap.size, 5, none⟩ = some (.int .i64 keep)); have y6 := (HY.out.cell 6 : w2.cell? ⟨w.heap.size, 6, none⟩ = some (.slice no n nc)); have y7 := (HY.out.cell 7 : w2.cell? ⟨w.heap.size, 7, none⟩ = some (.int .i64 entry)))
      | (go_at_call 43; refine (HNW.out W1.drew).mono ?_; rintro e w2 ⟨rfl, hs2, hb2, hz2⟩; have HY := Lib.hid (HX.out w2 ((Below.refl _ _).drew.trans hb2)); have HB2 := Lib.hid (HB1.out.drew.trans (hb2.mono HB1.out.size)); have y0 := (HY.out.cell 0 : w2.cell? ⟨w.heap.size, 0, none⟩ = some (.slice po nP pc)); have y1 := (HY.out.cell 1 : w2.cell? ⟨w.heap.size, 1, none⟩ = some (.slice ko nK kc)); have y2 := (HY.out.cell 2 : w2.cell? ⟨w.heap.size, 2, none⟩ = some (.int .i64 cells)); have y3 := (HY.out.cell 3 : w2.cell? ⟨w.heap.size, 3, none⟩ = some (.slice io nI ic)); have y4 := (HY.out.cell 4 : w2.cell? ⟨w.heap.size, 4, none⟩ = some (.bool res)); have y5 := (HY.out.cell 5 : w2.cell? ⟨w.heap.size, 5, none⟩ = some (.int .i64 keep)); have y6 := (HY.out.cell 6 : w2.cell? ⟨w.heap.size, 6, none⟩ = some (.slice no n nc)); have y7 := (HY.out.cell 7 : w2.cell? ⟨w.heap.size, 7, none⟩ = some (.int .i64 entry)))
      | (go_at_call 43; refine (HNW.out w2).mono ?_; rintro e w3 ⟨rfl, hs3, hb3, hz3⟩; have HY3 := Lib.hid (HY.out.below hb3 HY.out.lt))
      | (go_at_call 20; refine (HAT.out w2 HB2.out).mono ?_; rintro e w3 ⟨Ra, wa, rfl, hs3, hl3, hb3, hlt3⟩; have HY3 := Lib.hid (HY.out.below hb3 HY.out.lt)))
    all_goals
      go_wp2_with fail
      go_meet
      first
        | exact ⟨_, _, _, rfl, rfl, Lib.hid (AfI.A HB1.out.drew HZ1.out hs2 hb2 hs3 hb3 (Nat.le_succ _)), Lib.hid hl2, HY3⟩
        | exact ⟨_, _, _, rfl, rfl, Lib.hid (AfI.B HB1.out.drew HZ1.out hs2 hb2 (Nat.le_succ _) hs3 hb3 (Nat.le_of_lt hlt3)), Lib.hid hl3, HY3⟩
  case rest =>
    obtain ⟨Ra, Rb, wa, rfl, rfl, HA0, HLV, HY⟩ := hcut
    have g6 : wc.cell? ⟨w.heap.size, 6, none⟩ = some (.slice no n nc) := HY.out.cell 6
    clear HNW HAT HG1 HB1 HZ1 W1
    go_wp2
    clear g6
    go_loopw [16] (fun i wr => ∃ (k : Nat) (wb : List (List Nat)), k ≤ n ∧ i = .int .i64 k ∧ Hid (AfI w Ra Rb n q nK wa wb wr) ∧ Hid (OvI (nds rn) wb k 0)) (fun i _ => n - (intOf i).toNat)
    case atStart => exact ⟨0, _, by omega, rfl, HA0, Lib.hid (OvI.start _ _ _)⟩
    case round =>
      clear HA0 HY
      obtain ⟨k, wb, hk, rfl, HA, HO⟩ := hrel
      by_cases hlt : k < n
      · obtain ⟨bn, on, i, hno, hbn, HXI, HRN1, HWI, u0, u1, u2, u3, u4, u5, u6, u7, u8, u9, u10, u11⟩ := (HRN.out.below (HA.out.below.mono hB)).nd hlt
        have HXN : Hid ((nds rn)[k]? = some i.nd) := Lib.hid (by unfold nds; rw [List.getElem?_map, HXI.out]; rfl)
        have hwz := HA.out.below.size
        have hbnr : bn < wr.heap.size := by omega
        have hb6 : Below wr.heap.size wr (wr.alloc (.cells #[.int .u8 i.nd.op, .int .u8 i.nd.bop, .int .i64 i.nd.d, .int .i64 i.nd.e, .int .i64 i.nd.a, .int .i64 i.nd.b, .int .i64 i.nd.f, .int .i64 i.nd.cell, .int .u64 i.nd.imm, .slice i.ao i.nd.args.length i.ac, .int .i64 i.nd.next, .int .i64 i.nd.els] 64)) := (Below.refl _ _).alloc (Nat.le_refl _) _
        have HNX := Lib.hid (gnext_own i.nd.op i.nd.bop i.nd.d i.nd.e i.nd.a i.nd.b i.nd.f i.nd.cell i.nd.imm i.nd.args i.nd.next i.nd.els i.ao i.nd.args.length i.ac (wr.alloc (.cells #[.int .u8 i.nd.op, .int .u8 i.nd.bop, .int .i64 i.nd.d, .int .i64 i.nd.e, .int .i64 i.nd.a, .int .i64 i.nd.b, .int .i64 i.nd.f, .int .i64 i.nd.cell, .int .u64 i.nd.imm, .slice i.ao i.nd.args.length i.ac, .int .i64 i.nd.next, .int .i64 i.nd.els] 64)) HWI.out.o0 HWI.out.o1)
        have HB6 := Lib.hid hb6
        rw [hno]
        have HNO := Lib.hid hno
        clear hno hb6
        obtain ⟨xs, hxs⟩ : ∃ xs, xs = nextsOf ⟨i.nd.op, i.nd.bop, i.nd.d, i.nd.e, i.nd.a, i.nd.b, i.nd.f, i.nd.cell, i.nd.imm, i.nd.args, i.nd.next, i.nd.els⟩ := ⟨_, rfl⟩
        rw [← hxs] at HNX
        have HXS : Hid (xs = nextsOf i.nd) := Lib.hid hxs
        have HXI2 : Hid (∀ x ∈ xs, 0 ≤ x ∧ x < (n : Int)) := Lib.hid (by
          rw [HXS.out, ← HLN.out]
          exact nextIn_at HV.out HXN.out)
        have hm2 : xs.length ≤ 2 := by rw [HXS.out]; exact nexts_len _
        clear hxs
        go_wp2_with (go_at_call 44; refine HNX.out.mono ?_; rintro e w5 ⟨A5, c5, rfl, ho5, hc5, hb5⟩; have HO5 := Lib.hid ho5; have HA5 := Lib.hid (HA.out.on (HB6.out.trans (hb5.mono HB6.out.size))); clear ho5 hb5)
        clear u0 u1 u2 u3 u4 u5 u6 u7 u8 u9 u10 u11 hbnr
        obtain ⟨m, hm⟩ : ∃ m, m = xs.length := ⟨_, rfl⟩
        rw [← hm] at HO5 hm2 hc5 ⊢
        have HM := Lib.hid hm
        obtain ⟨b5, hb5⟩ : ∃ b, b = (wr.alloc (.cells #[.int .u8 i.nd.op, .int .u8 i.nd.bop, .int .i64 i.nd.d, .int .i64 i.nd.e, .int .i64 i.nd.a, .int .i64 i.nd.b, .int .i64 i.nd.f, .int .i64 i.nd.cell, .int .u64 i.nd.imm, .slice i.ao i.nd.args.length i.ac, .int .i64 i.nd.next, .int .i64 i.nd.els] 64)).heap.size := ⟨_, rfl⟩
        rw [← hb5] at HO5
        clear hm hb5 HA HNX HB6 HRN1
        go_loopw [24] (fun i wr => ∃ (j : Nat) (wb : List (List Nat)), j ≤ m ∧ i = .int .i64 j ∧ Hid (AfI w Ra Rb n q nK wa wb wr) ∧ Hid (OvI (nds rn) wb k j) ∧ Hid (wr.ownsRow b5 3 1 (.slice A5 m c5) m (i64c xs))) (fun i _ => m - (intOf i).toNat)
        case atStart => exact ⟨0, wb, by omega, rfl, HA5, HO, HO5⟩
        case round =>
          clear HA5 HO HO5
          obtain ⟨j, wb, hj, rfl, HA, HO, HR⟩ := hrel
          by_cases hjl : j < m
          · obtain ⟨bx, ox, x, hxe, hbx, HXX, x1⟩ := (Reads.of_own HR.out).int hjl
            obtain ⟨hx0, hx1⟩ := HXI2.out x (List.mem_of_getElem? HXX.out)
            obtain ⟨y, rfl⟩ : ∃ y : Nat, x = (y : Int) := ⟨x.toNat, by omega⟩
            have hy : y < n := by omega
            have ra : wr.cell? ⟨Ra, y, none⟩ = some (.pointer (some ⟨Ra + 2 + 2 * y, 0, none⟩)) := by rw [HA.out.sa.row.cell, rowA_at _ hy]
            have rb : wr.cell? ⟨Rb, k, none⟩ = some (.pointer (some ⟨Rb + 2 + 2 * k, 0, none⟩)) := by rw [HA.out.sb.row.cell, rowA_at _ hlt]
            have hma := getD_mem [] (show y < wa.length by rw [HA.out.sa.wf.len]; exact hy)
            have hmb := getD_mem [] (show k < wb.length by rw [HA.out.sb.wf.len]; exact hlt)
            have HL1 := Lib.hid (HA.out.sa.wf.each _ hma)
            have HL2 := Lib.hid (HA.out.sa.wf.lt _ hma)
            have HL3 : Hid (∀ j, hasW (wa.getD y []) j = true → j < nK) := Lib.hid fun j hj => HA.out.sa.wf.most y j hj
            have HOR := Lib.hid (lor_any (Rb + 2 + 2 * k) (Rb + 1 + 2 * k) (Ra + 2 + 2 * y) (Ra + 1 + 2 * y) nK q (wb.getD k []) (wa.getD y []) wr.drew (HA.out.sb.box k hlt) (HA.out.sb.words k hlt) (HA.out.sa.box y hy) (HA.out.sa.words y hy) (HA.out.sb.wf.each _ hmb) HL1.out (HA.out.sb.wf.lt _ hmb) HL2.out hK HA.out.sa.qm HL3.out (HA.out.ap y k hy hlt))
            have HST := Lib.hid (HO.out.step HA.out.sb.wf hlt HL1.out HXN.out (show (nextsOf i.nd)[j]? = some (y : Int) by rw [← HXS.out]; exact HXX.out) HLV.out)
            have HXE := Lib.hid hxe
            rw [hxe]
            clear hxe hx0 hx1 hma hmb HXX
            go_wp2
            go_still_tail 8, (by kernel_rfl)
            change wpList _ _ _ _ _ wr.drew
            go_wp2_with (go_at_call 45; refine HOR.out.mono ?_; rintro e w7 ⟨⟨bo, rfl⟩, hb7, hk7⟩; have HB7 := Lib.hid hb7; have HK7 := Lib.hid hk7; clear hb7 hk7)
            go_roundw
            case rel =>
              rw [← HXE.out]
              have hwb : Blk wr (Rb + 1 + 2 * k) 40 _ := HA.out.sb.words k hlt
              have hbe : Below w.heap.size wr w7 := (Below.refl _ _).drew.trans (HK7.out.out w.heap.size HA.out.below.size (by have := HA.out.lb; omega))
              refine ⟨j + 1, _, by omega, by go_num, Lib.hid ⟨SetsI.apart (w := wr.drew) (HA.out.sa.drewN 1) hwb HK7.out (fun i hi => HA.out.ap i k hi hlt), SetsI.or (w := wr.drew) (HA.out.sb.drewN 1) hlt HB7.out HK7.out HL1.out HL2.out HL3.out, HA.out.ap, HA.out.below.trans hbe, HA.out.lb⟩, HST, Lib.hid (own_kept (w := wr.drew) HR.out fun g hg => HK7.out.block g (own_block_le HR.out hg).2 fun e => own_blk_ne HR.out hwb (by decide) (by rw [hg, e]))⟩
            case measure => simp [intOf]; omega
          · obtain rfl : m = j := by omega
            have HNXT := Lib.hid (HO.out.next HXN.out (by rw [← HXS.out, ← HM.out]; exact Nat.le_refl _))
            go_wp2
            go_roundw
            case rel => exact ⟨k + 1, wb, by omega, by go_num, HA, HNXT⟩
            case measure => simp [intOf]; omega
      · have hkn : k = n := by omega
        rw [hkn] at HO
        go_wp2
        go_ret
        exact ⟨Rb, wb, rfl, HA.out.sb, HO.out.low, HA.out.below, HA.out.lb⟩
end Go.Proofs.YtmfdaeicbaibeaaDoor

/-
  Package live: Out.
-/
namespace Go.Proofs.YtmfdaeicbaibeaaDoor
set_option linter.unusedVariables false
set_option linter.unusedSimpArgs false
open Go.ChangeShapes Go.WideShapes Go.ChangeAt Go.RowKit

set_option maxRecDepth 100000 in
set_option maxHeartbeats 3200000 in
theorem out_live (B : Nat) (fo : Option Addr) (nF cF : Nat) (rs : List RG) (f : Int) (w : World) (h : RdP w B fo nF rs) (hB : B ≤ w.heap.size) (hT : TzTab w) :
    Calls Tryd.prog 8 #[.agg #[.slice fo nF cF], .int .i64 f] w (LvPost liveOL (grs rs) f w) := by
  have HBL : Hid (Below w.heap.size w (w.alloc (.cells #[.slice fo nF cF] 24))) := (Below.refl _ _).alloc (Nat.le_refl _) _
  have HG := Lib.hid (Blk.new w 24 #[.slice fo nF cF])
  have HV := Lib.hid (lcheck_any B fo nF cF rs f (w.alloc (.cells #[.slice fo nF cF] 24)) (h.below (HBL.out.mono hB)) (by simp; omega))
  have H := Lib.hid h
  have HT := Lib.hid hT
  clear h hT
  obtain ⟨z, hz⟩ : ∃ z, z = chkL (grs rs) f := ⟨_, rfl⟩
  rw [← hz] at HV
  have HZ := Lib.hid hz
  clear hz
  by_cases h0 : z = 0
  · subst h0
    obtain ⟨hv, k, rfl, hk⟩ := chk_zero HZ.out.symm
    have hkF : k < nF := by rw [length_grs, H.out.len] at hk; exact hk
    obtain ⟨b, off, r, rfl, hb, HX, HRG, HWG, x0, x1, x2, x3, x4, x5, x6, x7⟩ := H.out.gr hkF
    have HXG : Hid ((grs rs)[k]? = some r.gr) := Lib.hid (by unfold grs; rw [List.getElem?_map, HX.out]; rfl)
    have hmem : r.gr ∈ grs rs := List.mem_of_getElem? HXG.out
    have hsz := valid_sizes hv hmem
    have hrin := valid_reads hv hmem
    have hnin := valid_next hv hmem
    rw [← HRG.out.nd] at hrin hnin
    have HSZ := Lib.hid hsz
    have HAT : Hid (∀ W, Below w.heap.size w W → Calls Tryd.prog 21 #[.agg #[.slice r.po r.gr.params.length r.pc, .slice r.ko r.gr.kinds.length r.kc, .int .i64 r.gr.cells, .slice r.io r.gr.init.length r.ic, .bool r.gr.result, .int .i64 r.gr.keep, .slice r.no r.gr.nodes.length r.nc, .int .i64 r.gr.entry]] W fun e w' =>
      ∃ R wss, e = .returned (.slice (some ⟨R, 0, none⟩) r.gr.nodes.length r.gr.nodes.length) ∧ SetsI w' R r.gr.nodes.length ((r.gr.kinds.length + 63) / 64) r.gr.kinds.length wss ∧ (∀ i, i < r.gr.nodes.length → ∀ p : Nat, hasS wss i p = true ↔ LiveO (nds r.ns) p i) ∧ Below W.heap.size W w' ∧ W.heap.size < R) := Lib.hid fun W hbw =>
        liveAfter_any B r.po r.ko r.io r.no r.gr.params.length r.pc r.gr.kinds.length r.kc r.gr.init.length r.ic r.gr.nodes.length r.nc ((r.gr.kinds.length + 63) / 64) r.gr.cells r.gr.keep r.gr.entry r.gr.result r.ns W (HRG.out.nodes.below (hbw.mono hB)) (by have := hbw.size; omega) hsz.2 hsz.1 rfl hnin hrin
    clear hsz hrin hnin hv hk
    go_enter Tryd.func8, Tryd.ntmps8
    go_wp2_with (first
      | (go_at_call 18; refine HV.out.mono ?_; rintro e w2 ⟨rfl, hb2⟩; have HB2 := Lib.hid (HBL.out.trans (hb2.mono HBL.out.size)); have g6 : w2.cell? ⟨w.heap.size, 0, none⟩ = some (.slice (some ⟨b, off, none⟩) nF cF) := (HG.out.below hb2 HG.out.lt).cell 0; have bc := HB2.out; have y0 := (bc.cell (p := ⟨b, off + k * 8, none⟩) (by show b < _; omega)).trans x0; have y1 := (bc.cell (p := ⟨b, off + k * 8 + 1, none⟩) (by show b < _; omega)).trans x1; have y2 := (bc.cell (p := ⟨b, off + k * 8 + 2, none⟩) (by show b < _; omega)).trans x2; have y3 := (bc.cell (p := ⟨b, off + k * 8 + 3, none⟩) (by show b < _; omega)).trans x3; have y4 := (bc.cell (p := ⟨b, off + k * 8 + 4, none⟩) (by show b < _; omega)).trans x4; have y5 := (bc.cell (p := ⟨b, off + k * 8 + 5, none⟩) (by show b < _; omega)).trans x5; have y6 := (bc.cell (p := ⟨b, off + k * 8 + 6, none⟩) (by show b < _; omega)).trans x6; have y7 := (bc.cell (p := ⟨b, off + k * 8 + 7, none⟩) (by show b < _; omega)).trans x7; clear hb2 bc)
      | (go_at_call 21; refine (HAT.out _ HB2.out).mono ?_; rintro e w3 ⟨R, wss, rfl, hs3, hl3, hb3, _⟩; have HS3 := Lib.hid hs3; have HL3 := Lib.hid hl3; have HB3 := Lib.hid (HB2.out.trans (hb3.mono HB2.out.size)); clear hs3 hl3 hb3)
      | (go_at_call 19; refine (lists_any R _ _ _ wss w3 HS3.out HSZ.out.2 (HT.out.below HB3.out)).mono ?_; rintro e w4 ⟨vs, rfl, hr4, hb4⟩; have HR4 := Lib.hid hr4; have HB4 := Lib.hid (HB3.out.trans (hb4.mono HB3.out.size)); clear hr4 hb4))
    go_ret2
    refine ⟨HB4.out, some ⟨w3.heap.size, 0, none⟩, r.gr.nodes.length, r.gr.nodes.length, by rw [← HZ.out]; rfl, fun h => absurd HZ.out.symm h, fun _ => ⟨w3.heap.size, vs, r.gr, HXG.out, rfl, rfl, rfl, HB3.out.size, HR4.out.row, fun i hi => ?_⟩⟩
    have e1 := liveOL_of HS3.out.wf rfl (fun p => HL3.out i hi p)
    rw [HRG.out.nd] at e1
    rw [← e1]
    exact own_more (HR4.out.own i hi) HB3.out.size
  · have g1 : (z != 0) = true := by simpa using h0
    have H0 := Lib.hid h0
    clear h0
    go_enter Tryd.func8, Tryd.ntmps8
    go_wp2_with (first
      | (go_at_call 18; refine HV.out.mono ?_; rintro e w2 ⟨rfl, hb2⟩; have HB2 := Lib.hid (HBL.out.trans (hb2.mono HBL.out.size)); clear hb2))
    go_ret2
    exact ⟨HB2.out, none, 0, 0, by rw [← HZ.out]; rfl, fun _ => ⟨rfl, rfl, rfl⟩, fun h => absurd (HZ.out.trans h) H0.out⟩
end Go.Proofs.YtmfdaeicbaibeaaDoor
