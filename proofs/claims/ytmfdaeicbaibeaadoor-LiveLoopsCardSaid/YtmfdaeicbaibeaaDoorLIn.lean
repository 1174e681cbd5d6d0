/-
  Package live: lists, check, In.
-/
import Derived.Test.YtmfdaeicbaibeaaDoorLAt
import Derived.Test.YtmfdaeicbaibeaaDoorCc
namespace Go.Proofs.YtmfdaeicbaibeaaDoor
set_option linter.unusedVariables false
set_option linter.unusedSimpArgs false
open Go.ChangeShapes Go.WideShapes Go.ChangeAt Go.RowKit

/-- a row of rows of ints -/
structure RdL (w : World) (base O n : Nat) (vs : Nat → Value) (f : Nat → List Int) : Prop where
  row : Blk w O 33 (rowA n vs)
  own : ∀ i, i < n → w.ownsRow base 3 1 (vs i) (f i).length (i64c (f i))
theorem RdL.on {w w' : World} {base O n : Nat} {vs : Nat → Value} {f : Nat → List Int} (h : RdL w base O n vs f) (hb : Below w.heap.size w w') : RdL w' base O n vs f :=
  ⟨h.row.below hb h.row.lt, fun i hi => own_kept (h.own i hi) fun g hg => hb.block g (own_block_le (h.own i hi) hg).2⟩
theorem RdL.congr {w : World} {base O n : Nat} {vs : Nat → Value} {f g : Nat → List Int} (h : RdL w base O n vs f) (he : ∀ i, i < n → f i = g i) : RdL w base O n vs g := ⟨h.row, fun i hi => by rw [← he i hi]; exact h.own i hi⟩
/-- the lists, under way -/
structure LiI (W : World) (O n k : Nat) (vs : Nat → Value) (f : Nat → List Int) (wr : World) : Prop where
  row : Blk wr O 33 (rowA n vs)
  own : ∀ i, i < k → wr.ownsRow W.heap.size 3 1 (vs i) (f i).length (i64c (f i))
  below : Below W.heap.size W wr
  le : W.heap.size ≤ O
theorem LiI.step {W wr w2 : World} {O n k : Nat} {vs : Nat → Value} {f : Nat → List Int} {v : Value} (h : LiI W O n k vs f wr) (hb : Below wr.heap.size wr w2) (ho : w2.ownsRow wr.heap.size 3 1 v (f k).length (i64c (f k))) :
    LiI W O n (k + 1) (upd vs k v) f (w2.setCell ⟨O, k, none⟩ v) := by
  have hr := h.row.below hb h.row.lt
  have hle := h.le
  refine ⟨?_, fun i hi => ?_, (h.below.trans (hb.mono h.below.size)).setCell (p := ⟨O, k, none⟩) (by show W.heap.size ≤ O; exact hle) _, hle⟩
  · have h1 := hr.set_ k v
    rw [rowA_set] at h1
    exact h1
  · by_cases e : i = k
    · subst e
      rw [upd_at]
      exact own_far (own_more ho h.below.size) hr (by decide) _ _
    · rw [upd_ne e]
      exact own_far (own_kept (h.own i (by omega)) fun g hg => hb.block g (own_block_le (h.own i (by omega)) hg).2) hr (by decide) _ _
set_option maxRecDepth 100000 in
set_option maxHeartbeats 3200000 in
theorem lists_any (R n q m : Nat) (wss : List (List Nat)) (w : World) (h : SetsI w R n q m wss) (hn : n ≤ 4096) (hT : TzTab w) :
    Calls Tryd.prog 19 #[.slice (some ⟨R, 0, none⟩) n n] w fun e w' => ∃ vs, e = .returned (.slice (some ⟨w.heap.size, 0, none⟩) n n) ∧ RdL w' w.heap.size w.heap.size n vs (fun i => listK (wss.getD i []) q) ∧ Below w.heap.size w w' := by
  have hmk : ∀ W : World, (Instr.makeSlice 26 (.int .i64 n) (.int .i64 n)).run Tryd.prog W = .ok (.slice (some ⟨W.heap.size, 0, none⟩) n n) (W.alloc (.cells (madeCells #[.slice none 0 0] n) 33)) := fun W => run_make_row' _ _ _ 24 Tryd.underlying26 info_sint rfl .i64 .i64 n (by omega) (by omega) W
  have HS := Lib.hid h
  have HT := Lib.hid hT
  have HI0 : Hid (LiI w w.heap.size n 0 (fun _ => .slice none 0 0) (fun i => listK (wss.getD i []) q) (w.alloc (.cells (madeCells #[.slice none 0 0] n) 33))) := Lib.hid ⟨by rw [rowA_made]; exact Blk.new _ _ _, fun i hi => absurd hi (by omega), (Below.refl _ _).alloc (Nat.le_refl _) _, Nat.le_refl _⟩
  clear h hT
  go_enter Tryd.func19, Tryd.ntmps19
  go_wp2
  go_loopw [11] (fun i wr => ∃ (k : Nat) (vs : Nat → Value), k ≤ n ∧ i = .int .i64 k ∧ Hid (LiI w w.heap.size n k vs (fun i => listK (wss.getD i []) q) wr)) (fun i _ => n - (intOf i).toNat)
  case atStart => exact ⟨0, _, by omega, rfl, HI0⟩
  case round =>
    clear HI0
    obtain ⟨k, vs, hk, rfl, HI⟩ := hrel
    by_cases hlt : k < n
    · have HSr := Lib.hid (HS.out.on (E := w.heap.size) HI.out.below HS.out.row.lt fun i hi => (HS.out.box i hi).lt)
      have s0 : wr.cell? ⟨R, k, none⟩ = some (.pointer (some ⟨R + 2 + 2 * k, 0, none⟩)) := by rw [HSr.out.row.cell, rowA_at _ hlt]
      have hmem := getD_mem [] (show k < wss.length by rw [HS.out.wf.len]; exact hlt)
      have HLI := Lib.hid (llist_any (R + 2 + 2 * k) (R + 1 + 2 * k) q (wss.getD k []) wr ((HSr.out.box k hlt).cell 1) (HSr.out.words k hlt) (HS.out.wf.each _ hmem) (HS.out.wf.lt _ hmem) (by have := HS.out.qm; have := HS.out.mb; omega) (HT.out.below HI.out.below))
      clear hmem
      go_wp2_with (go_at_call 39; refine HLI.out.mono ?_; rintro e w2 ⟨A2, c2, rfl, ho2, hb2⟩; have HO2 := Lib.hid ho2; have HB2 := Lib.hid hb2; have f2 : w2.frozen? ⟨w.heap.size, k, none⟩ = false := (HI.out.row.below hb2 HI.out.row.lt).frozen k; obtain ⟨y2, hy2⟩ : ∃ y, w2.cell? ⟨w.heap.size, k, none⟩ = some y := ⟨_, ((HI.out.row.below hb2 HI.out.row.lt).cell k).trans (rowA_at _ hlt)⟩; clear ho2 hb2)
      go_roundw
      case rel => exact ⟨k + 1, _, by omega, by go_num, Lib.hid (HI.out.step HB2.out HO2.out)⟩
      case measure => simp [intOf]; omega
    · have hkn : k = n := by omega
      have HFIN : Hid (RdL wr w.heap.size w.heap.size n vs (fun i => listK (wss.getD i []) q)) := Lib.hid ⟨HI.out.row, fun i hi => HI.out.own i (by omega)⟩
      go_wp2
      go_ret
      exact ⟨vs, rfl, HFIN.out, HI.out.below⟩
open Classical in
/-- the places that are live, rising -/
noncomputable def liveL (ns : List Nd) (m i : Nat) : List Int := ((List.range m).filter fun p : Nat => decide (Live ns (p : Int) i)).map fun (p : Nat) => (p : Int)
open Classical in
/-- .. behind a node -/
noncomputable def liveOL (ns : List Nd) (m i : Nat) : List Int := ((List.range m).filter fun p : Nat => decide (LiveO ns (p : Int) i)).map fun (p : Nat) => (p : Int)
open Classical in
theorem liveL_of {wss : List (List Nat)} {ns : List Nd} {n q m i : Nat} (hw : WfS wss n q m) (hq : q = (m + 63) / 64) (h : ∀ p : Nat, hasS wss i p = true ↔ Live ns p i) : listK (wss.getD i []) q = liveL ns m i := by
  rw [listK_all (m := m) (by omega) (fun j hj => hw.most i j hj)]
  unfold liveL
  congr 1
  refine List.filter_congr fun p _ => ?_
  exact Bool.eq_iff_iff.2 ((h p).trans decide_eq_true_iff.symm)
open Classical in
theorem liveOL_of {wss : List (List Nat)} {ns : List Nd} {n q m i : Nat} (hw : WfS wss n q m) (hq : q = (m + 63) / 64) (h : ∀ p : Nat, hasS wss i p = true ↔ LiveO ns p i) : listK (wss.getD i []) q = liveOL ns m i := by
  rw [listK_all (m := m) (by omega) (fun j hj => hw.most i j hj)]
  unfold liveOL
  congr 1
  refine List.filter_congr fun p _ => ?_
  exact Bool.eq_iff_iff.2 ((h p).trans decide_eq_true_iff.symm)
theorem add1_mem {l : List Int} {x y : Int} (h : y ∈ add1 l x) : y ∈ l ∨ (y = x ∧ 0 ≤ x) := by
  unfold add1 at h
  split at h
  · rename_i hx
    rcases List.mem_append.1 h with h | h
    · exact .inl h
    · exact .inr ⟨by simpa using h, hx.1⟩
  · exact .inl h
theorem addL_mem (more : List Int) : ∀ {l : List Int} {y : Int}, y ∈ addL l more → y ∈ l ∨ (y ∈ more ∧ 0 ≤ y) := by
  unfold addL
  induction more with
  | nil => intro l y h; exact .inl h
  | cons x r ih =>
    intro l y h
    rw [List.foldl_cons] at h
    rcases ih h with h | h
    · rcases add1_mem h with h | ⟨h, h2⟩
      · exact .inl h
      · exact .inr ⟨by simp [h], by rw [h]; exact h2⟩
    · exact .inr ⟨by simp [h.1], h.2⟩
theorem reads_in {gs : List Gr} {g : Gr} {n : Nd} (h : uses gs g false n) : ∀ x ∈ readsOf n, 0 ≤ x ∧ x < (g.kinds.length : Int) := by
  intro x hx
  have hx' : x ∈ readF n ∧ 0 ≤ x := by
    rcases addL_mem _ hx with h1 | h1
    · cases h1
    · exact h1
  obtain ⟨h1, h0⟩ := hx'
  refine ⟨h0, ?_⟩
  have key : ∀ k, fits g.kinds false x k → x < (g.kinds.length : Int) := fun k hf => hf.1.2
  unfold readF at h1
  unfold uses at h
  split at h1
  · rename_i ho
    obtain rfl : x = n.a := by simpa using h1
    rcases ho with e | e | e | e | e | e | e | e
    · rw [e] at h; simp at h; exact h.1.2
    · rw [e] at h; simp at h; exact key _ h.2
    · rw [e] at h; simp at h; exact key _ h.2
    · rw [e] at h; simp at h; exact key _ h
    · rw [e] at h
      simp at h
      split at h
      · exact key _ h
      · omega
    · rw [e] at h; simp at h; exact key _ h
    · rw [e] at h; simp at h; exact key _ h
    · rw [e] at h; simp at h; exact key _ h
  · split at h1
    · rename_i ho
      rcases ho with e | e
      · rw [e] at h
        simp at h h1
        rcases h1 with rfl | rfl
        · exact key _ h.2.2.1
        · exact key _ h.2.2.2
      · rw [e] at h
        simp at h h1
        rcases h1 with rfl | rfl
        · exact key _ h.1
        · exact key _ h.2
    · split at h1
      · rename_i ho
        have hh : hands gs g false n.f n.args := by
          rcases ho with e | e
          · rw [e] at h; simp at h; exact h.1
          · rw [e] at h; simp at h; exact h
        have h3 := hh.2.2
        rw [if_neg (by decide)] at h3
        obtain ⟨i, hi, rfl⟩ := List.mem_iff_getElem.1 h1
        have h4 := h3 i hi
        rw [List.getD_eq_getElem?_getD, List.getElem?_eq_getElem hi] at h4
        exact h4.1.2
      · cases h1
theorem valid_reads {gs : List Gr} {g : Gr} (h : valid gs false) (hg : g ∈ gs) : ReadIn g.nodes g.kinds.length := fun n hn => reads_in (h.2.2.2 g hg n hn).1
theorem valid_next {gs : List Gr} {g : Gr} (h : valid gs false) (hg : g ∈ gs) : NextIn g.nodes := fun n hn x hx => (h.2.2.2 g hg n hn).2 x hx
theorem valid_sizes {gs : List Gr} {g : Gr} (h : valid gs false) (hg : g ∈ gs) : g.kinds.length ≤ 1024 ∧ g.nodes.length ≤ 4096 := by
  have hh := h.2.2.1 g hg
  exact ⟨hh.1.1, hh.2.2.2.2.2.2.1⟩
end Go.Proofs.YtmfdaeicbaibeaaDoor
