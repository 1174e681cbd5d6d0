/-
  Texts of one seat, one behind the other: SPass, SLink, SFin, SFin2, SSet, SOps, SExe, SFar, SExe2, SExe3, SExe4, SExe5.
-/
import Derived.Test.YtdoabcmfblmklaaMA3
import Derived.Test.YtdoabcmfblmklaaMA2

/-
  Package sem: what follows where the active panic has removed a frame.
-/
namespace Go.Proofs.Ytdoabcmfblmklaa
set_option linter.unusedVariables false
set_option linter.unusedSimpArgs false
open Go.ChangeShapes Go.WideShapes Go.ChangeAt Go.RowKit

section
variable {w0 W W' w8 W1 : World} {ow ow' : Nat → Nat} {ex : Nat → Prop} {base rb tg fa fo n c k : Nat} {rs : List Raw} {st st' : Mc} {g g' : RG} {t : Fr} {bl : List Fr} {gl : List (Nat × Nat)} {pbs : List Nat} {fb b b0 b1 fz kf y : Nat}
theorem OR.putV {base r q m c : Nat} {e : TypeId} {xs : List Value} (h : OR W ow base r e 1 (.slice (some ⟨q, 0, none⟩) m c) m xs) (k : Nat) (u : Value) :
    OR (W.setCell ⟨q, k, none⟩ u) ow base r e 1 (.slice (some ⟨q, 0, none⟩) m c) m (xs.set k u) ∧ Kr (e1 r) ow ow W (W.setCell ⟨q, k, none⟩ u) := by
  have hq : ow q = r := h.role q rfl
  refine ⟨⟨⟨by rw [List.length_set]; exact h.own.1, ?_⟩, h.role⟩, ?_⟩
  · rcases h.own.2 with ⟨he, _⟩ | ⟨q', cap, cur, he, hb, hh, hnc, hcm, hcs, hxs⟩
    · cases he
    · injection he with h1 h2 h3
      injection h1 with h1
      injection h1 with h1
      subst h1 h3
      refine .inr ⟨q, c, cur.setIfInBounds k u, rfl, hb, (show Blk W q e cur from hh).set_ k _, hnc, hcm, by simpa using hcs, ?_⟩
      rw [Array.toList_setIfInBounds, List.take_set, hxs]
  · exact ⟨rfl, rfl, rfl, by simp [World.setCell], fun j hj hn => Below.heap_setCell W ⟨q, k, none⟩ _ j (by rintro rfl; exact hn hq), fun _ _ => rfl⟩
/-- the last panic but one is taken from the run's row -/
theorem RunX.delPans {p p2 : Int × Bool} {ps : List (Int × Bool)} (h : RunX w0 rb tg fa fo n c rs st gl (b0 :: b1 :: pbs) W) (hp : st.panics = p :: p2 :: ps) (hd : st.doing ≠ 3) :
    ∃ q cq, W.cell? ⟨rb, 4, none⟩ = some (.slice (some ⟨q, 0, none⟩) (ps.length + 2) cq) ∧ ps.length + 2 ≤ cq ∧ cq ≤ 9223372036854775807 ∧ q < W.heap.size ∧ W.cell? ⟨q, ps.length, none⟩ = some (ptrV b1) ∧ W.cell? ⟨q, ps.length + 1, none⟩ = some (ptrV b0) ∧ W.frozen? ⟨q, ps.length, none⟩ = false ∧ W.frozen? ⟨q, ps.length + 1, none⟩ = false ∧ q ≠ rb ∧
      RunX w0 rb tg fa fo n c rs { st with panics := p :: ps } gl (b0 :: pbs) (((W.setCell ⟨q, ps.length, none⟩ (ptrV b0)).setCell ⟨q, ps.length + 1, none⟩ (.pointer none)).setCell ⟨rb, 4, none⟩ (.slice (some ⟨q, 0, none⟩) (ps.length + 1) cq)) := by
  obtain ⟨g, ow, hR, hg, hpb⟩ := h
  have h4 := hR.pan
  have hps := hR.pans
  have hnd := hR.nodup
  rw [hp, hpb] at h4 hps
  rw [hpb] at hnd
  obtain ⟨q, cq, hq⟩ := h4.form (by simp)
  rw [hq] at h4
  have hl : (pbs.map ptrV).reverse.length = ps.length := by rw [List.length_reverse, List.length_map]; exact hps.2.2.len
  have hxs : ((b0 :: b1 :: pbs).map ptrV).reverse = (pbs.map ptrV).reverse ++ [ptrV b1, ptrV b0] := by simp
  rw [hxs] at h4
  obtain ⟨R, hRR⟩ : ∃ R, R = (pbs.map ptrV).reverse := ⟨_, rfl⟩
  rw [← hRR] at h4 hl
  simp only [List.length_cons] at h4
  obtain ⟨x1, x2, x3, _, x5, _⟩ := h4.cell_ (k := ps.length) (u := ptrV b1) (by rw [List.getElem?_append_right (by omega)]; simp [hl])
  obtain ⟨_, y2, y3, _, _, _⟩ := h4.cell_ (k := ps.length + 1) (u := ptrV b0) (by rw [List.getElem?_append_right (by omega)]; simp [hl])
  obtain ⟨p1, k1⟩ := h4.putV ps.length (ptrV b0)
  obtain ⟨p2', k2⟩ := p1.putV (ps.length + 1) (.pointer none)
  have k12 := k1.trans k2
  have hB := hR.run.kr k12 (ne1 (by omega))
  have hset : ((R ++ [ptrV b1, ptrV b0]).set ps.length (ptrV b0)).set (ps.length + 1) (.pointer none) = R ++ [ptrV b0, .pointer none] := by
    rw [← hl, List.set_append_right _ _ (by omega), List.set_append_right _ _ (by omega)]; simp
  rw [hset] at p2'
  obtain ⟨hB8, hO8, hkr⟩ := cut_set (k := ps.length + 1) hB p2' (by omega) (by omega) 4
  have htk : (R ++ [ptrV b0, .pointer none]).take ((ps.length + 1) * 1) = ((b0 :: pbs).map ptrV).reverse := by
    rw [Nat.mul_one, ← hl, show R ++ [ptrV b0, .pointer none] = (R ++ [ptrV b0]) ++ [.pointer none] by simp, List.take_append_of_le_length (by simp), List.take_of_length_le (by simp), hRR]
    simp
  rw [htk] at hO8
  have hcq : cq ≤ 9223372036854775807 := by
    rcases h4.own.2 with ⟨he, _⟩ | ⟨q', cap, cur, he, _, _, _, hcm, _⟩
    · cases he
    · injection he with h1 h2 h3
      subst h3
      exact hcm
  have kk := (k12.wider (ex' := e2 6 0) fun x h => .inl h).trans (hkr.wider (ex' := e2 6 0) fun x h => .inr h)
  refine ⟨q, cq, ?_, x5, hcq, x1, x2, y2, x3, y3, ?_, ?_⟩
  · rw [hR.run.blk.cell]
    show some g.pv = _
    rw [hq]; rfl
  · intro he
    have h1 := h4.role q rfl
    have h2 := hR.run.role
    rw [he, h2] at h1
    omega
  · have hnd' : (b0 :: pbs).Nodup := by
      have h1 := List.nodup_cons.1 hnd
      exact List.nodup_cons.2 ⟨fun h => h1.1 (List.mem_cons_of_mem _ h), (List.nodup_cons.1 h1.2).2⟩
    have hpn := hps.1.kr kk (ne2 (by omega) (by omega))
    have hlow := hR.low (st' := { st with panics := p :: ps }) (g' := { g with pv := .slice (some ⟨q, 0, none⟩) (ps.length + 1) cq, pbs := b0 :: pbs }) kk (fun y hy => by rcases hy with h | h <;> omega) (by exact hB8) (hR.frs.kr kk (ne2 (by omega) (by omega))) (hR.frames.kr kk (ne2 (by omega) (by omega)) fun j hj => ⟨ne2 (by omega) (by omega), ne2 (by omega) (by omega), ne2 (by omega) (by omega)⟩) (hR.mem.kr kk (ne2 (by omega) (by omega))) hO8 ⟨hpn, hps.2.2.kr kk (ne2 (by omega) (by omega))⟩ hnd' rfl rfl hd hd rfl rfl rfl
    exact ⟨_, ow, hlow, hg, rfl⟩
theorem RunX.frsCell (h : RunX w0 rb tg fa fo n c rs st gl pbs W) : ∃ A cq, W.cell? ⟨rb, 2, none⟩ = some (.slice A st.frames.length cq) := by
  obtain ⟨g, ow, hR, hg, hpb⟩ := h
  obtain ⟨A, cq, hq⟩ := hR.frs.slice
  refine ⟨A, cq, ?_⟩
  rw [hR.run.blk.cell]
  show some g.fv = _
  rw [hq]
theorem ta_not (hy : y ≠ 3) (fb : Nat) (W : World) : (Instr.typeAssert (.iface (frP y) (.pointer (some ⟨fb, 0, none⟩))) 89 133 true).run Try.prog W = .ok (.tuple #[.pointer none, .bool false]) W ∨ 3 < y := by
  by_cases h3 : 3 < y
  · exact .inr h3
  refine .inl ?_
  unfold frP
  split
  · exact ta_first fb W
  split
  · exact ta_called fb W
  split
  · exact ta_deferred fb W
  · omega
set_option maxRecDepth 100000 in
set_option maxHeartbeats 1600000 in
theorem passed_plain_go (h : RunX w0 rb tg fa fo n c rs st gl pbs W) (hf : st.frames = t :: bl) (hs : bl.length ≤ 1048577) (hy : y < 3) :
    Calls Try.prog 52 #[.pointer (some ⟨rb, 0, none⟩), .iface (frP y) (.pointer (some ⟨fz, 0, none⟩))] W fun e w' => e = .returned (.tuple #[]) ∧ RunX w0 rb tg fa fo n c rs st gl pbs w' := by
  have ta := fun W => (ta_not (y := y) (by omega) fz W).resolve_right (by omega)
  obtain ⟨P, hP⟩ : ∃ P, P = frP y := ⟨_, rfl⟩
  rw [← hP] at ta ⊢
  obtain ⟨A, cq, x2⟩ := h.frsCell
  have hrz := h.cells.1
  obtain ⟨m, hm⟩ : ∃ m, m = bl.length := ⟨_, rfl⟩
  rw [hf, List.length_cons, ← hm] at x2
  rw [← hm] at hs
  have e0 : (((m : Int) + 1) == 0) = false := by simp; omega
  have HF := Lib.hid h
  clear h hf hP hy hm
  go_enter Try.func52, Try.ntmps52
  go_wp2
  go_end0
  exact ⟨rfl, HF.out⟩
set_option maxRecDepth 100000 in
set_option maxHeartbeats 1600000 in
theorem passed_plain_end (v : Int) (rc : Bool) (ps : List (Int × Bool)) (h : RunX w0 rb tg fa fo n c rs st gl (b :: pbs) W) (hf : st.frames = []) (hp : st.panics = (v, rc) :: ps) (hd : st.doing ≠ 3) (hl : ps.length ≤ 1048577) (hs : st.evs.length ≤ 1048577) (hy : y < 3) :
    Calls Try.prog 52 #[.pointer (some ⟨rb, 0, none⟩), .iface (frP y) (.pointer (some ⟨fz, 0, none⟩))] W fun e w' => e = .returned (.tuple #[]) ∧ RunX w0 rb tg fa fo n c rs (st.over 2 v) gl (b :: pbs) w' := by
  have ta := fun W => (ta_not (y := y) (by omega) fz W).resolve_right (by omega)
  obtain ⟨P, hP⟩ : ∃ P, P = frP y := ⟨_, rfl⟩
  rw [← hP] at ta ⊢
  obtain ⟨A, cq, x2⟩ := h.frsCell
  have hrz := h.cells.1
  rw [hf, List.length_nil] at x2
  have HAC : Hid (∀ W', Below W.heap.size W W' → Calls Try.prog 66 #[.pointer (some ⟨rb, 0, none⟩)] W' fun e w' => e = .returned (.pointer (some ⟨b, 0, none⟩)) ∧ b < w'.heap.size ∧ w'.cell? ⟨b, 0, none⟩ = some (.int .u64 v) ∧ RunX w0 rb tg fa fo n c rs st gl (b :: pbs) w') := Lib.hid fun W' hb => (active_any (h.on hb) hp hl).mono fun e w' hw => by
    have h2 := (h.on hb).on hw.2
    obtain ⟨_, _, _, _, _, _, g1, _, g2, _⟩ := h2.actv hp
    exact ⟨hw.1, g1, g2, h2⟩
  have HE : Hid (∀ W', RunX w0 rb tg fa fo n c rs st gl (b :: pbs) W' → Calls Try.prog 17 #[.pointer (some ⟨rb, 0, none⟩), .int .i64 2, .int .u64 v] W' fun e w' => e = .returned (.tuple #[]) ∧ RunX w0 rb tg fa fo n c rs (st.over 2 v) gl (b :: pbs) w') := Lib.hid fun W' h' => end_any 2 v h' hd hs
  clear h hf hP hy hp hd hl hs
  go_enter Try.func52, Try.ntmps52
  go_wp2_with (first
    | (go_at_call 66; refine (HAC.out _ (by first | exact Below.refl _ _ | exact (Below.refl _ _).drew)).mono ?_; rintro e w2 ⟨rfl, a1, a2, h2⟩; have H2 := Lib.hid h2; clear h2)
    | (go_at_call 17; refine (HE.out _ H2.out).mono ?_; rintro e w3 ⟨rfl, h3⟩; have H3 := Lib.hid h3; clear h3))
  go_end0
  exact ⟨rfl, H3.out⟩
set_option maxRecDepth 100000 in
set_option maxHeartbeats 1600000 in
theorem passed_panic_go {p p2 : Int × Bool} {ps : List (Int × Bool)} (h : RunX w0 rb tg fa fo n c rs st gl (b :: b1 :: pbs) W) (hf : st.frames = t :: bl) (hp : st.panics = p :: p2 :: ps) (hd : st.doing ≠ 3) (hl : ps.length ≤ 1048577) (hs : bl.length ≤ 1048577) :
    Calls Try.prog 52 #[.pointer (some ⟨rb, 0, none⟩), .iface 133 (.pointer (some ⟨fz, 0, none⟩))] W fun e w' => e = .returned (.tuple #[]) ∧ RunX w0 rb tg fa fo n c rs { st with panics := p :: ps } gl (b :: pbs) w' := by
  have ta := ta_panic fz
  have hrz := h.cells.1
  obtain ⟨q, cq, x4, hcq, hcm, hqz, _, _, _, _, hqr, _⟩ := h.delPans hp hd
  obtain ⟨k, hk⟩ : ∃ k, k = ps.length := ⟨_, rfl⟩
  obtain ⟨j, hj⟩ : ∃ j, j = k + 1 := ⟨_, rfl⟩
  obtain ⟨nn, hn⟩ : ∃ nn, nn = k + 2 := ⟨_, rfl⟩
  have x4' : W.cell? ⟨rb, 4, none⟩ = some (.slice (some ⟨q, 0, none⟩) nn cq) := by rw [hn, hk]; exact x4
  have f4 : ∀ (W' : World), RunX w0 rb tg fa fo n c rs st gl (b :: b1 :: pbs) W' → W'.frozen? ⟨rb, 4, none⟩ = false := fun W' h' => by
    obtain ⟨_, _, _, _, _, _, _, ff⟩ := h'.cells
    exact ff 4
  have HDL : Hid (∀ W', Below W.heap.size W W' → Calls Try.prog 67 #[.slice (some ⟨q, 0, none⟩) nn cq, .int .i64 k, .int .i64 j] W' fun e w' => e = .returned (.slice (some ⟨q, 0, none⟩) j cq) ∧ w'.cell? ⟨rb, 4, none⟩ = some (.slice (some ⟨q, 0, none⟩) nn cq) ∧ w'.frozen? ⟨rb, 4, none⟩ = false ∧ rb < w'.heap.size ∧ RunX w0 rb tg fa fo n c rs { st with panics := p :: ps } gl (b :: pbs) (w'.setCell ⟨rb, 4, none⟩ (.slice (some ⟨q, 0, none⟩) j cq))) := Lib.hid fun W' hb => by
    have h' := h.on hb
    obtain ⟨q', cq', z4, zcq, zcm, zqz, z0, z1, zf0, zf1, zqr, hX⟩ := h'.delPans hp hd
    have e4 := (hb.cell (p := ⟨rb, 4, none⟩) hrz).trans x4
    rw [z4] at e4
    injection e4 with e4
    injection e4 with e5 _ e6
    injection e5 with e5
    injection e5 with e5
    subst e5 e6
    rw [← hk] at z0 z1 zf0 zf1 zcq hX
    have hXD : RunX w0 rb tg fa fo n c rs { st with panics := p :: ps } gl (b :: pbs) (((W'.drew.setCell ⟨q', k, none⟩ (ptrV b)).setCell ⟨q', j, none⟩ (.pointer none)).setCell ⟨rb, 4, none⟩ (.slice (some ⟨q', 0, none⟩) j cq')) := by
      rw [hj]
      exact hX.on (Below.refl _ _).drew
    refine (delete_rsd q' k j nn cq' (ptrV b) (ptrV b1) hj hn (by omega) (by omega) zcm zqz z0 (by rw [hj]; exact z1) zf0 (by rw [hj]; exact zf1) rfl).mono ?_
    rintro e w' ⟨rfl, rfl⟩
    refine ⟨rfl, ?_, ?_, ?_, hXD⟩
    · rw [World.cell?_setCell_other _ ⟨q', j, none⟩ ⟨rb, 4, none⟩ _ (by simp; try (intro h; exact absurd h (Ne.symm zqr))), World.cell?_setCell_other _ ⟨q', k, none⟩ ⟨rb, 4, none⟩ _ (by simp; try (intro h; exact absurd h (Ne.symm zqr)))]
      show W'.cell? _ = _
      rw [z4, hn, hk]
    · have := f4 W' h'
      simpa using this
    · have := h'.cells.1
      simp [World.setCell]
      exact this
  have hn1 : (nn : Int) - 1 = (j : Int) := by omega
  have hj1 : (j : Int) - 1 = (k : Int) := by omega
  have hnl : nn ≤ 1048579 := by omega
  have hjl : j ≤ 1048578 := by omega
  obtain ⟨m, hm⟩ : ∃ m, m = bl.length := ⟨_, rfl⟩
  have HX2 : Hid (∀ W', RunX w0 rb tg fa fo n c rs { st with panics := p :: ps } gl (b :: pbs) W' → ∃ A cq, W'.cell? ⟨rb, 2, none⟩ = some (.slice A (m + 1) cq) ∧ rb < W'.heap.size) := Lib.hid fun W' h' => by
    obtain ⟨A, cq, x2⟩ := h'.frsCell
    refine ⟨A, cq, ?_, h'.cells.1⟩
    rw [show ({ st with panics := p :: ps } : Mc).frames.length = m + 1 by show st.frames.length = _; rw [hf, hm]; rfl] at x2
    exact x2
  rw [← hm] at hs
  have e0 : (((m : Int) + 1) == 0) = false := by simp; omega
  clear h hf hp hd hm f4 x4 hk hj hn
  go_enter Try.func52, Try.ntmps52
  go_wp2_with (go_at_call 67; refine (HDL.out _ (by first | exact Below.refl _ _ | exact (Below.refl _ _).drew)).mono ?_; rintro e w2 ⟨rfl, z4, g4, hz2, h2⟩; have H2 := Lib.hid h2; obtain ⟨A2, cq2, y2, _⟩ := HX2.out _ h2; clear h2)
  go_end0
  exact ⟨rfl, H2.out⟩
set_option maxRecDepth 100000 in
set_option maxHeartbeats 1600000 in
theorem passed_panic_end {p p2 : Int × Bool} {ps : List (Int × Bool)} (h : RunX w0 rb tg fa fo n c rs st gl (b :: b1 :: pbs) W) (hf : st.frames = []) (hp : st.panics = p :: p2 :: ps) (hd : st.doing ≠ 3) (hl : ps.length ≤ 1048577) (hs : st.evs.length ≤ 1048577) :
    Calls Try.prog 52 #[.pointer (some ⟨rb, 0, none⟩), .iface 133 (.pointer (some ⟨fz, 0, none⟩))] W fun e w' => e = .returned (.tuple #[]) ∧ RunX w0 rb tg fa fo n c rs ({ st with panics := p :: ps }.over 2 p.1) gl (b :: pbs) w' := by
  have ta := ta_panic fz
  have hrz := h.cells.1
  obtain ⟨q, cq, x4, hcq, hcm, hqz, _, _, _, _, hqr, _⟩ := h.delPans hp hd
  obtain ⟨k, hk⟩ : ∃ k, k = ps.length := ⟨_, rfl⟩
  obtain ⟨j, hj⟩ : ∃ j, j = k + 1 := ⟨_, rfl⟩
  obtain ⟨nn, hn⟩ : ∃ nn, nn = k + 2 := ⟨_, rfl⟩
  have x4' : W.cell? ⟨rb, 4, none⟩ = some (.slice (some ⟨q, 0, none⟩) nn cq) := by rw [hn, hk]; exact x4
  have f4 : ∀ (W' : World), RunX w0 rb tg fa fo n c rs st gl (b :: b1 :: pbs) W' → W'.frozen? ⟨rb, 4, none⟩ = false := fun W' h' => by
    obtain ⟨_, _, _, _, _, _, _, ff⟩ := h'.cells
    exact ff 4
  have HDL : Hid (∀ W', Below W.heap.size W W' → Calls Try.prog 67 #[.slice (some ⟨q, 0, none⟩) nn cq, .int .i64 k, .int .i64 j] W' fun e w' => e = .returned (.slice (some ⟨q, 0, none⟩) j cq) ∧ w'.cell? ⟨rb, 4, none⟩ = some (.slice (some ⟨q, 0, none⟩) nn cq) ∧ w'.frozen? ⟨rb, 4, none⟩ = false ∧ rb < w'.heap.size ∧ RunX w0 rb tg fa fo n c rs { st with panics := p :: ps } gl (b :: pbs) (w'.setCell ⟨rb, 4, none⟩ (.slice (some ⟨q, 0, none⟩) j cq))) := Lib.hid fun W' hb => by
    have h' := h.on hb
    obtain ⟨q', cq', z4, zcq, zcm, zqz, z0, z1, zf0, zf1, zqr, hX⟩ := h'.delPans hp hd
    have e4 := (hb.cell (p := ⟨rb, 4, none⟩) hrz).trans x4
    rw [z4] at e4
    injection e4 with e4
    injection e4 with e5 _ e6
    injection e5 with e5
    injection e5 with e5
    subst e5 e6
    rw [← hk] at z0 z1 zf0 zf1 zcq hX
    have hXD : RunX w0 rb tg fa fo n c rs { st with panics := p :: ps } gl (b :: pbs) (((W'.drew.setCell ⟨q', k, none⟩ (ptrV b)).setCell ⟨q', j, none⟩ (.pointer none)).setCell ⟨rb, 4, none⟩ (.slice (some ⟨q', 0, none⟩) j cq')) := by
      rw [hj]
      exact hX.on (Below.refl _ _).drew
    refine (delete_rsd q' k j nn cq' (ptrV b) (ptrV b1) hj hn (by omega) (by omega) zcm zqz z0 (by rw [hj]; exact z1) zf0 (by rw [hj]; exact zf1) rfl).mono ?_
    rintro e w' ⟨rfl, rfl⟩
    refine ⟨rfl, ?_, ?_, ?_, hXD⟩
    · rw [World.cell?_setCell_other _ ⟨q', j, none⟩ ⟨rb, 4, none⟩ _ (by simp; try (intro h; exact absurd h (Ne.symm zqr))), World.cell?_setCell_other _ ⟨q', k, none⟩ ⟨rb, 4, none⟩ _ (by simp; try (intro h; exact absurd h (Ne.symm zqr)))]
      show W'.cell? _ = _
      rw [z4, hn, hk]
    · have := f4 W' h'
      simpa using this
    · have := h'.cells.1
      simp [World.setCell]
      exact this
  have hn1 : (nn : Int) - 1 = (j : Int) := by omega
  have hj1 : (j : Int) - 1 = (k : Int) := by omega
  have hnl : nn ≤ 1048579 := by omega
  have hjl : j ≤ 1048578 := by omega
  have HX2 : Hid (∀ W', RunX w0 rb tg fa fo n c rs { st with panics := p :: ps } gl (b :: pbs) W' → ∃ A cq, W'.cell? ⟨rb, 2, none⟩ = some (.slice A 0 cq) ∧ rb < W'.heap.size) := Lib.hid fun W' h' => by
    obtain ⟨A, cq, x2⟩ := h'.frsCell
    refine ⟨A, cq, ?_, h'.cells.1⟩
    rw [show ({ st with panics := p :: ps } : Mc).frames.length = 0 by show st.frames.length = _; rw [hf]; rfl] at x2
    exact x2
  obtain ⟨v, hv⟩ : ∃ v, v = p.1 := ⟨_, rfl⟩
  have HAC : Hid (∀ W', RunX w0 rb tg fa fo n c rs { st with panics := p :: ps } gl (b :: pbs) W' → Calls Try.prog 66 #[.pointer (some ⟨rb, 0, none⟩)] W' fun e w' => e = .returned (.pointer (some ⟨b, 0, none⟩)) ∧ b < w'.heap.size ∧ w'.cell? ⟨b, 0, none⟩ = some (.int .u64 v) ∧ RunX w0 rb tg fa fo n c rs { st with panics := p :: ps } gl (b :: pbs) w') := Lib.hid fun W' h' => (active_any h' rfl hl).mono fun e w' hw => by
    have h2 := h'.on hw.2
    obtain ⟨_, _, _, _, _, _, g1, _, g2, _⟩ := h2.actv rfl
    rw [← hv] at g2
    exact ⟨hw.1, g1, g2, h2⟩
  have HE : Hid (∀ W', RunX w0 rb tg fa fo n c rs { st with panics := p :: ps } gl (b :: pbs) W' → Calls Try.prog 17 #[.pointer (some ⟨rb, 0, none⟩), .int .i64 2, .int .u64 v] W' fun e w' => e = .returned (.tuple #[]) ∧ RunX w0 rb tg fa fo n c rs ({ st with panics := p :: ps }.over 2 v) gl (b :: pbs) w') := Lib.hid fun W' h' => end_any 2 v h' hd hs
  rw [← hv]
  clear h hf hp hd f4 x4 hk hj hn hv
  go_enter Try.func52, Try.ntmps52
  go_wp2_with (first
    | (go_at_call 67; refine (HDL.out _ (by first | exact Below.refl _ _ | exact (Below.refl _ _).drew)).mono ?_; rintro e w2 ⟨rfl, z4, g4, hz2, h2⟩; have H2 := Lib.hid h2; obtain ⟨A2, cq2, y2, _⟩ := HX2.out _ h2; clear h2)
    | (go_at_call 66; refine (HAC.out _ (by first | exact H2.out | exact H2.out.on (Below.refl _ _).drew)).mono ?_; rintro e w3 ⟨rfl, a1, a2, h3⟩; have H3 := Lib.hid h3; clear h3)
    | (go_at_call 17; refine (HE.out _ H3.out).mono ?_; rintro e w4 ⟨rfl, h4⟩; have H4 := Lib.hid h4; clear h4))
  go_end0
  exact ⟨rfl, H4.out⟩
end
end Go.Proofs.Ytdoabcmfblmklaa

/-
  Package sem: which panic called which frame; what a round of settle asks of a run's sizes.
-/
namespace Go.Proofs.Ytdoabcmfblmklaa
set_option linter.unusedVariables false
set_option linter.unusedSimpArgs false
open Go.ChangeShapes Go.WideShapes Go.ChangeAt Go.RowKit

/-- the blocks of the panics that called frames, the last frame's first -/
def bysOf : List Fr → List (Nat × Nat) → List Nat
  | t :: bl, (_, b) :: gl => if t.why = 3 then b :: bysOf bl gl else bysOf bl gl
  | _, _ => []
/-- each panic but the active one waits for the frame that it called -/
structure SLink (st : Mc) (gl : List (Nat × Nat)) (pbs : List Nat) : Prop where
  two : st.doing = 2 → ∃ b, pbs = b :: bysOf st.frames gl
  one : st.doing = 0 ∨ st.doing = 1 → pbs = bysOf st.frames gl
/-- a run's sizes -/
structure Rnd (rs : List Raw) (st : Mc) : Prop where
  frames : st.frames.length ≤ 1048577
  depth : st.depth ≤ 1048577
  mem : st.mem.length ≤ 1000000000
  pans : st.panics.length ≤ 1048577
  evs : st.evs.length ≤ 1048577
  waiting : st.waiting ≤ 1048577
  why : ∀ t ∈ st.frames, t.why ≤ 3
  fn : ∀ t ∈ st.frames, ∃ r, rs[t.f]? = some r
  stk : ∀ t ∈ st.frames, t.stack.length ≤ 1048576
  defs : ∀ t ∈ st.frames, t.defs.length ≤ 1048577
  args : ∀ t ∈ st.frames, ∀ d ∈ t.defs, d.fn ≤ 1048577 ∧ ∃ r, rs[d.fn]? = some r ∧ d.args.length ≤ r.fn.locals.length
  locs : ∀ r ∈ rs, r.fn.locals.length ≤ 255
  keep : ∀ r ∈ rs, r.fn.keep ≤ 255
/-- .. at each round -/
def Rnds (rs : List Raw) : Nat → Mc → Prop
  | 0, _ => True
  | n + 1, st => Rnd rs st ∧ ∀ st', settle1 (fns rs) st = some st' → Rnds rs n st'
section
variable {w0 W W' w8 W1 : World} {ow ow' : Nat → Nat} {ex : Nat → Prop} {base rb tg fa fo n c k : Nat} {rs : List Raw} {st st' : Mc} {g g' : RG} {t : Fr} {bl : List Fr} {gl : List (Nat × Nat)} {pbs : List Nat} {fb b b0 b1 fz kf y : Nat}
theorem RunX.glen (h : RunX w0 rb tg fa fo n c rs st gl pbs W) : gl.length = st.frames.length ∧ pbs.length = st.panics.length := by
  obtain ⟨g, ow, hR, rfl, rfl⟩ := h
  exact ⟨by rw [List.length_map]; exact hR.frames.len, hR.pans.len⟩
theorem RunX.uncons (h : RunX w0 rb tg fa fo n c rs st gl pbs W) (hf : st.frames = t :: bl) : ∃ fb b gl', gl = (fb, b) :: gl' := by
  have hl := h.glen.1
  rw [hf] at hl
  cases gl with
  | nil => cases hl
  | cons x gl' => exact ⟨x.1, x.2, gl', rfl⟩
theorem RunX.unpan {p : Int × Bool} {ps : List (Int × Bool)} (h : RunX w0 rb tg fa fo n c rs st gl pbs W) (hp : st.panics = p :: ps) : ∃ b pbs', pbs = b :: pbs' := by
  have hl := h.glen.2
  rw [hp] at hl
  cases pbs with
  | nil => cases hl
  | cons x pbs' => exact ⟨x, pbs', rfl⟩
/-- a deferred call begins, whichever way -/
theorem callDeferred_any (d : Df) (r : Raw) (AA : Option Addr) (p cA : Nat) (h : RunA w0 rb tg fa fo n c rs st gl pbs AA p d.args W) (hlk : SLink st gl pbs) (hd : st.doing = 1 ∨ st.doing = 2) (hr : rs[d.fn]? = some r) (hpl : d.args.length = p) (hpn : p ≤ r.fn.locals.length) (hnl : r.fn.locals.length ≤ 255) (hs : st.mem.length ≤ 1000000000) (hpc : p ≤ cA) (hpz : AA = none → p = 0) (hf : st.frames.length ≤ 1048577) (hmx : st.depth ≤ 1048577) (hps : st.panics.length ≤ 1048577) :
    Calls Try.prog 50 #[.pointer (some ⟨rb, 0, none⟩), .agg #[.int .i64 d.fn, .slice AA p cA]] W fun e w' => e = .returned (.tuple #[]) ∧ ∃ gl' pbs', RunX w0 rb tg fa fo n c rs (st.begin (fns rs) (if st.doing = 1 then 2 else 3) d.fn d.args) gl' pbs' w' ∧ SLink (st.begin (fns rs) (if st.doing = 1 then 2 else 3) d.fn d.args) gl' pbs' := by
  rcases hd with hd | hd
  · rw [if_pos hd]
    refine (callDeferred_end d r AA p cA h hd hr hpl hpn hnl hs hpc hpz hf hmx).mono ?_
    rintro e w' ⟨rfl, fb, h2⟩
    refine ⟨rfl, _, _, h2, ⟨fun h => ?_, fun _ => ?_⟩⟩
    · have : (0 : Int) = 2 := h
      omega
    · show pbs = bysOf (⟨2, _, _, _, _, _, _⟩ :: st.frames) ((fb, 0) :: gl)
      rw [bysOf, if_neg (by show ¬ ((2 : Nat) = 3); omega)]
      exact hlk.one (.inr hd)
  · rw [if_neg (by omega)]
    obtain ⟨b, rfl⟩ := hlk.two hd
    obtain ⟨q, ps, hq⟩ : ∃ q ps, st.panics = q :: ps := by
      have hl := h.runX.glen.2
      cases hx : st.panics with
      | nil => rw [hx] at hl; cases hl
      | cons q ps => exact ⟨q, ps, rfl⟩
    refine (callDeferred_panic d r AA p cA h hd hq (by rw [hq] at hps; simp at hps; omega) hr hpl hpn hnl hs hpc hpz hf hmx).mono ?_
    rintro e w' ⟨rfl, fb, h2⟩
    refine ⟨rfl, _, _, h2, ⟨fun h => ?_, fun _ => ?_⟩⟩
    · have : (0 : Int) = 2 := h
      omega
    · show b :: bysOf st.frames gl = bysOf (⟨3, _, _, _, _, _, _⟩ :: st.frames) ((fb, b) :: gl)
      rw [bysOf, if_pos rfl]
/-- the removed frame's end, where it ends by itself -/
def endedF (y : Nat) : FuncId := if y = 0 then 106 else if y = 1 then 107 else if y = 2 then 110 else 108
theorem ended_of (y fb : Nat) (W : World) : (method 278 (frP y) (.pointer (some ⟨fb, 0, none⟩)) "windlass/sem.ended").run Try.prog W = .ok (endedF y, .pointer (some ⟨fb, 0, none⟩)) W := by
  unfold frP endedF
  split
  · exact ended_first fb W
  split
  · exact ended_called fb W
  split
  · exact ended_deferred fb W
  · exact ended_panic fb W
theorem kept_any {v : Int} (hn : Rnd rs st) (h : RunX w0 rb tg fa fo n c rs st gl pbs W) (hf : st.frames = t :: bl) (hgl : gl = (fb, b) :: gl.tail) (hv : kept (fns rs) st.mem t = some v) :
    Calls Try.prog 109 #[.pointer (some ⟨rb, 0, none⟩), .pointer (some ⟨fb, 0, none⟩)] W fun e w' => e = .returned (.int .u64 v) ∧ Below W.heap.size W w' := by
  obtain ⟨r, hr⟩ := hn.fn t (by rw [hf]; exact List.mem_cons_self)
  have hk : (fnOf (fns rs) t.f).keep = r.fn.keep := by rw [fnOf_at hr]
  rw [hgl] at h
  unfold kept at hv
  rw [hk] at hv
  by_cases hneg : r.fn.keep < 0
  · rw [if_pos hneg] at hv
    injection hv with hv
    subst hv
    exact kept_none r h hf hr hneg
  · rw [if_neg hneg] at hv
    obtain ⟨j, hj⟩ : ∃ j : Nat, r.fn.keep = (j : Int) := ⟨r.fn.keep.toNat, by omega⟩
    rw [hj] at hv
    have hb := hn.keep r (List.mem_of_getElem? hr)
    exact kept_some r j v h hf hr hj (by omega) hv hn.mem
end
end Go.Proofs.Ytdoabcmfblmklaa

/-
  Package sem: a frame's end, whichever frame's: what settle1 says.
-/
namespace Go.Proofs.Ytdoabcmfblmklaa
set_option linter.unusedVariables false
set_option linter.unusedSimpArgs false
open Go.ChangeShapes Go.WideShapes Go.ChangeAt Go.RowKit

section
variable {w0 W W' w8 W1 : World} {ow ow' : Nat → Nat} {ex : Nat → Prop} {base rb tg fa fo n c k : Nat} {rs : List Raw} {st st' : Mc} {g g' : RG} {t : Fr} {bl : List Fr} {gl : List (Nat × Nat)} {pbs : List Nat} {fb b b0 b1 fz kf y : Nat}
theorem RunX.top6 (h : RunX w0 rb tg fa fo n c rs st ((fb, b) :: gl) pbs W) (hf : st.frames = t :: bl) (hw : t.why = 3) : W.cell? ⟨fb, 6, none⟩ = some (.pointer (some ⟨b, 0, none⟩)) := by
  obtain ⟨g, ow, fg, gs, hR, hg, rfl, rfl, hgl, hpb, hF⟩ := h.open_ hf
  rw [hF.blk.blk.cell]; exact frC_6 hw
theorem bysOf_top {t' : Fr} (hw : t'.why = t.why) (bl : List Fr) (gl : List (Nat × Nat)) : bysOf (t' :: bl) gl = bysOf (t :: bl) gl := by
  cases gl with
  | nil => rfl
  | cons x gl => simp [bysOf, hw]
theorem Rnd.less {frames' : List Fr} {mem' : List Int} (hn : Rnd rs st) (hf : ∀ t ∈ frames', t ∈ st.frames) (hl : frames'.length ≤ st.frames.length) (hm : mem'.length ≤ st.mem.length) {ps : List (Int × Bool)} (hp : ps.length ≤ st.panics.length) : Rnd rs { st with frames := frames', mem := mem', panics := ps } :=
  ⟨Nat.le_trans hl hn.frames, hn.depth, Nat.le_trans hm hn.mem, Nat.le_trans hp hn.pans, hn.evs, hn.waiting, fun t h => hn.why t (hf t h), fun t h => hn.fn t (hf t h), fun t h => hn.stk t (hf t h), fun t h => hn.defs t (hf t h), fun t h => hn.args t (hf t h), hn.locs, hn.keep⟩
theorem ended_any (hn : Rnd rs st) (hd : st.doing = 1) (hf : st.frames = t :: bl) (hdf : t.defs = []) (hlk : SLink st ((fz, b) :: gl) pbs) (hset : settle1 (fns rs) st = some st') (h : RunX w0 rb tg fa fo n c rs { st with frames := bl, mem := st.mem.take t.base } gl pbs W) (hz : fz < W.heap.size) (c0 : W.cell? ⟨fz, 0, none⟩ = some (.pointer (some ⟨fa, fo + t.f * 5, none⟩))) (c5 : W.cell? ⟨fz, 5, none⟩ = some (.int .u64 t.number)) (c6 : t.why = 3 → W.cell? ⟨fz, 6, none⟩ = some (.pointer (some ⟨b, 0, none⟩))) :
    Calls Try.prog (endedF t.why) #[.pointer (some ⟨fz, 0, none⟩), .pointer (some ⟨rb, 0, none⟩)] W fun e w' => e = .returned (.tuple #[]) ∧ ∃ gl' pbs', RunX w0 rb tg fa fo n c rs st' gl' pbs' w' ∧ SLink st' gl' pbs' := by
  have hd3 : ({ st with frames := bl, mem := st.mem.take t.base } : Mc).doing ≠ 3 := by show st.doing ≠ 3; omega
  have hone := hlk.one (.inr hd)
  rw [hf] at hone
  have hfl : bl.length ≤ 1048577 := by have := hn.frames; rw [hf] at this; simp at this; omega
  have hn1 : ∀ ps : List (Int × Bool), ps.length ≤ st.panics.length → Rnd rs { st with frames := bl, mem := st.mem.take t.base, panics := ps } := fun ps hp => hn.less (fun x hx => by rw [hf]; exact List.mem_cons_of_mem _ hx) (by rw [hf]; simp) (by rw [List.length_take]; omega) hp
  obtain ⟨r, hr⟩ := hn.fn t (by rw [hf]; exact List.mem_cons_self)
  have hres : (fnOf (fns rs) t.f).result = r.fn.result := by rw [fnOf_at hr]
  unfold settle1 at hset
  rw [hf] at hset
  simp only [hdf] at hset
  by_cases hbase : t.base ≤ st.mem.length
  case neg => rw [if_neg hbase] at hset; cases hset
  rw [if_pos hbase] at hset
  have hd1 : (st.doing = 1) = True := by simp [hd]
  simp only [hd1, if_true] at hset
  by_cases y0 : t.why = 0
  · rw [if_pos y0] at hset
    injection hset with hset
    subst hset
    rw [y0]
    refine (ended_first_any (fz := fz) h hd3 hn.evs).mono ?_
    rintro e w' ⟨rfl, h2⟩
    exact ⟨rfl, _, _, h2, fun hh => by have : (3 : Int) = 2 := hh; omega, fun hh => by rcases hh with hh | hh <;> (have : (3 : Int) = _ := hh; omega)⟩
  rw [if_neg y0] at hset
  by_cases y1 : t.why = 1
  · rw [if_pos y1] at hset
    rw [y1]
    rw [bysOf, if_neg (by omega)] at hone
    cases hbl : bl with
    | nil => rw [hbl] at hset; cases hset
    | cons b' bl' =>
      rw [hbl] at hset h hone hfl
      injection hset with hset
      obtain ⟨fb, bb, gl', hgl⟩ := h.uncons rfl
      rw [hgl] at h hone
      cases hrr : r.fn.result with
      | false =>
        rw [hres, hrr] at hset
        refine (ended_called_no (fz := fz) r h rfl hd3 hr hz c0 hrr).mono ?_
        rintro e w' ⟨rfl, h2⟩
        refine ⟨rfl, (fb, bb) :: gl', pbs, by rw [← hset]; exact h2, ?_⟩
        rw [← hset]
        exact ⟨fun hh => by have : (0 : Int) = 2 := hh; omega, fun _ => hone⟩
      | true =>
        rw [hres, hrr] at hset
        refine (ended_called_yes (fz := fz) r t.number h rfl hd3 (by simp at hfl; omega) (hn.stk b' (by rw [hf, hbl]; simp)) hr hz c0 c5 hrr).mono ?_
        rintro e w' ⟨rfl, h2⟩
        refine ⟨rfl, (fb, bb) :: gl', pbs, by rw [← hset]; exact h2, ?_⟩
        rw [← hset]
        exact ⟨fun hh => by have : (0 : Int) = 2 := hh; omega, fun _ => hone.trans (bysOf_top rfl bl' _)⟩
  rw [if_neg y1] at hset
  by_cases y2 : t.why = 2
  · rw [if_pos y2] at hset
    injection hset with hset
    subst hset
    rw [y2]
    rw [bysOf, if_neg (by omega)] at hone
    refine (ended_deferred_any (fz := fz) h).mono ?_
    rintro e w' ⟨rfl, h2⟩
    exact ⟨rfl, _, _, h2, fun hh => by have : st.doing = 2 := hh; omega, fun _ => hone⟩
  rw [if_neg y2] at hset
  have y3 : t.why = 3 := by have := hn.why t (by rw [hf]; exact List.mem_cons_self); omega
  rw [y3]
  rw [bysOf, if_pos y3] at hone
  rw [hone] at h
  cases hp : st.panics with
  | nil => rw [hp] at hset; cases hset
  | cons p ps =>
    obtain ⟨v, rc⟩ := p
    rw [hp] at hset
    cases rc with
    | false =>
      have hset' : some ({ st with frames := bl, mem := st.mem.take t.base, panics := (v, false) :: ps, doing := 2 } : Mc) = some st' := by
        rw [← hset]
        try (cases bl <;> simp [hp])
      injection hset' with hset'
      refine (ended_panic_no (fz := fz) v ps h hp hd3 hz (c6 y3)).mono ?_
      rintro e w' ⟨rfl, h2⟩
      refine ⟨rfl, gl, _, by rw [← hset', ← hp]; exact h2, ?_⟩
      rw [← hset']
      exact ⟨fun _ => ⟨b, rfl⟩, fun hh => by rcases hh with hh | hh <;> (have : (2 : Int) = _ := hh; omega)⟩
    | true =>
      cases hbl : bl with
      | nil => rw [hbl] at hset; cases hset
      | cons b' bl' =>
        rw [hbl] at hset h hfl
        obtain ⟨fb, bb, gl', hgl⟩ := h.uncons rfl
        rw [hgl] at h hone
        simp only [Option.map_eq_some_iff] at hset
        obtain ⟨x, hx, hset⟩ := hset
        have hn2 := hn1 ps (by rw [hp]; simp)
        refine (ended_panic_yes (fz := fz) v x bb ps h rfl hp hd3 (by simp at hfl; omega) (by have := hn.pans; rw [hp] at this; simp at this; omega) hz (c6 y3) fun W' h' => kept_any (by rw [hbl] at hn2; exact hn2) h' rfl rfl hx).mono ?_
        rintro e w' ⟨rfl, h2⟩
        refine ⟨rfl, (fb, bb) :: gl', _, by rw [← hset]; exact h2, ?_⟩
        rw [← hset]
        exact ⟨fun hh => by have : st.doing = 2 := hh; omega, fun _ => bysOf_top rfl bl' _⟩
end
end Go.Proofs.Ytdoabcmfblmklaa

/-
  Package sem: the active panic goes on: what settle1 says.
-/
namespace Go.Proofs.Ytdoabcmfblmklaa
set_option linter.unusedVariables false
set_option linter.unusedSimpArgs false
open Go.ChangeShapes Go.WideShapes Go.ChangeAt Go.RowKit

section
variable {w0 W W' w8 W1 : World} {ow ow' : Nat → Nat} {ex : Nat → Prop} {base rb tg fa fo n c k : Nat} {rs : List Raw} {st st' : Mc} {g g' : RG} {t : Fr} {bl : List Fr} {gl : List (Nat × Nat)} {pbs : List Nat} {fb b b0 b1 fz kf y : Nat}
theorem passed_any (hn : Rnd rs st) (hd : st.doing = 2) (hf : st.frames = t :: bl) (hdf : t.defs = []) (hlk : SLink st ((fz, b) :: gl) pbs) (hset : settle1 (fns rs) st = some st') (h : RunX w0 rb tg fa fo n c rs { st with frames := bl, mem := st.mem.take t.base } gl pbs W) :
    Calls Try.prog 52 #[.pointer (some ⟨rb, 0, none⟩), .iface (frP t.why) (.pointer (some ⟨fz, 0, none⟩))] W fun e w' => e = .returned (.tuple #[]) ∧ ∃ gl' pbs', RunX w0 rb tg fa fo n c rs st' gl' pbs' w' ∧ SLink st' gl' pbs' := by
  have hd3 : ({ st with frames := bl, mem := st.mem.take t.base } : Mc).doing ≠ 3 := by show st.doing ≠ 3; omega
  obtain ⟨b0, htwo⟩ := hlk.two hd
  rw [hf] at htwo
  have hfl : bl.length ≤ 1048577 := by have := hn.frames; rw [hf] at this; simp at this; omega
  have hpl := hn.pans
  unfold settle1 at hset
  rw [hf] at hset
  simp only [hdf] at hset
  by_cases hbase : t.base ≤ st.mem.length
  case neg => rw [if_neg hbase] at hset; cases hset
  rw [if_pos hbase] at hset
  have hd1 : (st.doing = 1) = False := by simp [hd]
  simp only [hd1, if_false] at hset
  by_cases y3 : t.why = 3
  · simp only [y3, if_true] at hset
    rw [bysOf, if_pos y3] at htwo
    rw [htwo] at h
    rw [show frP t.why = 133 by rw [y3]; rfl]
    obtain ⟨p, p2, ps, hp⟩ : ∃ p p2 ps, st.panics = p :: p2 :: ps := by
      cases h1 : st.panics with
      | nil => rw [h1] at hset; cases hset
      | cons p l => cases l with
        | nil => rw [h1] at hset; cases hset
        | cons p2 ps => exact ⟨p, p2, ps, rfl⟩
    rw [hp] at hset hpl
    simp only [List.length_cons] at hpl
    cases hbl : bl with
    | nil =>
      rw [hbl] at hset h
      injection hset with hset
      refine (passed_panic_end (fz := fz) h rfl hp hd3 (by omega) hn.evs).mono ?_
      rintro e w' ⟨rfl, h2⟩
      refine ⟨rfl, _, _, by rw [← hset]; exact h2, ?_⟩
      rw [← hset]
      exact ⟨fun hh => by have : (3 : Int) = 2 := hh; omega, fun hh => by rcases hh with hh | hh <;> (have : (3 : Int) = _ := hh; omega)⟩
    | cons b' bl' =>
      rw [hbl] at hset h hfl
      injection hset with hset
      refine (passed_panic_go (fz := fz) h rfl hp hd3 (by omega) (by simp at hfl; omega)).mono ?_
      rintro e w' ⟨rfl, h2⟩
      refine ⟨rfl, _, _, by rw [← hset]; exact h2, ?_⟩
      rw [← hset]
      exact ⟨fun _ => ⟨b0, rfl⟩, fun hh => by rcases hh with hh | hh <;> (have : st.doing = _ := hh; omega)⟩
  · simp only [y3, if_false] at hset
    rw [bysOf, if_neg y3] at htwo
    rw [htwo] at h
    have hy : t.why < 3 := by have := hn.why t (by rw [hf]; exact List.mem_cons_self); omega
    cases hbl : bl with
    | nil =>
      rw [hbl] at hset h
      cases hp : st.panics with
      | nil => rw [hp] at hset; cases hset
      | cons p ps =>
        obtain ⟨v, rc⟩ := p
        rw [hp] at hset hpl
        simp only [List.length_cons] at hpl
        injection hset with hset
        refine (passed_plain_end (fz := fz) v rc ps h rfl hp hd3 (by omega) hn.evs hy).mono ?_
        rintro e w' ⟨rfl, h2⟩
        refine ⟨rfl, _, _, by rw [← hset, ← hp]; exact h2, ?_⟩
        rw [← hset]
        exact ⟨fun hh => by have : (3 : Int) = 2 := hh; omega, fun hh => by rcases hh with hh | hh <;> (have : (3 : Int) = _ := hh; omega)⟩
    | cons b' bl' =>
      rw [hbl] at hset h hfl
      injection hset with hset
      refine (passed_plain_go (fz := fz) h rfl (by simp at hfl; omega) hy).mono ?_
      rintro e w' ⟨rfl, h2⟩
      refine ⟨rfl, _, _, by rw [← hset]; exact h2, ?_⟩
      rw [← hset]
      exact ⟨fun _ => ⟨b0, rfl⟩, fun hh => by rcases hh with hh | hh <;> (have : st.doing = _ := hh; omega)⟩
end
end Go.Proofs.Ytdoabcmfblmklaa

/-
  Package sem: settle.
-/
namespace Go.Proofs.Ytdoabcmfblmklaa
set_option linter.unusedVariables false
set_option linter.unusedSimpArgs false
open Go.ChangeShapes Go.WideShapes Go.ChangeAt Go.RowKit

section
variable {w0 W W' w8 W1 : World} {ow ow' : Nat → Nat} {ex : Nat → Prop} {base rb tg fa fo n c k : Nat} {rs : List Raw} {st st' st2 : Mc} {g g' : RG} {t : Fr} {bl : List Fr} {gl : List (Nat × Nat)} {pbs : List Nat} {fb b b0 b1 fz kf y : Nat}
set_option maxRecDepth 100000 in
set_option maxHeartbeats 3200000 in
theorem settle_any (N : Nat) (hset : settle (fns rs) N st = some st2) (hrn : Rnds rs N st) (hlk : SLink st gl pbs) (h : RunX w0 rb tg fa fo n c rs st gl pbs W) :
    Calls Try.prog 26 #[.pointer (some ⟨rb, 0, none⟩)] W fun e w' => e = .returned (.tuple #[]) ∧ ∃ gl' pbs', RunX w0 rb tg fa fo n c rs st2 gl' pbs' w' ∧ SLink st2 gl' pbs' := by
  have HS := Lib.hid hset
  have HR := Lib.hid hrn
  have HL := Lib.hid hlk
  have H := Lib.hid h
  clear hset hrn hlk h
  go_enter Try.func26, Try.ntmps26
  go_wp2
  go_loopg [] N (fun gk wr => ∃ st1 gl1 pbs1, Hid (RunX w0 rb tg fa fo n c rs st1 gl1 pbs1 wr) ∧ Hid (SLink st1 gl1 pbs1) ∧ Hid (settle (fns rs) gk st1 = some st2) ∧ Hid (Rnds rs gk st1))
  case atStart => exact ⟨st, gl, pbs, H, HL, HS, HR⟩
  case round =>
    clear HS HR HL H
    obtain ⟨st1, gl1, pbs1, H, HL, HS, HR⟩ := hrel
    obtain ⟨m, rfl⟩ : ∃ m, gk = m + 1 := by
      cases gk with
      | zero => exact absurd HS.out (by simp [settle])
      | succ m => exact ⟨m, rfl⟩
    have hs := HS.out
    rw [settle] at hs
    obtain ⟨hrz, _, _, _, d6, _, _, _⟩ := H.out.cells
    by_cases hdo : st1.doing = 1 ∨ st1.doing = 2
    · rw [if_pos hdo] at hs
      obtain ⟨st3, e3, e4⟩ := Option.bind_eq_some_iff.1 hs
      obtain ⟨hn, hnx⟩ := HR.out
      have HR3 := Lib.hid (hnx st3 e3)
      have HS3 := Lib.hid e4
      have HN := Lib.hid hn
      obtain ⟨t, bl, hf⟩ : ∃ t bl, st1.frames = t :: bl := by
        cases hx : st1.frames with
        | nil => unfold settle1 at e3; rw [hx] at e3; cases e3
        | cons t bl => exact ⟨t, bl, rfl⟩
      obtain ⟨fb, b, gl', rfl⟩ := H.out.uncons hf
      have hd3 : st1.doing ≠ 3 := by omega
      have hfl : bl.length ≤ 1048577 := by have := hn.frames; rw [hf] at this; simp at this; omega
      have htm : t ∈ st1.frames := by rw [hf]; exact List.mem_cons_self
      have hfb := (H.out.top hf).1
      have HT : Hid (Calls Try.prog 36 #[.pointer (some ⟨rb, 0, none⟩)] wr fun e w' => e = .returned (.iface (frP t.why) (.pointer (some ⟨fb, 0, none⟩))) ∧ Below wr.heap.size wr w') := Lib.hid (top_any H.out hf hfl)
      have bm := body_of t.why fb
      have em := ended_of t.why fb
      cases hdf : t.defs with
      | nil =>
        have HU : Hid (∀ W', Below wr.heap.size wr W' → Calls Try.prog 49 #[.pointer (some ⟨rb, 0, none⟩), .pointer (some ⟨fb, 0, none⟩)] W' fun e w' => e = .returned (.tuple #[.agg #[.int .i64 0, .slice none 0 0], .bool false]) ∧ RunX w0 rb tg fa fo n c rs st1 ((fb, b) :: gl') pbs1 w') := Lib.hid fun W' hb => undefer_none (H.out.on hb) hf hdf
        have hbase : t.base ≤ st1.mem.length := by
          unfold settle1 at e3
          rw [hf] at e3
          simp only [hdf] at e3
          by_cases hb : t.base ≤ st1.mem.length
          · exact hb
          · rw [if_neg hb] at e3; cases e3
        have HRM : Hid (∀ W', RunX w0 rb tg fa fo n c rs st1 ((fb, b) :: gl') pbs1 W' → Calls Try.prog 51 #[.pointer (some ⟨rb, 0, none⟩), .iface (frP t.why) (.pointer (some ⟨fb, 0, none⟩))] W' fun e w' => e = .returned (.tuple #[]) ∧ w'.cell? ⟨rb, 6, none⟩ = some (.int .i64 st1.doing) ∧ rb < w'.heap.size ∧ RunX w0 rb tg fa fo n c rs { st1 with frames := bl, mem := st1.mem.take t.base } gl' pbs1 w' ∧ fb < w'.heap.size ∧ w'.cell? ⟨fb, 0, none⟩ = some (.pointer (some ⟨fa, fo + t.f * 5, none⟩)) ∧ w'.cell? ⟨fb, 5, none⟩ = some (.int .u64 t.number) ∧ (t.why = 3 → w'.cell? ⟨fb, 6, none⟩ = some (.pointer (some ⟨b, 0, none⟩)))) := Lib.hid fun W' h' => (remove_any h' hf hd3 hfl hbase hn.mem).mono fun e w' hw => by
          obtain ⟨h1, h2, h3, h4⟩ := hw
          obtain ⟨q1, _, _, _, q6, _, _, _⟩ := h2.cells
          obtain ⟨_, _, z0, _, _, z5, _, _⟩ := h'.top hf
          exact ⟨h1, q6, q1, h2, h4, (h3 0).trans z0, (h3 5).trans z5, fun hw => (h3 6).trans (h'.top6 hf hw)⟩
        rcases hdo with hd1 | hd2
        · have HE : Hid (∀ W', RunX w0 rb tg fa fo n c rs { st1 with frames := bl, mem := st1.mem.take t.base } gl' pbs1 W' → fb < W'.heap.size → W'.cell? ⟨fb, 0, none⟩ = some (.pointer (some ⟨fa, fo + t.f * 5, none⟩)) → W'.cell? ⟨fb, 5, none⟩ = some (.int .u64 t.number) → (t.why = 3 → W'.cell? ⟨fb, 6, none⟩ = some (.pointer (some ⟨b, 0, none⟩))) → Calls Try.prog (endedF t.why) #[.pointer (some ⟨fb, 0, none⟩), .pointer (some ⟨rb, 0, none⟩)] W' fun e w' => e = .returned (.tuple #[]) ∧ ∃ gl' pbs', RunX w0 rb tg fa fo n c rs st3 gl' pbs' w' ∧ SLink st3 gl' pbs') := Lib.hid fun W' a1 a2 a3 a4 a5 => ended_any hn hd1 hf hdf HL.out e3 a1 a2 a3 a4 a5
          obtain ⟨P, hP⟩ : ∃ P, P = frP t.why := ⟨_, rfl⟩
          have hF4 : endedF t.why = 106 ∨ endedF t.why = 107 ∨ endedF t.why = 110 ∨ endedF t.why = 108 := by
            unfold endedF
            split
            · exact .inl rfl
            split
            · exact .inr (.inl rfl)
            split
            · exact .inr (.inr (.inl rfl))
            · exact .inr (.inr (.inr rfl))
          rw [← hP] at HT bm em HRM
          rw [hd1] at d6
          have HDO := Lib.hid hd1
          clear H HL HS HR hs e3 e4 hn hnx hf hd3 hfl htm hdf hbase hd1 hP
          rcases hF4 with hF | hF | hF | hF
          all_goals
            rw [hF] at em HE
            clear hF
            go_wp2_with (first
              | (go_at_call 36; refine HT.out.mono ?_; rintro e w2 ⟨rfl, hb2⟩; have HB2 := Lib.hid hb2; clear hb2)
              | (go_at_call 105; refine (body_any fb _).mono ?_; rintro e w3 ⟨rfl, rfl⟩)
              | (go_at_call 49; refine (HU.out _ HB2.out).mono ?_; rintro e w4 ⟨rfl, h4⟩; have hz4 := h4.cells.1; have H4 := Lib.hid (h4.on ((Below.refl _ _).alloc (Nat.le_refl _) (.cells #[.int .i64 0, .slice none 0 0] 118))); clear h4)
              | (go_at_call 51; refine (HRM.out _ H4.out).mono ?_; rintro e w5 ⟨rfl, q6, q1, h5, y1, y0, y5, y6⟩; have q7 : w5.cell? ⟨rb, 6, none⟩ = some (.int .i64 1) := (by rw [q6, HDO.out]); have H5 := Lib.hid h5; have Y6 := Lib.hid y6; clear h5 y6 q6)
              | (go_at_call 106; refine (HE.out _ H5.out y1 y0 y5 Y6.out).mono ?_; rintro e w6 ⟨rfl, gl6, pbs6, h6, l6⟩; have H6 := Lib.hid h6; have L6 := Lib.hid l6; clear h6 l6)
              | (go_at_call 107; refine (HE.out _ H5.out y1 y0 y5 Y6.out).mono ?_; rintro e w6 ⟨rfl, gl6, pbs6, h6, l6⟩; have H6 := Lib.hid h6; have L6 := Lib.hid l6; clear h6 l6)
              | (go_at_call 110; refine (HE.out _ H5.out y1 y0 y5 Y6.out).mono ?_; rintro e w6 ⟨rfl, gl6, pbs6, h6, l6⟩; have H6 := Lib.hid h6; have L6 := Lib.hid l6; clear h6 l6)
              | (go_at_call 108; refine (HE.out _ H5.out y1 y0 y5 Y6.out).mono ?_; rintro e w6 ⟨rfl, gl6, pbs6, h6, l6⟩; have H6 := Lib.hid h6; have L6 := Lib.hid l6; clear h6 l6))
            go_roundg m
            case measure => omega
            case rel => exact ⟨st3, gl6, pbs6, H6, L6, HS3, HR3⟩
        · have HP : Hid (∀ W', RunX w0 rb tg fa fo n c rs { st1 with frames := bl, mem := st1.mem.take t.base } gl' pbs1 W' → Calls Try.prog 52 #[.pointer (some ⟨rb, 0, none⟩), .iface (frP t.why) (.pointer (some ⟨fb, 0, none⟩))] W' fun e w' => e = .returned (.tuple #[]) ∧ ∃ gl' pbs', RunX w0 rb tg fa fo n c rs st3 gl' pbs' w' ∧ SLink st3 gl' pbs') := Lib.hid fun W' a1 => passed_any hn hd2 hf hdf HL.out e3 a1
          obtain ⟨P, hP⟩ : ∃ P, P = frP t.why := ⟨_, rfl⟩
          rw [← hP] at HT bm em HRM HP
          rw [hd2] at d6
          have HDO := Lib.hid hd2
          clear H HL HS HR hs e3 e4 hn hnx hf hd3 hfl htm hdf hbase hd2 hP em
          go_wp2_with (first
            | (go_at_call 36; refine HT.out.mono ?_; rintro e w2 ⟨rfl, hb2⟩; have HB2 := Lib.hid hb2; clear hb2)
            | (go_at_call 105; refine (body_any fb _).mono ?_; rintro e w3 ⟨rfl, rfl⟩)
            | (go_at_call 49; refine (HU.out _ HB2.out).mono ?_; rintro e w4 ⟨rfl, h4⟩; have hz4 := h4.cells.1; have H4 := Lib.hid (h4.on ((Below.refl _ _).alloc (Nat.le_refl _) (.cells #[.int .i64 0, .slice none 0 0] 118))); clear h4)
            | (go_at_call 51; refine (HRM.out _ H4.out).mono ?_; rintro e w5 ⟨rfl, q6, q1, h5, y1, y0, y5, y6⟩; have q7 : w5.cell? ⟨rb, 6, none⟩ = some (.int .i64 2) := (by rw [q6, HDO.out]); have H5 := Lib.hid h5; clear h5 y6 q6)
            | (go_at_call 52; refine (HP.out _ H5.out).mono ?_; rintro e w6 ⟨rfl, gl6, pbs6, h6, l6⟩; have H6 := Lib.hid h6; have L6 := Lib.hid l6; clear h6 l6))
          go_roundg m
          case measure => omega
          case rel => exact ⟨st3, gl6, pbs6, H6, L6, HS3, HR3⟩
      | cons d ds =>
        obtain ⟨hfn, r, hr, hargl⟩ := hn.args t htm d (by rw [hdf]; exact List.mem_cons_self)
        have hnl := hn.locs r (List.mem_of_getElem? hr)
        obtain ⟨hw0, hst3⟩ : 0 < st1.waiting ∧ st3 = ({ st1.top { t with defs := ds } bl with waiting := st1.waiting - 1 } : Mc).begin (fns rs) (if st1.doing = 1 then 2 else 3) d.fn d.args := by
          unfold settle1 at e3
          rw [hf] at e3
          simp only [hdf] at e3
          by_cases hc : d.fn < (fns rs).length ∧ 0 < st1.waiting
          · rw [if_pos hc] at e3
            injection e3 with e3
            exact ⟨hc.2, e3.symm⟩
          · rw [if_neg hc] at e3; cases e3
        have hsu : SLink ({ st1.top { t with defs := ds } bl with waiting := st1.waiting - 1 } : Mc) ((fb, b) :: gl') pbs1 := ⟨fun hh => by
          obtain ⟨b', hb'⟩ := HL.out.two hh
          rw [hf] at hb'
          exact ⟨b', hb'⟩, fun hh => by
          have hb' := HL.out.one hh
          rw [hf] at hb'
          exact hb'⟩
        have hdl : ds.length ≤ 1048576 := by have := hn.defs t htm; rw [hdf] at this; simp at this; omega
        have hfl2 : (t :: bl).length ≤ 1048577 := by rw [← hf]; exact hn.frames
        have HU : Hid (∀ W', Below wr.heap.size wr W' → Calls Try.prog 49 #[.pointer (some ⟨rb, 0, none⟩), .pointer (some ⟨fb, 0, none⟩)] W' fun e w' => ∃ AA cA, e = .returned (.tuple #[.agg #[.int .i64 d.fn, .slice AA d.args.length cA], .bool true]) ∧ d.args.length ≤ cA ∧ (AA = none → d.args.length = 0) ∧ RunA w0 rb tg fa fo n c rs { st1.top { t with defs := ds } bl with waiting := st1.waiting - 1 } ((fb, b) :: gl') pbs1 AA d.args.length d.args w') := Lib.hid fun W' hb => undefer_some (H.out.on hb) hf hdf hd3 hdl hw0 hn.waiting hfn
        have HC : Hid (∀ W' AA cA, d.args.length ≤ cA → (AA = none → d.args.length = 0) → RunA w0 rb tg fa fo n c rs { st1.top { t with defs := ds } bl with waiting := st1.waiting - 1 } ((fb, b) :: gl') pbs1 AA d.args.length d.args W' → Calls Try.prog 50 #[.pointer (some ⟨rb, 0, none⟩), .agg #[.int .i64 d.fn, .slice AA d.args.length cA]] W' fun e w' => e = .returned (.tuple #[]) ∧ ∃ gl' pbs', RunX w0 rb tg fa fo n c rs st3 gl' pbs' w' ∧ SLink st3 gl' pbs') := Lib.hid fun W' AA cA a1 a2 a3 => by
          rw [hst3]
          exact callDeferred_any d r AA d.args.length cA a3 hsu hdo hr rfl hargl hnl hn.mem a1 a2 hfl2 hn.depth hn.pans
        obtain ⟨P, hP⟩ : ∃ P, P = frP t.why := ⟨_, rfl⟩
        obtain ⟨kf, hkf⟩ : ∃ k, k = d.fn := ⟨_, rfl⟩
        obtain ⟨p, hp⟩ : ∃ k, k = d.args.length := ⟨_, rfl⟩
        rw [← hP] at HT bm
        rw [← hkf, ← hp] at HU HC
        obtain ⟨dv, hdv⟩ : ∃ v, v = st1.doing := ⟨_, rfl⟩
        rw [← hdv] at d6
        have hdo' : dv = 1 ∨ dv = 2 := by rw [hdv]; exact hdo
        clear H HL HS HR hs e3 e4 hn hnx hf hd3 hfl htm hdf hdo hP em hfn hr hargl hnl hw0 hst3 hsu hdl hfl2 hkf hp hdv
        rcases hdo' with rfl | rfl
        all_goals
          go_wp2_with (first
            | (go_at_call 36; refine HT.out.mono ?_; rintro e w2 ⟨rfl, hb2⟩; have HB2 := Lib.hid hb2; clear hb2)
            | (go_at_call 105; refine (body_any fb _).mono ?_; rintro e w3 ⟨rfl, rfl⟩)
            | (go_at_call 49; refine (HU.out _ HB2.out).mono ?_; rintro e w4 ⟨AA, cA, rfl, hpc, hpz, h4⟩; have HPZ := Lib.hid hpz; have H4 := Lib.hid (h4.on ((Below.refl _ _).alloc (Nat.le_refl _) (.cells #[.int .i64 kf, .slice AA p cA] 118))); clear h4 hpz)
            | (go_at_call 50; refine (HC.out _ AA cA hpc HPZ.out H4.out).mono ?_; rintro e w6 ⟨rfl, gl6, pbs6, h6, l6⟩; have H6 := Lib.hid h6; have L6 := Lib.hid l6; clear h6 l6))
          go_roundg m
          case measure => omega
          case rel => exact ⟨st3, gl6, pbs6, H6, L6, HS3, HR3⟩
    · rw [if_neg hdo] at hs
      injection hs with hs
      subst hs
      have g1 : (st1.doing == 1) = false := by simp; omega
      have g2 : (st1.doing == 2) = false := by simp; omega
      clear HS HR
      go_wp2
      go_end0
      exact ⟨rfl, gl1, pbs1, H.out, HL.out⟩
end
end Go.Proofs.Ytdoabcmfblmklaa

/-
  Package sem: load, store, reckon, ret.
-/
namespace Go.Proofs.Ytdoabcmfblmklaa
set_option linter.unusedVariables false
set_option linter.unusedSimpArgs false
open Go.ChangeShapes Go.WideShapes Go.ChangeAt Go.RowKit

section
variable {w0 W W' w8 W1 : World} {ow ow' : Nat → Nat} {ex : Nat → Prop} {rb tg fa fo n c k : Nat} {rs : List Raw} {st st' : Mc} {g g' : RG} {t : Fr} {bl : List Fr} {gl : List (Nat × Nat)} {pbs : List Nat} {fb b : Nat}
/-- a call that raised a panic, or did not -/
def Unit1 (R : List Nat → World → Prop) (pbs : List Nat) (e : Ending) (w' : World) : Prop := e = .returned (.tuple #[]) ∧ ∃ x, R (x :: pbs) w'

set_option maxRecDepth 100000 in
set_option maxHeartbeats 1600000 in
theorem load_null (s : List Int) (h : RunX w0 rb tg fa fo n c rs st ((fb, b) :: gl) pbs W) (hf : st.frames = t :: bl) (hs : t.stack = 0 :: s) (hd : st.doing ≠ 3) (hl : s.length ≤ 1048576) (hp : st.panics.length ≤ 1048576) (hm : st.maxp ≤ 1048577) :
    Calls Try.prog 39 #[.pointer (some ⟨rb, 0, none⟩), .pointer (some ⟨fb, 0, none⟩)] W fun e w' => e = .returned (.tuple #[]) ∧ ∃ x, RunX w0 rb tg fa fo n c rs ((st.top { t with stack := s } bl).raise byNull) ((fb, b) :: gl) (x :: pbs) w' := by
  have HP := Lib.hid (pop_any 0 s h hf hs hl)
  have HD := Lib.hid hd
  have HP1 := Lib.hid hp
  have HM := Lib.hid hm
  clear h hf hs hd hl hp hm
  go_enter Try.func39, Try.ntmps39
  go_wp2_with (first
    | (go_at_call 38; refine HP.out.mono ?_; rintro e w2 ⟨rfl, h2⟩; have H2 := Lib.hid h2; clear h2)
    | (go_at_call 44; refine (raise_any 18446744073709551614 H2.out HD.out HP1.out HM.out).mono ?_; rintro e w3 ⟨rfl, x, h3⟩; have H3 := Lib.hid h3; clear h3))
  exact bodyPost_ret (v := .tuple #[]) (by simp [results, Try.results39, go_sem]) rfl ⟨rfl, x, H3.out⟩

set_option maxRecDepth 100000 in
set_option maxHeartbeats 1600000 in
theorem load_ok (s : List Int) (j : Nat) (v : Int) (h : RunX w0 rb tg fa fo n c rs st ((fb, b) :: gl) pbs W) (hf : st.frames = t :: bl) (hs : t.stack = ((j : Int) + 1) :: s) (hv : st.mem[j]? = some v) (hl : s.length ≤ 1048576) (hj : st.mem.length ≤ 1000000000) :
    Calls Try.prog 39 #[.pointer (some ⟨rb, 0, none⟩), .pointer (some ⟨fb, 0, none⟩)] W fun e w' => e = .returned (.tuple #[]) ∧ RunX w0 rb tg fa fo n c rs (st.top { t with stack := v :: s } bl) ((fb, b) :: gl) pbs w' := by
  have HP := Lib.hid (pop_any ((j : Int) + 1) s h hf hs hl)
  have HV := Lib.hid hv
  have HL := Lib.hid hl
  have hjm : j < st.mem.length := (List.getElem?_eq_some_iff.1 hv).1
  obtain ⟨m, hm⟩ : ∃ m, m = st.mem.length := ⟨_, rfl⟩
  rw [← hm] at hjm hj
  have HM := Lib.hid hm
  have g1 : ((j : Int) + 1 == 0) = false := by simp; omega
  have hj1 : (j : Int) + 1 - 1 = (j : Int) := by omega
  have hj0 : (0 : Int) ≤ (j : Int) := by omega
  have hjm' : (j : Int) < (m : Int) := by omega
  have hjb : j ≤ 1000000000 := by omega
  clear h hf hs hv hl hm
  go_enter Try.func39, Try.ntmps39
  go_wp2_with (go_at_call 38; refine HP.out.mono ?_; rintro e w2 ⟨rfl, h2⟩; have H2 := Lib.hid h2; clear h2; refine Hid.out ?_)
  obtain ⟨q, cm, x0, x1, x2, hq, hr, _, _⟩ := H2.out.memAt (j := j) (v := v) HV.out
  have x0' : w2.cell? ⟨rb, 3, none⟩ = some (.slice (some ⟨q, 0, none⟩) m cm) := by rw [HM.out]; exact x0
  have HPU := Lib.hid (push_any v H2.out rfl HL.out)
  clear x0
  refine Lib.hid ?_
  go_wp2_with (go_at_call 37; refine HPU.out.mono ?_; rintro e w3 ⟨rfl, h3⟩; have H3 := Lib.hid h3; clear h3)
  go_end0
  exact ⟨rfl, H3.out⟩

set_option maxRecDepth 100000 in
set_option maxHeartbeats 1600000 in
theorem store_null (v : Int) (s : List Int) (h : RunX w0 rb tg fa fo n c rs st ((fb, b) :: gl) pbs W) (hf : st.frames = t :: bl) (hs : t.stack = v :: 0 :: s) (hd : st.doing ≠ 3) (hl : s.length + 1 ≤ 1048576) (hp : st.panics.length ≤ 1048576) (hm : st.maxp ≤ 1048577) :
    Calls Try.prog 40 #[.pointer (some ⟨rb, 0, none⟩), .pointer (some ⟨fb, 0, none⟩)] W fun e w' => e = .returned (.tuple #[]) ∧ ∃ x, RunX w0 rb tg fa fo n c rs ((st.top { t with stack := s } bl).raise byNull) ((fb, b) :: gl) (x :: pbs) w' := by
  have HP := Lib.hid (pop_any v (0 :: s) h hf hs hl)
  have HL := Lib.hid hl
  have HD := Lib.hid hd
  have HP1 := Lib.hid hp
  have HM := Lib.hid hm
  clear h hf hs hd hl hp hm
  go_enter Try.func40, Try.ntmps40
  go_wp2_with (go_at_call 38; refine HP.out.mono ?_; rintro e w2 ⟨rfl, h2⟩; have H2 := Lib.hid (pop_any (t := { t with stack := 0 :: s }) 0 s h2 rfl rfl (by have := HL.out; omega)); clear h2; refine Hid.out ?_)
  refine Lib.hid ?_
  go_wp2_with (first
    | (go_at_call 38; refine H2.out.mono ?_; rintro e w3 ⟨rfl, h3⟩; have H3 := Lib.hid h3; clear h3)
    | (go_at_call 44; refine (raise_any 18446744073709551614 H3.out HD.out HP1.out HM.out).mono ?_; rintro e w4 ⟨rfl, x, h4⟩; have H4 := Lib.hid h4; clear h4))
  exact bodyPost_ret (v := .tuple #[]) (by simp [results, Try.results40, go_sem]) rfl ⟨rfl, x, H4.out⟩

set_option maxRecDepth 100000 in
set_option maxHeartbeats 1600000 in
theorem store_ok (v : Int) (s : List Int) (j : Nat) (h : RunX w0 rb tg fa fo n c rs st ((fb, b) :: gl) pbs W) (hf : st.frames = t :: bl) (hs : t.stack = v :: ((j : Int) + 1) :: s) (hv : j < st.mem.length) (hd : st.doing ≠ 3) (hl : s.length + 1 ≤ 1048576) (hj : st.mem.length ≤ 1000000000) :
    Calls Try.prog 40 #[.pointer (some ⟨rb, 0, none⟩), .pointer (some ⟨fb, 0, none⟩)] W fun e w' => e = .returned (.tuple #[]) ∧ RunX w0 rb tg fa fo n c rs { st.top { t with stack := s } bl with mem := st.mem.set j v } ((fb, b) :: gl) pbs w' := by
  have HP := Lib.hid (pop_any v (((j : Int) + 1) :: s) h hf hs hl)
  obtain ⟨v0, hv0⟩ : ∃ v0, st.mem[j]? = some v0 := ⟨_, List.getElem?_eq_getElem hv⟩
  have HV := Lib.hid hv0
  have HL := Lib.hid hl
  have HD := Lib.hid hd
  obtain ⟨m, hm⟩ : ∃ m, m = st.mem.length := ⟨_, rfl⟩
  rw [← hm] at hv hj
  have HM := Lib.hid hm
  have g1 : ((j : Int) + 1 == 0) = false := by simp; omega
  have hj1 : (j : Int) + 1 - 1 = (j : Int) := by omega
  have hj0 : (0 : Int) ≤ (j : Int) := by omega
  have hjm' : (j : Int) < (m : Int) := by omega
  have hjb : j ≤ 1000000000 := by omega
  clear h hf hs hv0 hl hm hd
  go_enter Try.func40, Try.ntmps40
  go_wp2_with (go_at_call 38; refine HP.out.mono ?_; rintro e w2 ⟨rfl, h2⟩; have H2 := Lib.hid (pop_any (t := { t with stack := ((j : Int) + 1) :: s }) ((j : Int) + 1) s h2 rfl rfl (by have := HL.out; omega)); clear h2; refine Hid.out ?_)
  refine Lib.hid ?_
  go_wp2_with (go_at_call 38; refine H2.out.mono ?_; rintro e w3 ⟨rfl, h3⟩; have H3 := Lib.hid h3; clear h3; refine Hid.out ?_)
  obtain ⟨q, cm, x0, x1, x2, hq, hr, _, hset⟩ := H3.out.memAt (j := j) (v := v0) HV.out
  have x0' : w3.cell? ⟨rb, 3, none⟩ = some (.slice (some ⟨q, 0, none⟩) m cm) := by rw [HM.out]; exact x0
  have HSET := Lib.hid (hset v HD.out)
  clear x0 hset
  refine Lib.hid ?_
  go_wp2
  go_end0
  exact ⟨rfl, HSET.out⟩

set_option maxRecDepth 100000 in
set_option maxHeartbeats 1600000 in
theorem reckon_ok (op x y : Int) (s : List Int) (h : RunX w0 rb tg fa fo n c rs st ((fb, b) :: gl) pbs W) (hf : st.frames = t :: bl) (hs : t.stack = y :: x :: s) (h7 : 7 ≤ op) (h20 : op ≤ 20) (hy : isW y) (he : doE op y = 0) (hl : s.length + 1 ≤ 1048576) :
    Calls Try.prog 48 #[.pointer (some ⟨rb, 0, none⟩), .pointer (some ⟨fb, 0, none⟩), .int .u8 op] W fun e w' => e = .returned (.tuple #[]) ∧ RunX w0 rb tg fa fo n c rs (st.top { t with stack := doV op x y :: s } bl) ((fb, b) :: gl) pbs w' := by
  have HP := Lib.hid (pop_any y (x :: s) h hf hs hl)
  have HL := Lib.hid hl
  obtain ⟨z, HZ⟩ : ∃ z, Hid (z = doV op x y) := ⟨_, Lib.hid rfl⟩
  have HDO : Hid (∀ W, Calls Try.prog 65 #[.int .u8 op, .int .u64 x, .int .u64 y] W fun e w' => e = .returned (.tuple #[.int .u64 z, .int .i64 0]) ∧ W = w') := Lib.hid fun W => (do_any op x y W h7 h20 hy).mono fun e w' ⟨h1, h2⟩ => ⟨by rw [h1, HZ.out]; unfold wend; rw [he], h2⟩
  clear h hf hs hl h7 h20 hy he
  go_enter Try.func48, Try.ntmps48
  go_wp2_with (go_at_call 38; refine HP.out.mono ?_; rintro e w2 ⟨rfl, h2⟩; have H2 := Lib.hid (pop_any (t := { t with stack := x :: s }) x s h2 rfl rfl (by have := HL.out; omega)); clear h2; refine Hid.out ?_)
  refine Lib.hid ?_
  go_wp2_with (first
    | (go_at_call 38; refine H2.out.mono ?_; rintro e w3 ⟨rfl, h3⟩; have H3 := Lib.hid (push_any (t := { t with stack := s }) z h3 rfl (by have := HL.out; show s.length ≤ _; omega)); clear h3)
    | (go_at_call 65; refine (HDO.out _).mono ?_; rintro e w4 ⟨rfl, rfl⟩)
    | (go_at_call 37; refine H3.out.mono ?_; rintro e w5 ⟨rfl, h5⟩; have H5 := Lib.hid h5; clear h5))
  go_end0
  exact ⟨rfl, by rw [← HZ.out]; exact H5.out⟩

set_option maxRecDepth 100000 in
set_option maxHeartbeats 1600000 in
theorem reckon_zero (op x y : Int) (s : List Int) (h : RunX w0 rb tg fa fo n c rs st ((fb, b) :: gl) pbs W) (hf : st.frames = t :: bl) (hs : t.stack = y :: x :: s) (h7 : 7 ≤ op) (h20 : op ≤ 20) (hy : isW y) (he : doE op y ≠ 0) (hd : st.doing ≠ 3) (hl : s.length + 1 ≤ 1048576) (hp : st.panics.length ≤ 1048576) (hm : st.maxp ≤ 1048577) :
    Calls Try.prog 48 #[.pointer (some ⟨rb, 0, none⟩), .pointer (some ⟨fb, 0, none⟩), .int .u8 op] W fun e w' => e = .returned (.tuple #[]) ∧ ∃ x, RunX w0 rb tg fa fo n c rs ((st.top { t with stack := s } bl).raise byZero) ((fb, b) :: gl) (x :: pbs) w' := by
  have HP := Lib.hid (pop_any y (x :: s) h hf hs hl)
  have HL := Lib.hid hl
  have HD := Lib.hid hd
  have HP1 := Lib.hid hp
  have HM := Lib.hid hm
  have he10 : doE op y = 10 := by unfold doE at he ⊢; split at he <;> simp_all
  obtain ⟨z, HZ⟩ : ∃ z, Hid (z = doV op x y) := ⟨_, Lib.hid rfl⟩
  have HDO : Hid (∀ W, Calls Try.prog 65 #[.int .u8 op, .int .u64 x, .int .u64 y] W fun e w' => e = .returned (.tuple #[.int .u64 z, .int .i64 10]) ∧ W = w') := Lib.hid fun W => (do_any op x y W h7 h20 hy).mono fun e w' ⟨h1, h2⟩ => ⟨by rw [h1, HZ.out]; unfold wend; rw [he10], h2⟩
  clear h hf hs hl h7 h20 hy he hd hp hm he10
  go_enter Try.func48, Try.ntmps48
  go_wp2_with (go_at_call 38; refine HP.out.mono ?_; rintro e w2 ⟨rfl, h2⟩; have H2 := Lib.hid (pop_any (t := { t with stack := x :: s }) x s h2 rfl rfl (by have := HL.out; omega)); clear h2; refine Hid.out ?_)
  refine Lib.hid ?_
  go_wp2_with (first
    | (go_at_call 38; refine H2.out.mono ?_; rintro e w3 ⟨rfl, h3⟩; have H3 := Lib.hid h3; clear h3)
    | (go_at_call 65; refine (HDO.out _).mono ?_; rintro e w4 ⟨rfl, rfl⟩)
    | (go_at_call 44; refine (raise_any 18446744073709551615 H3.out HD.out HP1.out HM.out).mono ?_; rintro e w5 ⟨rfl, x5, h5⟩; have H5 := Lib.hid h5; clear h5))
  exact bodyPost_ret (v := .tuple #[]) (by simp [results, Try.results48, go_sem]) rfl ⟨rfl, x5, H5.out⟩

set_option maxRecDepth 100000 in
set_option maxHeartbeats 1600000 in
theorem ret_some (v : Int) (s : List Int) (r : Raw) (h : RunX w0 rb tg fa fo n c rs st ((fb, b) :: gl) pbs W) (hf : st.frames = t :: bl) (hr : rs[t.f]? = some r) (hres : r.fn.result = true) (hs : t.stack = v :: s) (hd : st.doing ≠ 3) (hl : s.length ≤ 1048576) :
    Calls Try.prog 42 #[.pointer (some ⟨rb, 0, none⟩), .pointer (some ⟨fb, 0, none⟩)] W fun e w' => e = .returned (.tuple #[]) ∧ RunX w0 rb tg fa fo n c rs { st.top { t with stack := s, number := v } bl with doing := 1 } ((fb, b) :: gl) pbs w' := by
  have HP := Lib.hid (pop_any v s h hf hs hl)
  have HD := Lib.hid hd
  obtain ⟨hfb, hrb, c0, _, _, _, _, _⟩ := h.top hf
  obtain ⟨hfa, _, _, x2, _, _, _, _⟩ := h.fn_ hr
  rw [hres] at x2
  clear h hf hr hres hs hd hl
  go_enter Try.func42, Try.ntmps42
  go_wp2_with (go_at_call 38; refine HP.out.mono ?_; rintro e w2 ⟨rfl, h2⟩; have H2 := Lib.hid (h2.setNumber rfl v); obtain ⟨hfb2, hrb2, _, _, _, c5, _, f5⟩ := h2.top rfl; obtain ⟨_, _, _, _, d6, _, _, ff⟩ := h2.cells; have f6 := ff 6; have hne : rb ≠ fb := (by rintro rfl; have h1 := h2.cells.2.1; have h3 := (h2.top rfl).2.2.1; rw [h1] at h3; cases h3); clear h2 ff; refine Hid.out ?_)
  have d6' : (w2.setCell ⟨fb, 5, none⟩ (.int .u64 v)).cell? ⟨rb, 6, none⟩ = some (.int .i64 st.doing) := H2.out.cells.2.2.2.2.1
  have f6' : (w2.setCell ⟨fb, 5, none⟩ (.int .u64 v)).frozen? ⟨rb, 6, none⟩ = false := H2.out.cells.2.2.2.2.2.2.2 6
  have HF := Lib.hid (H2.out.setDoing 1 HD.out (by omega))
  refine Lib.hid ?_
  go_wp2
  go_end0
  exact ⟨rfl, HF.out⟩
set_option maxRecDepth 100000 in
set_option maxHeartbeats 1600000 in
theorem ret_none (r : Raw) (h : RunX w0 rb tg fa fo n c rs st ((fb, b) :: gl) pbs W) (hf : st.frames = t :: bl) (hr : rs[t.f]? = some r) (hres : r.fn.result = false) (hd : st.doing ≠ 3) :
    Calls Try.prog 42 #[.pointer (some ⟨rb, 0, none⟩), .pointer (some ⟨fb, 0, none⟩)] W fun e w' => e = .returned (.tuple #[]) ∧ RunX w0 rb tg fa fo n c rs { st.top t bl with doing := 1 } ((fb, b) :: gl) pbs w' := by
  have HD := Lib.hid hd
  obtain ⟨hfb, hrb, c0, _, _, _, _, _⟩ := h.top hf
  obtain ⟨hfa, _, _, x2, _, _, _, _⟩ := h.fn_ hr
  obtain ⟨_, _, _, _, d6, _, _, ff⟩ := h.cells
  have f6 := ff 6
  rw [hres] at x2
  have HF := Lib.hid (h.setDoing 1 hd (by omega))
  have he : ({ st with doing := 1 } : Mc) = { st.top t bl with doing := 1 } := by unfold Mc.top; rw [← hf]
  rw [he] at HF
  clear h hf hr hres hd ff he
  go_enter Try.func42, Try.ntmps42
  go_wp2
  go_end0
  exact ⟨rfl, HF.out⟩
end
end Go.Proofs.Ytdoabcmfblmklaa

/-
  Package sem: execute, one operation after another; the contract of what it calls is a hypothesis.
-/
namespace Go.Proofs.Ytdoabcmfblmklaa
set_option linter.unusedVariables false
set_option linter.unusedSimpArgs false
open Go.ChangeShapes Go.WideShapes Go.ChangeAt Go.RowKit

section
variable {W : World} {rb fb tg : Nat} {Q Q1 : World → Prop}
set_option maxRecDepth 100000 in
set_option maxHeartbeats 3200000 in
theorem exe_const (a m : Int) (HC : ∀ W', Below W.heap.size W W' → Calls Try.prog 37 #[.pointer (some ⟨fb, 0, none⟩), .int .u64 m] W' fun e w' => e = .returned (.tuple #[]) ∧ Q w') :
    Calls Try.prog 25 #[.pointer (some ⟨rb, 0, none⟩), .pointer (some ⟨fb, 0, none⟩), .agg #[.int .u8 1, .int .i64 a, .int .u64 m]] W fun e w' => e = .returned (.tuple #[]) ∧ Q w' := by
  have HB1 : Hid (∀ o, Below W.heap.size W (W.alloc o)) := Lib.hid fun o => (Below.refl _ _).alloc (Nat.le_refl _) o
  have HP := Lib.hid HC
  clear HC
  go_enter Try.func25, Try.ntmps25
  go_wp2_with (go_at_call 37; refine (HP.out _ (HB1.out _)).mono ?_; rintro e w2 ⟨rfl, h2⟩; have H2 := Lib.hid h2; clear h2)
  go_end0
  exact ⟨rfl, H2.out⟩
set_option maxRecDepth 100000 in
set_option maxHeartbeats 3200000 in
theorem exe_load (a m : Int) (HC : ∀ W', Below W.heap.size W W' → Calls Try.prog 39 #[.pointer (some ⟨rb, 0, none⟩), .pointer (some ⟨fb, 0, none⟩)] W' fun e w' => e = .returned (.tuple #[]) ∧ Q w') :
    Calls Try.prog 25 #[.pointer (some ⟨rb, 0, none⟩), .pointer (some ⟨fb, 0, none⟩), .agg #[.int .u8 5, .int .i64 a, .int .u64 m]] W fun e w' => e = .returned (.tuple #[]) ∧ Q w' := by
  have HB1 : Hid (∀ o, Below W.heap.size W (W.alloc o)) := Lib.hid fun o => (Below.refl _ _).alloc (Nat.le_refl _) o
  have HP := Lib.hid HC
  clear HC
  go_enter Try.func25, Try.ntmps25
  go_wp2_with (go_at_call 39; refine (HP.out _ (HB1.out _)).mono ?_; rintro e w2 ⟨rfl, h2⟩; have H2 := Lib.hid h2; clear h2)
  go_end0
  exact ⟨rfl, H2.out⟩
set_option maxRecDepth 100000 in
set_option maxHeartbeats 3200000 in
theorem exe_store (a m : Int) (HC : ∀ W', Below W.heap.size W W' → Calls Try.prog 40 #[.pointer (some ⟨rb, 0, none⟩), .pointer (some ⟨fb, 0, none⟩)] W' fun e w' => e = .returned (.tuple #[]) ∧ Q w') :
    Calls Try.prog 25 #[.pointer (some ⟨rb, 0, none⟩), .pointer (some ⟨fb, 0, none⟩), .agg #[.int .u8 6, .int .i64 a, .int .u64 m]] W fun e w' => e = .returned (.tuple #[]) ∧ Q w' := by
  have HB1 : Hid (∀ o, Below W.heap.size W (W.alloc o)) := Lib.hid fun o => (Below.refl _ _).alloc (Nat.le_refl _) o
  have HP := Lib.hid HC
  clear HC
  go_enter Try.func25, Try.ntmps25
  go_wp2_with (go_at_call 40; refine (HP.out _ (HB1.out _)).mono ?_; rintro e w2 ⟨rfl, h2⟩; have H2 := Lib.hid h2; clear h2)
  go_end0
  exact ⟨rfl, H2.out⟩
set_option maxRecDepth 100000 in
set_option maxHeartbeats 3200000 in
theorem exe_ret (a m : Int) (HC : ∀ W', Below W.heap.size W W' → Calls Try.prog 42 #[.pointer (some ⟨rb, 0, none⟩), .pointer (some ⟨fb, 0, none⟩)] W' fun e w' => e = .returned (.tuple #[]) ∧ Q w') :
    Calls Try.prog 25 #[.pointer (some ⟨rb, 0, none⟩), .pointer (some ⟨fb, 0, none⟩), .agg #[.int .u8 24, .int .i64 a, .int .u64 m]] W fun e w' => e = .returned (.tuple #[]) ∧ Q w' := by
  have HB1 : Hid (∀ o, Below W.heap.size W (W.alloc o)) := Lib.hid fun o => (Below.refl _ _).alloc (Nat.le_refl _) o
  have HP := Lib.hid HC
  clear HC
  go_enter Try.func25, Try.ntmps25
  go_wp2_with (go_at_call 42; refine (HP.out _ (HB1.out _)).mono ?_; rintro e w2 ⟨rfl, h2⟩; have H2 := Lib.hid h2; clear h2)
  go_end0
  exact ⟨rfl, H2.out⟩
set_option maxRecDepth 100000 in
set_option maxHeartbeats 3200000 in
theorem exe_defer (a m : Int) (HC : ∀ W', Below W.heap.size W W' → Calls Try.prog 43 #[.pointer (some ⟨rb, 0, none⟩), .pointer (some ⟨fb, 0, none⟩), .int .i64 a] W' fun e w' => e = .returned (.tuple #[]) ∧ Q w') :
    Calls Try.prog 25 #[.pointer (some ⟨rb, 0, none⟩), .pointer (some ⟨fb, 0, none⟩), .agg #[.int .u8 25, .int .i64 a, .int .u64 m]] W fun e w' => e = .returned (.tuple #[]) ∧ Q w' := by
  have HB1 : Hid (∀ o, Below W.heap.size W (W.alloc o)) := Lib.hid fun o => (Below.refl _ _).alloc (Nat.le_refl _) o
  have HP := Lib.hid HC
  clear HC
  go_enter Try.func25, Try.ntmps25
  go_wp2_with (go_at_call 43; refine (HP.out _ (HB1.out _)).mono ?_; rintro e w2 ⟨rfl, h2⟩; have H2 := Lib.hid h2; clear h2)
  go_end0
  exact ⟨rfl, H2.out⟩
set_option maxRecDepth 100000 in
set_option maxHeartbeats 3200000 in
theorem exe_recover (a m : Int) (HC : ∀ W', Below W.heap.size W W' → Calls Try.prog 45 #[.pointer (some ⟨rb, 0, none⟩), .pointer (some ⟨fb, 0, none⟩)] W' fun e w' => e = .returned (.tuple #[]) ∧ Q w') :
    Calls Try.prog 25 #[.pointer (some ⟨rb, 0, none⟩), .pointer (some ⟨fb, 0, none⟩), .agg #[.int .u8 27, .int .i64 a, .int .u64 m]] W fun e w' => e = .returned (.tuple #[]) ∧ Q w' := by
  have HB1 : Hid (∀ o, Below W.heap.size W (W.alloc o)) := Lib.hid fun o => (Below.refl _ _).alloc (Nat.le_refl _) o
  have HP := Lib.hid HC
  clear HC
  go_enter Try.func25, Try.ntmps25
  go_wp2_with (go_at_call 45; refine (HP.out _ (HB1.out _)).mono ?_; rintro e w2 ⟨rfl, h2⟩; have H2 := Lib.hid h2; clear h2)
  go_end0
  exact ⟨rfl, H2.out⟩
set_option maxRecDepth 100000 in
set_option maxHeartbeats 3200000 in
theorem exe_drop (a m v : Int) (HC : ∀ W', Below W.heap.size W W' → Calls Try.prog 38 #[.pointer (some ⟨fb, 0, none⟩)] W' fun e w' => e = .returned (.int .u64 v) ∧ Q w') :
    Calls Try.prog 25 #[.pointer (some ⟨rb, 0, none⟩), .pointer (some ⟨fb, 0, none⟩), .agg #[.int .u8 31, .int .i64 a, .int .u64 m]] W fun e w' => e = .returned (.tuple #[]) ∧ Q w' := by
  have HB1 : Hid (∀ o, Below W.heap.size W (W.alloc o)) := Lib.hid fun o => (Below.refl _ _).alloc (Nat.le_refl _) o
  have HP := Lib.hid HC
  clear HC
  go_enter Try.func25, Try.ntmps25
  go_wp2_with (go_at_call 38; refine (HP.out _ (HB1.out _)).mono ?_; rintro e w2 ⟨rfl, h2⟩; have H2 := Lib.hid h2; clear h2)
  go_end0
  exact ⟨rfl, H2.out⟩
set_option maxRecDepth 100000 in
set_option maxHeartbeats 3200000 in
theorem exe_panic (a m v : Int) (HC : ∀ W', Below W.heap.size W W' → Calls Try.prog 38 #[.pointer (some ⟨fb, 0, none⟩)] W' fun e w' => e = .returned (.int .u64 v) ∧ Q1 w')
    (HC2 : ∀ W', Q1 W' → Calls Try.prog 44 #[.pointer (some ⟨rb, 0, none⟩), .int .u64 v] W' fun e w' => e = .returned (.tuple #[]) ∧ Q w') :
    Calls Try.prog 25 #[.pointer (some ⟨rb, 0, none⟩), .pointer (some ⟨fb, 0, none⟩), .agg #[.int .u8 26, .int .i64 a, .int .u64 m]] W fun e w' => e = .returned (.tuple #[]) ∧ Q w' := by
  have HB1 : Hid (∀ o, Below W.heap.size W (W.alloc o)) := Lib.hid fun o => (Below.refl _ _).alloc (Nat.le_refl _) o
  have HP := Lib.hid HC
  have HP2 := Lib.hid HC2
  clear HC HC2
  go_enter Try.func25, Try.ntmps25
  go_wp2_with (first
    | (go_at_call 38; refine (HP.out _ (HB1.out _)).mono ?_; rintro e w2 ⟨rfl, h2⟩; have H2 := Lib.hid h2; clear h2)
    | (go_at_call 44; refine (HP2.out _ H2.out).mono ?_; rintro e w3 ⟨rfl, h3⟩; have H3 := Lib.hid h3; clear h3))
  go_end0
  exact ⟨rfl, H3.out⟩
set_option maxRecDepth 100000 in
set_option maxHeartbeats 3200000 in
theorem exe_exit (a m v : Int) (HC : ∀ W', Below W.heap.size W W' → Calls Try.prog 38 #[.pointer (some ⟨fb, 0, none⟩)] W' fun e w' => e = .returned (.int .u64 v) ∧ Q1 w')
    (HC2 : ∀ W', Q1 W' → Calls Try.prog 17 #[.pointer (some ⟨rb, 0, none⟩), .int .i64 1, .int .u64 v] W' fun e w' => e = .returned (.tuple #[]) ∧ Q w') :
    Calls Try.prog 25 #[.pointer (some ⟨rb, 0, none⟩), .pointer (some ⟨fb, 0, none⟩), .agg #[.int .u8 30, .int .i64 a, .int .u64 m]] W fun e w' => e = .returned (.tuple #[]) ∧ Q w' := by
  have HB1 : Hid (∀ o, Below W.heap.size W (W.alloc o)) := Lib.hid fun o => (Below.refl _ _).alloc (Nat.le_refl _) o
  have HP := Lib.hid HC
  have HP2 := Lib.hid HC2
  clear HC HC2
  go_enter Try.func25, Try.ntmps25
  go_wp2_with (first
    | (go_at_call 38; refine (HP.out _ (HB1.out _)).mono ?_; rintro e w2 ⟨rfl, h2⟩; have H2 := Lib.hid h2; clear h2)
    | (go_at_call 17; refine (HP2.out _ H2.out).mono ?_; rintro e w3 ⟨rfl, h3⟩; have H3 := Lib.hid h3; clear h3))
  go_end0
  exact ⟨rfl, H3.out⟩
end
end Go.Proofs.Ytdoabcmfblmklaa

/-
  Package sem: pop, and what it leaves alone.
-/
namespace Go.Proofs.Ytdoabcmfblmklaa
set_option linter.unusedVariables false
set_option linter.unusedSimpArgs false
open Go.ChangeShapes Go.WideShapes Go.ChangeAt Go.RowKit

section
variable {w0 W W' w8 W1 : World} {ow ow' : Nat → Nat} {rb tg fa fo n c : Nat} {rs : List Raw} {st : Mc} {t : Fr} {bl : List Fr} {gl : List (Nat × Nat)} {pbs : List Nat} {fb b : Nat}
set_option maxRecDepth 100000 in
set_option maxHeartbeats 1600000 in
theorem pop_far (v : Int) (s : List Int) (h : RunX w0 rb tg fa fo n c rs st ((fb, b) :: gl) pbs W) (hf : st.frames = t :: bl) (hs : t.stack = v :: s) (hl : s.length ≤ 1048576) :
    Calls Try.prog 38 #[.pointer (some ⟨fb, 0, none⟩)] W fun e w' => e = .returned (.int .u64 v) ∧ RunX w0 rb tg fa fo n c rs (st.top { t with stack := s } bl) ((fb, b) :: gl) pbs w' ∧ w'.heap.size = W.heap.size ∧ (∀ g i, g ≠ fb → w'.cell? ⟨g, i, none⟩ = W.cell? ⟨g, i, none⟩) := by
  obtain ⟨g, ow, fg, gs, hR, hg, rfl, rfl, hgl, hpb, hF⟩ := h.open_ hf
  obtain ⟨m, hm⟩ : ∃ m, m = s.length := ⟨_, rfl⟩
  rw [← hm] at hl
  have hlen : t.stack.length = m + 1 := by rw [hs, hm]; rfl
  have hat : t.stack.reverse[m]? = some v := by rw [hs, List.reverse_cons, List.getElem?_append_right (by simp [hm])]; simp [hm]
  obtain ⟨p, cp, hp, hp0, hpz, x0, hfz⟩ := hF.stk.at_ hat
  have hB := hF.blk
  obtain ⟨q, hq⟩ : ∃ q, q = fg.fb := ⟨_, rfl⟩
  have c3 : W.cell? ⟨q, 3, none⟩ = some (.slice (some ⟨p, 0, none⟩) (m + 1) cp) := by rw [hq, hB.blk.cell, ← hlen, ← hp]; exact frC_3
  have f3 : W.frozen? ⟨q, 3, none⟩ = false := by rw [hq]; exact hB.blk.frozen 3
  have hmc : m + 1 ≤ cp := by have h1 := hF.stk.own; rw [hp, hlen] at h1; exact own_cap h1
  have HX : Hid (RunX w0 rb tg fa fo n c rs (st.top { t with stack := s } bl) ((fg.fb, fg.by_) :: gl) pbs (W.setCell ⟨q, 3, none⟩ (.slice (some ⟨p, 0, none⟩) m cp))) := Lib.hid (by
    have hO := hF.stk
    rw [hp, hlen] at hO
    obtain ⟨hB8, hO8, hkr⟩ := cut_set (k := m) hB hO (by omega) (by omega) 3
    have hO9 : OR (W.setCell ⟨fg.fb, 3, none⟩ (.slice (some ⟨p, 0, none⟩) m cp)) ow w0.heap.size (3 * bl.length + 12) 30 1 (.slice (some ⟨p, 0, none⟩) m cp) s.length (u64c s.reverse) := by
      have e2 : (u64c t.stack.reverse).take (m * 1) = u64c s.reverse := by rw [u64c_take, hs, List.reverse_cons, List.take_left' (by simp [hm])]
      rw [← e2, ← hm]; exact hO8
    rw [hq]
    refine RunX.close_ (fg := { fg with sv := .slice (some ⟨p, 0, none⟩) m cp }) (hR.top_ hf hg hkr (fun x hx => by have : x = _ := hx; omega) (hF.stk_ hkr (fun x hx => .inl hx) hB8 hO9) rfl rfl) rfl rfl hgl hpb)
  have hqz : q < W.heap.size := by rw [hq]; exact hB.blk.lt
  rw [← hq]
  rw [← hq] at HX
  have hm1 : ((m : Int) + 1) - 1 = (m : Int) := by omega
  have hm0 : (0 : Int) ≤ (m : Int) := by omega
  have hmm : (m : Int) < (m : Int) + 1 := by omega
  have hmn : m < m + 1 := by omega
  have hmk : m ≤ cp := by omega
  clear h hR hF hf hg hgl hpb hm hq hB hat hp hs hlen
  go_enter Try.func38, Try.ntmps38
  go_wp2
  go_ret
  exact ⟨rfl, HX.out, by simp [World.setCell], fun g i hg => World.cell?_setCell_other W ⟨q, 3, none⟩ ⟨g, i, none⟩ _ (by simp; try (intro h; exact absurd h hg))⟩
end
end Go.Proofs.Ytdoabcmfblmklaa

/-
  Package sem: execute, one operation after another: what jumps, and what reckons.
-/
namespace Go.Proofs.Ytdoabcmfblmklaa
set_option linter.unusedVariables false
set_option linter.unusedSimpArgs false
open Go.ChangeShapes Go.WideShapes Go.ChangeAt Go.RowKit

section
variable {W : World} {rb fb tg : Nat} {Q Q1 : World → Prop} {u : Value}
set_option maxRecDepth 100000 in
set_option maxHeartbeats 3200000 in
theorem exe_jump (a m : Int) (hz : fb < W.heap.size) (c1 : W.cell? ⟨fb, 1, none⟩ = some u) (f1 : W.frozen? ⟨fb, 1, none⟩ = false) (HQ : ∀ o, Q ((W.setCell ⟨fb, 1, none⟩ (.int .i64 a)).alloc o)) :
    Calls Try.prog 25 #[.pointer (some ⟨rb, 0, none⟩), .pointer (some ⟨fb, 0, none⟩), .agg #[.int .u8 21, .int .i64 a, .int .u64 m]] W fun e w' => e = .returned (.tuple #[]) ∧ Q w' := by
  have HF := Lib.hid HQ
  clear HQ
  go_enter Try.func25, Try.ntmps25
  go_wp2
  go_end0
  exact ⟨rfl, HF.out _⟩
set_option maxRecDepth 100000 in
set_option maxHeartbeats 3200000 in
theorem exe_zero_yes (a m v : Int) (HC : ∀ W', Below W.heap.size W W' → Calls Try.prog 38 #[.pointer (some ⟨fb, 0, none⟩)] W' fun e w' => e = .returned (.int .u64 v) ∧ Q1 w' ∧ w'.heap.size = W'.heap.size ∧ (∀ g i, g ≠ fb → w'.cell? ⟨g, i, none⟩ = W'.cell? ⟨g, i, none⟩)) (hv : v = 0) (hz : fb < W.heap.size)
    (HC2 : ∀ W', Q1 W' → fb < W'.heap.size ∧ (∃ u, W'.cell? ⟨fb, 1, none⟩ = some u) ∧ W'.frozen? ⟨fb, 1, none⟩ = false ∧ Q (W'.setCell ⟨fb, 1, none⟩ (.int .i64 a))) :
    Calls Try.prog 25 #[.pointer (some ⟨rb, 0, none⟩), .pointer (some ⟨fb, 0, none⟩), .agg #[.int .u8 22, .int .i64 a, .int .u64 m]] W fun e w' => e = .returned (.tuple #[]) ∧ Q w' := by
  have HB1 : Hid (∀ o, Below W.heap.size W (W.alloc o)) := Lib.hid fun o => (Below.refl _ _).alloc (Nat.le_refl _) o
  have HP := Lib.hid HC
  have HP2 := Lib.hid HC2
  subst hv
  clear HC HC2
  go_enter Try.func25, Try.ntmps25
  go_wp2_with (go_at_call 38; refine (HP.out _ (HB1.out _)).mono ?_; rintro e w2 ⟨rfl, h2, hsz, hfar⟩; have hp2 : W.heap.size < w2.heap.size := (by rw [hsz]; simp); have y1 := (hfar W.heap.size 1 (by omega)).trans ((Blk.new W 43 #[.int .u8 22, .int .i64 a, .int .u64 m]).cell 1); obtain ⟨z2, ⟨u2, c2⟩, f2, q2⟩ := HP2.out _ h2; have H2 := Lib.hid q2; clear h2 q2 hsz hfar)
  go_end0
  exact ⟨rfl, H2.out⟩
set_option maxRecDepth 100000 in
set_option maxHeartbeats 3200000 in
theorem exe_zero_no (a m v : Int) (HC : ∀ W', Below W.heap.size W W' → Calls Try.prog 38 #[.pointer (some ⟨fb, 0, none⟩)] W' fun e w' => e = .returned (.int .u64 v) ∧ Q w') (hv : v ≠ 0) :
    Calls Try.prog 25 #[.pointer (some ⟨rb, 0, none⟩), .pointer (some ⟨fb, 0, none⟩), .agg #[.int .u8 22, .int .i64 a, .int .u64 m]] W fun e w' => e = .returned (.tuple #[]) ∧ Q w' := by
  have HB1 : Hid (∀ o, Below W.heap.size W (W.alloc o)) := Lib.hid fun o => (Below.refl _ _).alloc (Nat.le_refl _) o
  have HP := Lib.hid HC
  have hv0 : (v == 0) = false := by simp; exact hv
  clear HC hv
  go_enter Try.func25, Try.ntmps25
  go_wp2_with (go_at_call 38; refine (HP.out _ (HB1.out _)).mono ?_; rintro e w2 ⟨rfl, h2⟩; have H2 := Lib.hid h2; clear h2)
  go_end0
  exact ⟨rfl, H2.out⟩
set_option maxRecDepth 100000 in
set_option maxHeartbeats 3200000 in
theorem exe_reckon (op a m : Int) (h7 : 7 ≤ op) (h20 : op ≤ 20) (HC : ∀ W', Below W.heap.size W W' → Calls Try.prog 48 #[.pointer (some ⟨rb, 0, none⟩), .pointer (some ⟨fb, 0, none⟩), .int .u8 op] W' fun e w' => e = .returned (.tuple #[]) ∧ Q w') :
    Calls Try.prog 25 #[.pointer (some ⟨rb, 0, none⟩), .pointer (some ⟨fb, 0, none⟩), .agg #[.int .u8 op, .int .i64 a, .int .u64 m]] W fun e w' => e = .returned (.tuple #[]) ∧ Q w' := by
  have HB1 : Hid (∀ o, Below W.heap.size W (W.alloc o)) := Lib.hid fun o => (Below.refl _ _).alloc (Nat.le_refl _) o
  have HP := Lib.hid HC
  have n1 : (op == 1) = false := by simp; omega
  have n2 : (op == 2) = false := by simp; omega
  have n3 : (op == 3) = false := by simp; omega
  have n4 : (op == 4) = false := by simp; omega
  have n5 : (op == 5) = false := by simp; omega
  have n6 : (op == 6) = false := by simp; omega
  have n21 : (op == 21) = false := by simp; omega
  have n22 : (op == 22) = false := by simp; omega
  have n23 : (op == 23) = false := by simp; omega
  have n24 : (op == 24) = false := by simp; omega
  have n25 : (op == 25) = false := by simp; omega
  have n26 : (op == 26) = false := by simp; omega
  have n27 : (op == 27) = false := by simp; omega
  have n28 : (op == 28) = false := by simp; omega
  have n29 : (op == 29) = false := by simp; omega
  have n30 : (op == 30) = false := by simp; omega
  have n31 : (op == 31) = false := by simp; omega
  have n32 : (op == 32) = false := by simp; omega
  clear HC h7 h20
  go_enter Try.func25, Try.ntmps25
  go_wp2_with (go_at_call 48; refine (HP.out _ (HB1.out _)).mono ?_; rintro e w2 ⟨rfl, h2⟩; have H2 := Lib.hid h2; clear h2)
  go_end0
  exact ⟨rfl, H2.out⟩
end
end Go.Proofs.Ytdoabcmfblmklaa

/-
  Package sem: execute, one operation after another: the tape, the trace, the stack's top, addresses.
-/
namespace Go.Proofs.Ytdoabcmfblmklaa
set_option linter.unusedVariables false
set_option linter.unusedSimpArgs false
open Go.ChangeShapes Go.WideShapes Go.ChangeAt Go.RowKit

section
variable {W : World} {rb fb tg : Nat} {Q Q1 : World → Prop} {u : Value}
set_option maxRecDepth 100000 in
set_option maxHeartbeats 3200000 in
theorem exe_in (a m v : Int) (hz : rb < W.heap.size) (c1 : W.cell? ⟨rb, 1, none⟩ = some (.pointer (some ⟨tg, 0, none⟩))) (HC : ∀ W', Below W.heap.size W W' → Calls Try.prog 46 #[.pointer (some ⟨tg, 0, none⟩)] W' fun e w' => e = .returned (.int .u64 v) ∧ Q1 w') (HC2 : ∀ W', Q1 W' → Calls Try.prog 37 #[.pointer (some ⟨fb, 0, none⟩), .int .u64 v] W' fun e w' => e = .returned (.tuple #[]) ∧ Q w') :
    Calls Try.prog 25 #[.pointer (some ⟨rb, 0, none⟩), .pointer (some ⟨fb, 0, none⟩), .agg #[.int .u8 28, .int .i64 a, .int .u64 m]] W fun e w' => e = .returned (.tuple #[]) ∧ Q w' := by
  have HB1 : Hid (∀ o, Below W.heap.size W (W.alloc o)) := Lib.hid fun o => (Below.refl _ _).alloc (Nat.le_refl _) o
  have HP := Lib.hid HC
  have HP2 := Lib.hid HC2
  clear HC HC2
  go_enter Try.func25, Try.ntmps25
  go_wp2_with (first
    | (go_at_call 46; refine (HP.out _ (HB1.out _)).mono ?_; rintro e w2 ⟨rfl, h2⟩; have H2 := Lib.hid h2; clear h2)
    | (go_at_call 37; refine (HP2.out _ H2.out).mono ?_; rintro e w3 ⟨rfl, h3⟩; have H3 := Lib.hid h3; clear h3))
  go_end0
  exact ⟨rfl, H3.out⟩
set_option maxRecDepth 100000 in
set_option maxHeartbeats 3200000 in
theorem exe_dup (a m v : Int) (q k cq : Nat) (hz : fb < W.heap.size) (hq : q < W.heap.size) (hk : k ≤ 1048577) (hkc : k + 1 ≤ cq) (c3 : W.cell? ⟨fb, 3, none⟩ = some (.slice (some ⟨q, 0, none⟩) (k + 1) cq)) (x0 : W.cell? ⟨q, k, none⟩ = some (.int .u64 v)) (HC : ∀ W', Below W.heap.size W W' → Calls Try.prog 37 #[.pointer (some ⟨fb, 0, none⟩), .int .u64 v] W' fun e w' => e = .returned (.tuple #[]) ∧ Q w') :
    Calls Try.prog 25 #[.pointer (some ⟨rb, 0, none⟩), .pointer (some ⟨fb, 0, none⟩), .agg #[.int .u8 32, .int .i64 a, .int .u64 m]] W fun e w' => e = .returned (.tuple #[]) ∧ Q w' := by
  have HB1 : Hid (∀ o, Below W.heap.size W (W.alloc o)) := Lib.hid fun o => (Below.refl _ _).alloc (Nat.le_refl _) o
  have HP := Lib.hid HC
  have hm1 : ((k : Int) + 1) - 1 = (k : Int) := by omega
  have hm0 : (0 : Int) ≤ (k : Int) := by omega
  have hmm : (k : Int) < (k : Int) + 1 := by omega
  have hmn : k < k + 1 := by omega
  have hwk : ∀ z : Int, z = (k : Int) → IntKind.i64.wrap z = z := fun z hz => by subst hz; exact IntWalk.i64_in _ (by omega)
  clear HC
  go_enter Try.func25, Try.ntmps25
  go_wp2
  go_region_law (go_simp; go_at_call 37; refine (HP.out _ (by first | exact HB1.out _ | exact (HB1.out _).drew)).mono ?_; rintro e w2 ⟨rfl, h2⟩; have H2 := Lib.hid h2; clear h2)
  all_goals
    go_wp2
  all_goals
    go_end0
    exact ⟨rfl, H2.out⟩
set_option maxRecDepth 100000 in
set_option maxHeartbeats 3200000 in
theorem exe_get (m v : Int) (q mm cq bs j x : Nat) (hz : fb < W.heap.size) (hrz : rb < W.heap.size) (hq : q < W.heap.size) (hm : mm ≤ 1000000000) (hx : x = bs + j) (hxm : x < mm) (c2 : W.cell? ⟨fb, 2, none⟩ = some (.int .i64 bs)) (c3 : W.cell? ⟨rb, 3, none⟩ = some (.slice (some ⟨q, 0, none⟩) mm cq)) (x0 : W.cell? ⟨q, x, none⟩ = some (.int .u64 v)) (HC : ∀ W', Below W.heap.size W W' → Calls Try.prog 37 #[.pointer (some ⟨fb, 0, none⟩), .int .u64 v] W' fun e w' => e = .returned (.tuple #[]) ∧ Q w') :
    Calls Try.prog 25 #[.pointer (some ⟨rb, 0, none⟩), .pointer (some ⟨fb, 0, none⟩), .agg #[.int .u8 2, .int .i64 j, .int .u64 m]] W fun e w' => e = .returned (.tuple #[]) ∧ Q w' := by
  have HB1 : Hid (∀ o, Below W.heap.size W (W.alloc o)) := Lib.hid fun o => (Below.refl _ _).alloc (Nat.le_refl _) o
  have HP := Lib.hid HC
  have hbj : ((bs : Int) + (j : Int)) = (x : Int) := by omega
  have hb1 : x ≤ 1000000000 := by omega
  have hwx : ∀ z : Int, z = (x : Int) → IntKind.i64.wrap z = z := fun z hz => by subst hz; exact IntWalk.i64_in _ (by omega)
  clear HC hx
  go_enter Try.func25, Try.ntmps25
  go_wp2
  go_region_law (go_simp; go_at_call 37; refine (HP.out _ (by first | exact HB1.out _ | exact (HB1.out _).drew)).mono ?_; rintro e w2 ⟨rfl, h2⟩; have H2 := Lib.hid h2; clear h2)
  all_goals
    go_wp2
  all_goals
    go_end0
    exact ⟨rfl, H2.out⟩
end
end Go.Proofs.Ytdoabcmfblmklaa

/-
  Package sem: execute, one operation after another: addresses, and what is told.
-/
namespace Go.Proofs.Ytdoabcmfblmklaa
set_option linter.unusedVariables false
set_option linter.unusedSimpArgs false
open Go.ChangeShapes Go.WideShapes Go.ChangeAt Go.RowKit

section
variable {W : World} {rb fb tg : Nat} {Q Q1 : World → Prop} {u : Value}
set_option maxRecDepth 100000 in
set_option maxHeartbeats 3200000 in
theorem exe_addr (m : Int) (bs j x : Nat) (hz : fb < W.heap.size) (hm : x ≤ 1000000000) (hx : x = bs + j) (c2 : W.cell? ⟨fb, 2, none⟩ = some (.int .i64 bs)) (HC : ∀ W', Below W.heap.size W W' → Calls Try.prog 37 #[.pointer (some ⟨fb, 0, none⟩), .int .u64 ((x : Int) + 1)] W' fun e w' => e = .returned (.tuple #[]) ∧ Q w') :
    Calls Try.prog 25 #[.pointer (some ⟨rb, 0, none⟩), .pointer (some ⟨fb, 0, none⟩), .agg #[.int .u8 4, .int .i64 j, .int .u64 m]] W fun e w' => e = .returned (.tuple #[]) ∧ Q w' := by
  have HB1 : Hid (∀ o, Below W.heap.size W (W.alloc o)) := Lib.hid fun o => (Below.refl _ _).alloc (Nat.le_refl _) o
  have HP := Lib.hid HC
  have hbj : ((bs : Int) + (j : Int)) = (x : Int) := by omega
  have hwx : ∀ z : Int, z = (x : Int) → IntKind.i64.wrap z = z := fun z hz => by subst hz; exact IntWalk.i64_in _ (by omega)
  have hwu : ∀ z : Int, z = (x : Int) → IntKind.u64.wrap z = z := fun z hz => by subst hz; rw [IntKind.wrap_u64]; omega
  have hwv : ∀ z : Int, z = (x : Int) → IntKind.u64.wrap (z + 1) = z + 1 := fun z hz => by subst hz; rw [IntKind.wrap_u64]; omega
  clear HC hx
  go_enter Try.func25, Try.ntmps25
  go_wp2
  go_region_law (go_simp; go_at_call 37; refine (HP.out _ (by first | exact HB1.out _ | exact (HB1.out _).drew)).mono ?_; rintro e w2 ⟨rfl, h2⟩; have H2 := Lib.hid h2; clear h2)
  all_goals
    go_wp2
  all_goals
    go_end0
    exact ⟨rfl, H2.out⟩
set_option maxRecDepth 100000 in
set_option maxHeartbeats 3200000 in
theorem exe_out (a m v : Int) (hz : rb < W.heap.size) (c1 : W.cell? ⟨rb, 1, none⟩ = some (.pointer (some ⟨tg, 0, none⟩))) (HC : ∀ W', Below W.heap.size W W' → Calls Try.prog 38 #[.pointer (some ⟨fb, 0, none⟩)] W' fun e w' => e = .returned (.int .u64 v) ∧ Q1 w' ∧ rb < w'.heap.size ∧ w'.cell? ⟨rb, 1, none⟩ = some (.pointer (some ⟨tg, 0, none⟩))) (HC2 : ∀ W', Q1 W' → Calls Try.prog 47 #[.pointer (some ⟨tg, 0, none⟩), .int .u64 v] W' fun e w' => e = .returned (.tuple #[]) ∧ Q w') :
    Calls Try.prog 25 #[.pointer (some ⟨rb, 0, none⟩), .pointer (some ⟨fb, 0, none⟩), .agg #[.int .u8 29, .int .i64 a, .int .u64 m]] W fun e w' => e = .returned (.tuple #[]) ∧ Q w' := by
  have HB1 : Hid (∀ o, Below W.heap.size W (W.alloc o)) := Lib.hid fun o => (Below.refl _ _).alloc (Nat.le_refl _) o
  have HP := Lib.hid HC
  have HP2 := Lib.hid HC2
  clear HC HC2
  go_enter Try.func25, Try.ntmps25
  go_wp2
  go_region_law (first
    | (go_simp; go_at_call 38; refine (HP.out _ (by first | exact HB1.out _ | exact (HB1.out _).drew)).mono ?_; rintro e w2 ⟨rfl, h2, z2, y2⟩; have H2 := Lib.hid h2; clear h2)
    | (go_simp; go_at_call 47; refine (HP2.out _ (by exact H2.out)).mono ?_; rintro e w3 ⟨rfl, h3⟩; have H3 := Lib.hid h3; clear h3))
  all_goals
    go_wp2
  all_goals
    go_end0
    exact ⟨rfl, H3.out⟩
end
end Go.Proofs.Ytdoabcmfblmklaa

/-
  Package sem: execute, one operation after another: a local is set.
-/
namespace Go.Proofs.Ytdoabcmfblmklaa
set_option linter.unusedVariables false
set_option linter.unusedSimpArgs false
open Go.ChangeShapes Go.WideShapes Go.ChangeAt Go.RowKit

section
variable {W : World} {rb fb tg : Nat} {Q Q1 : World → Prop} {u : Value}
set_option maxRecDepth 100000 in
set_option maxHeartbeats 3200000 in
theorem exe_set (m v : Int) (q mm cq bs j x : Nat) (u0 : Value) (hz : fb < W.heap.size) (hrz : rb < W.heap.size) (hq : q < W.heap.size) (hm : mm ≤ 1000000000) (hx : x = bs + j) (hxm : x < mm) (c2 : W.cell? ⟨fb, 2, none⟩ = some (.int .i64 bs)) (c3 : W.cell? ⟨rb, 3, none⟩ = some (.slice (some ⟨q, 0, none⟩) mm cq))
    (HC : ∀ W', Below W.heap.size W W' → Calls Try.prog 38 #[.pointer (some ⟨fb, 0, none⟩)] W' fun e w' => e = .returned (.int .u64 v) ∧ w'.heap.size = W'.heap.size ∧ (∀ g i, g ≠ fb → w'.cell? ⟨g, i, none⟩ = W'.cell? ⟨g, i, none⟩) ∧ w'.cell? ⟨fb, 2, none⟩ = some (.int .i64 bs) ∧ w'.cell? ⟨rb, 3, none⟩ = some (.slice (some ⟨q, 0, none⟩) mm cq) ∧ w'.cell? ⟨q, x, none⟩ = some u0 ∧ w'.frozen? ⟨q, x, none⟩ = false ∧ Q (w'.setCell ⟨q, x, none⟩ (.int .u64 v)) ∧ Q (w'.drew.setCell ⟨q, x, none⟩ (.int .u64 v))) :
    Calls Try.prog 25 #[.pointer (some ⟨rb, 0, none⟩), .pointer (some ⟨fb, 0, none⟩), .agg #[.int .u8 3, .int .i64 j, .int .u64 m]] W fun e w' => e = .returned (.tuple #[]) ∧ Q w' := by
  have HB1 : Hid (∀ o, Below W.heap.size W (W.alloc o)) := Lib.hid fun o => (Below.refl _ _).alloc (Nat.le_refl _) o
  have HP := Lib.hid HC
  have hbj : ((bs : Int) + (j : Int)) = (x : Int) := by omega
  have hwx : ∀ z : Int, z = (x : Int) → IntKind.i64.wrap z = z := fun z hz => by subst hz; exact IntWalk.i64_in _ (by omega)
  have HN := Lib.hid (Blk.new W 43 #[.int .u8 3, .int .i64 j, .int .u64 m])
  clear HC hx
  go_enter Try.func25, Try.ntmps25
  go_wp2
  go_region_law (go_simp; go_at_call 38; refine (HP.out _ (by first | exact HB1.out _ | exact (HB1.out _).drew)).mono ?_; rintro e w2 ⟨rfl, hsz, hfar, d2, d3, d4, g4, hQ, hQ2⟩; have z2 : W.heap.size < w2.heap.size := (by rw [hsz]; simp); have y1 : w2.cell? ⟨W.heap.size, 1, none⟩ = some (.int .i64 j) := (hfar W.heap.size 1 (by omega)).trans (HN.out.cell 1); have hq2 : q < w2.heap.size := (by omega); have hr2 : rb < w2.heap.size := (by omega); have hf2 : fb < w2.heap.size := (by omega); have H2 := Lib.hid hQ; clear hsz hfar hQ hQ2)
  all_goals
    go_wp2
  all_goals
    go_end0
    exact ⟨rfl, H2.out⟩
end
end Go.Proofs.Ytdoabcmfblmklaa
