/-
  Texts of one seat, one behind the other: IEnds, IEndd, IDel, IPass, IStep.
-/
import Derived.RegionTactic
import Derived.Deep.RegionLaw
import Derived.Lib.SliceRun
import Derived.LoopTactic
import Derived.Deep.LoopGhost
import Derived.Test.YtlnccpojldiogaaMBc
import Derived.Test.YtlnccpojldiogaaMBd
import Derived.Test.YtlnccpojldiogaaMBb

/-
  Package irun: what follows where a frame has ended.
-/
namespace Go.Proofs.Ytlnccpojldiogaa
set_option linter.unusedVariables false
set_option linter.unusedSimpArgs false
open Go.ChangeShapes Go.WideShapes Go.ChangeAt Go.RowKit

section
variable {w0 W W' : World} {ow ow' : Nat → Nat} {ex : Nat → Prop} {bd : Bool} {base rb tg fa fo rgb n c k : Nat} {rs : List RG} {st st' st2 : IMc} {g g' : IRG} {t t' u : IFr} {bl : List IFr} {gl : List Nat} {fb b o fz : Nat} {r : RG} {p x : Int}
/-- the last panic is taken from the row -/
theorem IRunX.cutPans {p : Int × Bool} {ps : List (Int × Bool)} (h : IRunX w0 bd rb tg fa fo n c rs st gl rgb W) (hp : st.panics = p :: ps) (hd : st.doing ≠ 3) :
    ∃ q cq, W.cell? ⟨rb, 5, none⟩ = some (.slice (some ⟨q, 0, none⟩) (ps.length + 1) cq) ∧ ps.length + 1 ≤ cq ∧ W.frozen? ⟨rb, 5, none⟩ = false ∧ rb < W.heap.size ∧ IRunX w0 bd rb tg fa fo n c rs { st with panics := ps } gl rgb (W.setCell ⟨rb, 5, none⟩ (.slice (some ⟨q, 0, none⟩) ps.length cq)) := by
  obtain ⟨g, ow, hR, hg, hpb⟩ := h
  have h4 := hR.pan
  rw [hp] at h4
  obtain ⟨q, cq, hq⟩ := h4.form8 (by simp)
  rw [hq] at h4
  simp only [List.length_cons] at h4 hq
  rw [ipnc_cons] at h4
  have hl := length_ipnc ps
  obtain ⟨_, _, _, _, e5, _, _⟩ := h4.cell2 (i := ps.length * 2) (u := .int .u64 p.1) (by rw [List.getElem?_append_right (by omega)]; simp [hl]) (.bool true)
  obtain ⟨hB8, hO8, hkr⟩ := cut_set (k := ps.length) hR.run h4 (by omega) (by omega) 5
  have htk : (ipnc ps ++ [Value.int .u64 p.1, .bool p.2]).take (ps.length * 2) = ipnc ps := by
    rw [List.take_append_of_le_length (by omega), List.take_of_length_le (by omega)]
  rw [htk] at hO8
  refine ⟨q, cq, ?_, e5, hR.run.blk.frozen 5, hR.run.blk.lt, ?_⟩
  · rw [hR.run.blk.cell]
    show some g.pv = _
    rw [hq]
  · exact ⟨{ g with pv := .slice (some ⟨q, 0, none⟩) ps.length cq }, ow, hR.part (st' := { st with panics := ps }) (g' := { g with pv := .slice (some ⟨q, 0, none⟩) ps.length cq }) hkr (ne1 (by omega)) hB8 (hR.frs.kr hkr (ne1 (by omega))) (hR.frames.kr hkr (ne1 (by omega)) fun x h1 h2 => ne1 (by omega)) (fun hb => ⟨(hR.regs hb).1.kr hkr (ne1 (by omega)), (hR.regs hb).2⟩) hO8 (hR.tr.kr hkr (ne1 (by omega)) (ne1 (by omega)) (ne1 (by omega))) (fun _ => hR.res hd) (fun h3 => absurd h3 hd), hg, hpb⟩
set_option maxRecDepth 100000 in
set_option maxHeartbeats 1600000 in
theorem returned_no (v : Int) (ps : List (Int × Bool)) (h : IRunX w0 bd rb tg fa fo n c rs st gl rgb W) (hp : st.panics = (v, false) :: ps) (hd : st.doing ≠ 3) (hl : ps.length ≤ 1048577) :
    Calls Try.prog 125 #[.pointer (some ⟨rb, 0, none⟩)] W fun e w' => e = .returned (.tuple #[]) ∧ IRunX w0 bd rb tg fa fo n c rs { st with doing := 2 } gl rgb w' := by
  obtain ⟨q, cq, x5, xv, xr, xf, hqz, hrz, hcq, _⟩ := h.actv hp hd
  obtain ⟨m, hm⟩ : ∃ m, m = ps.length := ⟨_, rfl⟩
  rw [← hm] at x5 xv xr xf hcq hl
  have HA := Lib.hid (active_any (v := 0) (rc := true) (ps := []) (W := W) (rb := rb) hl x5 hqz hrz hcq)
  have HF : Hid (∀ k, IRunX w0 bd rb tg fa fo n c rs { st with doing := 2 } gl rgb ((W.drewN k).setCell ⟨rb, 7, none⟩ (.int .i64 2))) := Lib.hid fun k => (h.on (below_drewN' (Below.refl _ _) k)).setDoing hd 2 (by decide)
  obtain ⟨_, d7, _, _, f7⟩ : rb < W.heap.size ∧ W.cell? ⟨rb, 7, none⟩ = some (.int .i64 st.doing) ∧ True ∧ True ∧ W.frozen? ⟨rb, 7, none⟩ = false := by
    obtain ⟨g, ow, hR, _⟩ := h
    exact ⟨hR.run.blk.lt, hR.run.blk.cell 7, trivial, trivial, hR.run.blk.frozen 7⟩
  clear h hp hd hm
  go_enter Try.func125, Try.ntmps125
  go_wp2_with (go_at_call 123; refine HA.out.mono ?_; rintro e w2 ⟨rfl, kq, rfl⟩)
  first
    | go_end0
    | refine bodyPost_ret (v := .tuple #[]) (by simp [results, Try.results125]) rfl ?_
  exact ⟨rfl, HF.out _⟩
set_option maxRecDepth 100000 in
set_option maxHeartbeats 3200000 in
theorem returned_yes (v : Int) (ps : List (Int × Bool)) (h : IRunX w0 bd rb tg fa fo n c rs st (fb :: gl) rgb W) (hf : st.frames = t :: bl) (h0 : st.hidn = 0) (hr : rs[t.f]? = some r) (hp : st.panics = (v, true) :: ps) (hd : st.doing ≠ 3) (hl : ps.length ≤ 1048577) (hs : bl.length ≤ 1048577) :
    Calls Try.prog 125 #[.pointer (some ⟨rb, 0, none⟩)] W fun e w' => e = .returned (.tuple #[]) ∧ IRunX w0 bd rb tg fa fo n c rs { st with panics := ps, frames := { t with number := keptI (grs rs) t } :: bl } (fb :: gl) rgb w' := by
  obtain ⟨q, cq, x5, xv, xr, xf, hqz, hrz, hcq, _⟩ := h.actv hp hd
  obtain ⟨m, hm⟩ : ∃ m, m = ps.length := ⟨_, rfl⟩
  have hm1 : ((m : Int) + 1) - 1 = (m : Int) := by omega
  have HC : Hid (∀ k, ∃ q cq, (W.drewN k).cell? ⟨rb, 5, none⟩ = some (.slice (some ⟨q, 0, none⟩) (m + 1) cq) ∧ m + 1 ≤ cq ∧ (W.drewN k).frozen? ⟨rb, 5, none⟩ = false ∧ rb < (W.drewN k).heap.size ∧ Hid (IRunX w0 bd rb tg fa fo n c rs { st with panics := ps } (fb :: gl) rgb ((W.drewN k).setCell ⟨rb, 5, none⟩ (.slice (some ⟨q, 0, none⟩) m cq)))) := Lib.hid fun k => by
    obtain ⟨q, cq, a1, a2, a3, a4, a5⟩ := (h.on (below_drewN' (Below.refl _ _) k)).cutPans hp hd
    rw [← hm] at a1 a2 a5
    exact ⟨q, cq, a1, a2, a3, a4, Lib.hid a5⟩
  rw [← hm] at x5 xv xr xf hcq hl
  have HA := Lib.hid (active_any (v := 0) (rc := true) (ps := []) (W := W) (rb := rb) hl x5 hqz hrz hcq)
  have HLA : Hid (∀ W', IRunX w0 bd rb tg fa fo n c rs { st with panics := ps } (fb :: gl) rgb W' → Calls Try.prog 45 #[.pointer (some ⟨rb, 0, none⟩)] W' fun e w' => e = .returned (.iface (ifrP bd) (.pointer (some ⟨fb, 0, none⟩))) ∧ IRunX w0 bd rb tg fa fo n c rs { st with panics := ps } (fb :: gl) rgb w') := Lib.hid fun W' h' => (last_any h' hf h0 hs).mono fun e w' hw => ⟨hw.1, h'.on hw.2⟩
  obtain ⟨kv, hkv⟩ : ∃ kv, kv = keptI (grs rs) t := ⟨_, rfl⟩
  have HKP : Hid (∀ W', IRunX w0 bd rb tg fa fo n c rs { st with panics := ps } (fb :: gl) rgb W' → Calls Try.prog 162 #[.pointer (some ⟨fb, 0, none⟩)] W' fun e w' => e = .returned (.int .u64 kv) ∧ IRunX w0 bd rb tg fa fo n c rs { st with panics := ps } (fb :: gl) rgb w') := Lib.hid fun W' h' => (kept_any h' hf hr).mono fun e w' ⟨he, kq, hw⟩ => ⟨by rw [hkv]; exact he, by rw [hw]; exact h'.on (below_drewN' (Below.refl _ _) kq)⟩
  rw [← hkv]
  have HFN : Hid (∀ W', IRunX w0 bd rb tg fa fo n c rs { st with panics := ps } (fb :: gl) rgb W' → fb < W'.heap.size ∧ W'.cell? ⟨fb, 6, none⟩ = some (.int .u64 t.number) ∧ W'.frozen? ⟨fb, 6, none⟩ = false ∧ Hid (IRunX w0 bd rb tg fa fo n c rs { st with panics := ps, frames := { t with number := kv } :: bl } (fb :: gl) rgb (W'.setCell ⟨fb, 6, none⟩ (.int .u64 kv)))) := Lib.hid fun W' h' => by
    obtain ⟨a1, _, _, _, a5, a6, _, a8⟩ := h'.top8 hf kv
    exact ⟨a1, a5, a6, Lib.hid a8⟩
  have hbm := body_m bd fb
  have hnb := nbody_m bd fb
  clear h hf hp hd hm h0 hr hs hkv
  cases bd
  all_goals
    simp only [ptrI, ifrP, Bool.false_eq_true, if_false, if_true] at hbm hnb HLA ⊢
    go_enter Try.func125, Try.ntmps125
    go_wp2_with (go_at_call 123; refine HA.out.mono ?_; rintro e w2 ⟨rfl, kq, rfl⟩)
    obtain ⟨q3, cq3, z5, zc, zf, zr, HX⟩ := HC.out (kq + 1)
    have z5' := z5.symm.trans (show (W.drewN (kq + 1)).cell? ⟨rb, 5, none⟩ = _ from x5)
    injection z5' with z5'
    injection z5' with h1 h2 h3
    injection h1 with h1
    injection h1 with h1
    subst h1 h3
    go_region
    go_wp2_with (go_at_call 45; refine (HLA.out _ HX.out).mono ?_; rintro e w3 ⟨rfl, h3⟩; have H3 := Lib.hid h3; clear h3; refine Hid.out ?_)
    have hz3 := (HFN.out _ H3.out).1
    refine Lib.hid ?_
    go_wp2_with (first
      | (go_at_call 203; refine (body_any fb _).mono ?_; rintro e w5 ⟨rfl, rfl⟩)
      | (go_at_call 162; refine (HKP.out _ H3.out).mono ?_; rintro e w4 ⟨rfl, h4⟩; obtain ⟨a1, a5, a7, HZ⟩ := HFN.out _ h4; clear h4))
    all_goals
      first
        | go_end0
        | refine bodyPost_ret (v := .tuple #[]) (by simp [results, Try.results125]) rfl ?_
      exact ⟨rfl, HZ.out⟩
end
end Go.Proofs.Ytlnccpojldiogaa

/-
  Package irun: ended.
-/
namespace Go.Proofs.Ytlnccpojldiogaa
set_option linter.unusedVariables false
set_option linter.unusedSimpArgs false
open Go.ChangeShapes Go.WideShapes Go.ChangeAt Go.RowKit

section
variable {w0 W W' : World} {ow ow' : Nat → Nat} {ex : Nat → Prop} {bd : Bool} {base rb tg fa fo rgb n c k : Nat} {rs : List RG} {st st' st2 : IMc} {g g' : IRG} {t t' u : IFr} {bl : List IFr} {gl : List Nat} {fb b o fz : Nat} {r : RG} {p x : Int}
set_option maxRecDepth 100000 in
theorem ended_first (h : IRunX w0 bd rb tg fa fo n c rs st gl rgb W) (hd : st.doing ≠ 3) (hs : st.evs.length ≤ 1048577) (hz : fz < W.heap.size) (c1 : W.cell? ⟨fz, 1, none⟩ = some (.int .i64 0)) :
    Calls Try.prog 91 #[.pointer (some ⟨rb, 0, none⟩), .pointer (some ⟨fz, 0, none⟩)] W fun e w' => e = .returned (.tuple #[]) ∧ IRunX w0 bd rb tg fa fo n c rs (st.over 1 0) gl rgb w' := by
  have HE := Lib.hid (end_any 1 0 h hd hs)
  clear h hd hs
  go_enter Try.func91, Try.ntmps91
  go_wp2_with (go_at_call 27; refine HE.out.mono ?_; rintro e w2 ⟨rfl, h2⟩; have H2 := Lib.hid h2; clear h2)
  go_end0
  exact ⟨rfl, H2.out⟩
set_option maxRecDepth 100000 in
theorem ended_deferred (h : IRunX w0 bd rb tg fa fo n c rs st gl rgb W) (hz : fz < W.heap.size) (c1 : W.cell? ⟨fz, 1, none⟩ = some (.int .i64 2)) :
    Calls Try.prog 91 #[.pointer (some ⟨rb, 0, none⟩), .pointer (some ⟨fz, 0, none⟩)] W fun e w' => e = .returned (.tuple #[]) ∧ IRunX w0 bd rb tg fa fo n c rs st gl rgb w' := by
  have HE := Lib.hid h
  clear h
  go_enter Try.func91, Try.ntmps91
  go_wp2
  go_end0
  exact ⟨rfl, HE.out⟩
set_option maxRecDepth 100000 in
theorem ended_panic {Q : World → Prop} (hz : fz < W.heap.size) (c1 : W.cell? ⟨fz, 1, none⟩ = some (.int .i64 3))
    (HR : Calls Try.prog 125 #[.pointer (some ⟨rb, 0, none⟩)] W fun e w' => e = .returned (.tuple #[]) ∧ Q w') :
    Calls Try.prog 91 #[.pointer (some ⟨rb, 0, none⟩), .pointer (some ⟨fz, 0, none⟩)] W fun e w' => e = .returned (.tuple #[]) ∧ Q w' := by
  have HE := Lib.hid HR
  clear HR
  go_enter Try.func91, Try.ntmps91
  go_wp2_with (go_at_call 125; refine HE.out.mono ?_; rintro e w2 ⟨rfl, h2⟩; have H2 := Lib.hid h2; clear h2)
  go_end0
  exact ⟨rfl, H2.out⟩
set_option maxRecDepth 100000 in
set_option maxHeartbeats 1600000 in
theorem ended_called (h : IRunX w0 bd rb tg fa fo n c rs st (fb :: gl) rgb W) (hf : st.frames = t :: bl) (h0 : st.hidn = 0) (hd2 : st2.doing ≠ 3) (hs : bl.length ≤ 1048577) (hz : fz < W.heap.size) (c1 : W.cell? ⟨fz, 1, none⟩ = some (.int .i64 1))
    (HR : ∀ W', Below W.heap.size W W' → Calls Try.prog (resumeF bd) #[.pointer (some ⟨fb, 0, none⟩), .pointer (some ⟨fz, 0, none⟩)] W' fun e w' => e = .returned (.tuple #[]) ∧ IRunX w0 bd rb tg fa fo n c rs st2 (fb :: gl) rgb w') :
    Calls Try.prog 91 #[.pointer (some ⟨rb, 0, none⟩), .pointer (some ⟨fz, 0, none⟩)] W fun e w' => e = .returned (.tuple #[]) ∧ IRunX w0 bd rb tg fa fo n c rs { st2 with doing := 0 } (fb :: gl) rgb w' := by
  have HL := Lib.hid (last_any h hf h0 hs)
  have HE := Lib.hid HR
  have HF : Hid (∀ W', IRunX w0 bd rb tg fa fo n c rs st2 (fb :: gl) rgb W' → rb < W'.heap.size ∧ W'.cell? ⟨rb, 7, none⟩ = some (.int .i64 st2.doing) ∧ W'.frozen? ⟨rb, 7, none⟩ = false ∧ Hid (IRunX w0 bd rb tg fa fo n c rs { st2 with doing := 0 } (fb :: gl) rgb (W'.setCell ⟨rb, 7, none⟩ (.int .i64 0)))) := Lib.hid fun W' h' => by
    have h2 := h'.setDoing hd2 0 (by decide)
    obtain ⟨g, ow, hR, _⟩ := h'
    exact ⟨hR.run.blk.lt, hR.run.blk.cell 7, hR.run.blk.frozen 7, Lib.hid h2⟩
  have hrm := resume_m bd fb
  have hnr := nresume_m bd fb
  clear h hf h0 hs HR
  cases bd
  all_goals
    simp only [ptrI, ifrP, resumeF, Bool.false_eq_true, if_false, if_true] at hrm hnr HL HE ⊢
    go_enter Try.func91, Try.ntmps91
    go_wp2_with (first
      | (go_at_call 45; refine HL.out.mono ?_; rintro e w2 ⟨rfl, hb2⟩; have HB2 := Lib.hid hb2; clear hb2)
      | (go_at_call 206; refine (HE.out _ HB2.out).mono ?_; rintro e w3 ⟨rfl, h3⟩; obtain ⟨a1, a2, a3, HZ⟩ := HF.out _ h3; clear h3)
      | (go_at_call 211; refine (HE.out _ HB2.out).mono ?_; rintro e w3 ⟨rfl, h3⟩; obtain ⟨a1, a2, a3, HZ⟩ := HF.out _ h3; clear h3))
    all_goals
      go_end0
      exact ⟨rfl, HZ.out⟩
end
end Go.Proofs.Ytlnccpojldiogaa

/-
  Package irun: a panic that another has taken the place of is taken from the row.
-/
namespace Go.Proofs.Ytlnccpojldiogaa
set_option linter.unusedVariables false
set_option linter.unusedSimpArgs false
open Go.ChangeShapes Go.WideShapes Go.ChangeAt Go.RowKit

section
variable {w0 W W' w8 W1 : World}
theorem run_clear_pair {P : Program} (w : World) (t e ty : TypeId) (a b : Value) (ht : P.underlying t = some (.slice e)) (hv : ∀ w, (zeroValue e).run P w = .ok (.agg #[a, b]) w) (h1 : a.oneCell' = true) (h2 : b.oneCell' = true) (q o c : Nat)
    (hc : ∀ j, j < 2 → (w.cell? ⟨q, o + j, none⟩).isSome = true) (hf : ∀ j, j < 2 → w.frozen? ⟨q, o + j, none⟩ = false) (hcs : (Value.agg #[a, b]).cells = #[a, b]) :
    (Builtin.clear_ #[t] ty #[.slice (some ⟨q, o, none⟩) 1 c]).run P w = .ok (.tuple #[]) (w.setCells q o [a, b]) := by
  have hzc : (Builtin.zeroCells (Value.agg #[a, b]).cells 1).toList = [a, b] := by
    rw [hcs]
    simp [Builtin.zeroCells, List.range_succ]
  have hst := run_storeCells_cells (P := P) q o [a, b] 0 w (by simpa using hc) (by simpa using hf) (by intro v hv'; simp at hv'; rcases hv' with rfl | rfl <;> assumption)
  simp only [Nat.add_zero] at hst
  simp [Builtin.clear_, run_underlying ht, hv, hzc, hst]
theorem u88 : Try.prog.underlying 88 = some (.slice 224) := by kernel_rfl
theorem z_rai (w : World) : (zeroValue 224).run Try.prog w = .ok (.agg #[.int .u64 0, .bool false]) w := by kernel_rfl
/-- cells as they stand behind the deletion -/
def delW (W : World) (q k : Nat) (x y : Value) : World := ((((W.drew.setCell ⟨q, k * 2, none⟩ x).setCell ⟨q, k * 2 + 1, none⟩ y).setCell ⟨q, (k + 1) * 2, none⟩ (.int .u64 0)).setCell ⟨q, (k + 1) * 2 + 1, none⟩ (.bool false))
set_option maxRecDepth 100000 in
set_option maxHeartbeats 3200000 in
/-- the last but one is taken from a row of panics -/
theorem delete_rai (q k j n cq : Nat) (x y u v : Value) (hj : j = k + 1) (hn : n = k + 2) (hk : n ≤ cq) (hl : k ≤ 1048577) (hcm : cq ≤ 9223372036854775807) (hq : q < W.heap.size) (c0 : W.cell? ⟨q, k * 2, none⟩ = some u) (c1 : W.cell? ⟨q, k * 2 + 1, none⟩ = some v) (c2 : W.cell? ⟨q, (k + 1) * 2, none⟩ = some x) (c3 : W.cell? ⟨q, (k + 1) * 2 + 1, none⟩ = some y) (f : ∀ i, W.frozen? ⟨q, i, none⟩ = false) (hx : x.oneCell' = true) (hy : y.oneCell' = true) :
    Calls Try.prog 126 #[.slice (some ⟨q, 0, none⟩) n cq, .int .i64 k, .int .i64 j] W fun e w' => e = .returned (.slice (some ⟨q, 0, none⟩) j cq) ∧ w' = delW W q k x y := by
  obtain ⟨i0, hi0, hz0, hz1, hz2⟩ := info_parts info_rai
  have s1 : Hid ([x, y].length = (n - j) * 2) := Lib.hid (by simp; omega)
  have s2 : Hid (∀ v ∈ [x, y], v.oneCell' = true) := Lib.hid fun v hv => by simp at hv; rcases hv with rfl | rfl <;> assumption
  have hsrc : Hid (∀ i v, [x, y][i]? = some v → W.drew.cell? ((⟨q, j * 2, none⟩ : Addr).add i) = some v) := Lib.hid fun i v hi => by
    subst hj
    rcases i with _ | _ | i
    · simp at hi
      subst hi
      have e : (⟨q, (k + 1) * 2, none⟩ : Addr).add 0 = ⟨q, (k + 1) * 2, none⟩ := by simp [Addr.add]
      rw [e]
      exact c2
    · simp at hi
      subst hi
      have e : (⟨q, (k + 1) * 2, none⟩ : Addr).add 1 = ⟨q, (k + 1) * 2 + 1, none⟩ := by simp [Addr.add]
      rw [e]
      exact c3
    · simp at hi
  have s3 : Hid (∀ i, i < [x, y].length → (W.drew.cell? ⟨q, 0 + k * 2 + i, none⟩).isSome = true ∧ W.drew.frozen? ⟨q, 0 + k * 2 + i, none⟩ = false) := Lib.hid fun i hi => by
    rcases i with _ | _ | i
    · rw [show 0 + k * 2 + 0 = k * 2 by omega]
      exact ⟨by show (W.cell? _).isSome = true; rw [c0]; rfl, f _⟩
    · rw [show 0 + k * 2 + 1 = k * 2 + 1 by omega]
      exact ⟨by show (W.cell? _).isSome = true; rw [c1]; rfl, f _⟩
    · exfalso
      have h2 : i + 1 + 1 < 2 := hi
      omega
  have hW : Hid (W.drew.setCells q (0 + k * 2) [x, y] = (W.drew.setCell ⟨q, k * 2, none⟩ x).setCell ⟨q, k * 2 + 1, none⟩ y) := Lib.hid (by
    rw [show 0 + k * 2 = k * 2 by omega]
    rfl)
  obtain ⟨W1, hW1⟩ : ∃ W1, W1 = (W.drew.setCell ⟨q, k * 2, none⟩ x).setCell ⟨q, k * 2 + 1, none⟩ y := ⟨_, rfl⟩
  rw [← hW1] at hW
  have hDW : Hid (delW W q k x y = (W1.setCell ⟨q, (k + 1) * 2, none⟩ (.int .u64 0)).setCell ⟨q, (k + 1) * 2 + 1, none⟩ (.bool false)) := Lib.hid (by rw [hW1]; rfl)
  have d2 : W1.cell? ⟨q, (k + 1) * 2, none⟩ = some x := by
    rw [hW1, World.cell?_setCell_other _ _ _ _ (by simp; try omega), World.cell?_setCell_other _ _ _ _ (by simp; try omega)]
    exact c2
  have d3 : W1.cell? ⟨q, (k + 1) * 2 + 1, none⟩ = some y := by
    rw [hW1, World.cell?_setCell_other _ _ _ _ (by simp; try omega), World.cell?_setCell_other _ _ _ _ (by simp; try omega)]
    exact c3
  have g1 : ∀ i, W1.frozen? ⟨q, i, none⟩ = false := fun i => by
    rw [hW1]
    simpa using f i
  obtain ⟨z, hz⟩ : ∃ z, z = k + (n - j) := ⟨_, rfl⟩
  have hzj : z = j := by omega
  have hcl : ∀ ty, (Builtin.clear_ #[88] ty #[.slice (some ⟨q, (k + (n - j)) * 2, none⟩) (n - (k + (n - j))) (cq - (k + (n - j)))]).run Try.prog W1 = .ok (.tuple #[]) ((W1.setCell ⟨q, (k + 1) * 2, none⟩ (.int .u64 0)).setCell ⟨q, (k + 1) * 2 + 1, none⟩ (.bool false)) := fun ty => by
    rw [← hz, hzj, show n - j = 1 by omega, hj]
    exact (run_clear_pair W1 _ _ ty _ _ u88 z_rai rfl rfl q ((k + 1) * 2) _ (fun i hi => by
      rcases i with _ | _ | i
      · rw [Nat.add_zero, d2]; rfl
      · rw [Nat.zero_add, d3]; rfl
      · omega) (fun i hi => g1 _) rfl).trans rfl
  have hkj : k ≤ j := by omega
  have hkl : k < j := by omega
  have hjn : j ≤ n := by omega
  have hkc : k ≤ cq := by omega
  have hjc : j ≤ cq := by omega
  have hne : ¬ (cq = j) := by omega
  have hnl : n ≤ 1048579 := by omega
  have hroom : k + (n - j) ≤ n := by omega
  have HJ : Hid (j = k + (n - j)) := Lib.hid (by omega)
  clear hW1 hj hn hz hzj c0 c1 c2 c3 f d2 d3 g1
  go_enter Try.func126, Try.ntmps126
  go_wp2_with fail
  go_region_law (refine step_append_room rfl (.tmp 22) (.tmp 25) 88 rfl 224 i0 2 u88 hi0 hz1 q 0 k cq (by simp [Act.eval, Act.put]) ⟨q, j * 2, none⟩ (n - j) (cq - j) [x, y] (by simp [Act.eval, Act.put]) s1.out hsrc.out s2.out (by omega) s3.out ?_; rw [hW.out])
  all_goals
    go_wp2
  go_ret
  exact ⟨by rw [← HJ.out]; rfl, hDW.out.symm⟩
end
end Go.Proofs.Ytlnccpojldiogaa

/-
  Package irun: passed: the active panic has removed a frame.
-/
namespace Go.Proofs.Ytlnccpojldiogaa
set_option linter.unusedVariables false
set_option linter.unusedSimpArgs false
open Go.ChangeShapes Go.WideShapes Go.ChangeAt Go.RowKit

section
variable {w0 W W' : World} {ow ow' : Nat → Nat} {ex : Nat → Prop} {bd : Bool} {base rb tg fa fo rgb n c k : Nat} {rs : List RG} {st st' st2 : IMc} {g g' : IRG} {t t' u : IFr} {bl : List IFr} {gl : List Nat} {fb b o fz : Nat} {r : RG} {p p2 : Int × Bool} {ps : List (Int × Bool)}
theorem OR.put2 {base r q i m c : Nat} {e : TypeId} {xs : List Value} (h : OR W ow base r e 2 (.slice (some ⟨q, 0, none⟩) m c) m xs) (hi : i < xs.length) (y : Value) (h1 : ∀ z ∈ xs.set i y, z.oneCell' = true) : OR (W.setCell ⟨q, i, none⟩ y) ow base r e 2 (.slice (some ⟨q, 0, none⟩) m c) m (xs.set i y) ∧ Kr (e1 r) ow ow W (W.setCell ⟨q, i, none⟩ y) := by
  obtain ⟨_, _, _, _, _, a, b⟩ := h.cell2 (List.getElem?_eq_getElem hi) y
  exact ⟨a h1, b⟩
theorem pair_one {l : List Value} {v1 v2 : Int} {b1 b2 : Bool} {x : Value} (hl : ∀ u ∈ l, u.oneCell' = true) (h : x ∈ l ++ [.int .u64 v1, .bool b1, .int .u64 v2, .bool b2]) : x.oneCell' = true := by
  rcases List.mem_append.1 h with h | h
  · exact hl x h
  · simp at h
    rcases h with rfl | rfl | rfl | rfl <;> rfl
/-- the last panic but one is taken from the run's row -/
theorem IRunX.delPans (h : IRunX w0 bd rb tg fa fo n c rs st gl rgb W) (hp : st.panics = p :: p2 :: ps) (hd : st.doing ≠ 3) :
    ∃ q cq, W.cell? ⟨rb, 5, none⟩ = some (.slice (some ⟨q, 0, none⟩) (ps.length + 2) cq) ∧ ps.length + 2 ≤ cq ∧ cq ≤ 9223372036854775807 ∧ q < W.heap.size ∧ W.cell? ⟨q, ps.length * 2, none⟩ = some (.int .u64 p2.1) ∧ W.cell? ⟨q, ps.length * 2 + 1, none⟩ = some (.bool p2.2) ∧ W.cell? ⟨q, (ps.length + 1) * 2, none⟩ = some (.int .u64 p.1) ∧ W.cell? ⟨q, (ps.length + 1) * 2 + 1, none⟩ = some (.bool p.2) ∧ (∀ i, W.frozen? ⟨q, i, none⟩ = false) ∧ q ≠ rb ∧
      IRunX w0 bd rb tg fa fo n c rs { st with panics := p :: ps } gl rgb ((delW W q ps.length (.int .u64 p.1) (.bool p.2)).setCell ⟨rb, 5, none⟩ (.slice (some ⟨q, 0, none⟩) (ps.length + 1) cq)) := by
  obtain ⟨g, ow, hR0, hg, hpb⟩ := h
  have hR := hR0.on (W' := W.drew) (Below.refl _ _).drew
  have h4 := hR.pan
  rw [hp] at h4
  obtain ⟨q, cq, hq⟩ := h4.form8 (by simp)
  rw [hq] at h4
  have hxs : ipnc (p :: p2 :: ps) = ipnc ps ++ [.int .u64 p2.1, .bool p2.2, .int .u64 p.1, .bool p.2] := by rw [ipnc_cons, ipnc_cons]; simp
  rw [hxs] at h4
  have hl := length_ipnc ps
  have ho := ipnc_one ps
  obtain ⟨R, hRR⟩ : ∃ R, R = ipnc ps := ⟨_, rfl⟩
  rw [← hRR] at h4 hl ho
  simp only [List.length_cons] at h4
  obtain ⟨m, hm⟩ : ∃ m, m = ps.length := ⟨_, rfl⟩
  rw [← hm] at h4 hl ⊢
  have e0 : (R ++ [Value.int .u64 p2.1, .bool p2.2, .int .u64 p.1, .bool p.2])[m * 2]? = some (.int .u64 p2.1) := by rw [List.getElem?_append_right (by omega)]; simp [hl]
  have e1' : (R ++ [Value.int .u64 p2.1, .bool p2.2, .int .u64 p.1, .bool p.2])[m * 2 + 1]? = some (.bool p2.2) := by rw [List.getElem?_append_right (by omega)]; simp [hl]
  have e2' : (R ++ [Value.int .u64 p2.1, .bool p2.2, .int .u64 p.1, .bool p.2])[(m + 1) * 2]? = some (.int .u64 p.1) := by rw [List.getElem?_append_right (by omega), hl, show (m + 1) * 2 - m * 2 = 2 by omega]; rfl
  have e3 : (R ++ [Value.int .u64 p2.1, .bool p2.2, .int .u64 p.1, .bool p.2])[(m + 1) * 2 + 1]? = some (.bool p.2) := by rw [List.getElem?_append_right (by omega), hl, show (m + 1) * 2 + 1 - m * 2 = 3 by omega]; rfl
  obtain ⟨x1, x2, _, _, x5, _⟩ := h4.cell2 e0 (.bool true)
  obtain ⟨_, y2, _⟩ := h4.cell2 e1' (.bool true)
  obtain ⟨_, z2, _⟩ := h4.cell2 e2' (.bool true)
  obtain ⟨_, v2, _⟩ := h4.cell2 e3 (.bool true)
  have hlen : (R ++ [Value.int .u64 p2.1, .bool p2.2, .int .u64 p.1, .bool p.2]).length = m * 2 + 4 := by simp [hl]
  have hcq : cq ≤ 9223372036854775807 ∧ ∀ i, W.frozen? ⟨q, i, none⟩ = false := by
    rcases h4.own.2 with ⟨he, _⟩ | ⟨q', cap, cur, he, _, hh, _, hcm, _⟩
    · cases he
    · injection he with h1 h2 h3
      injection h1 with h1
      injection h1 with h1
      subst h1 h3
      exact ⟨hcm, fun i => (show Blk W.drew q _ cur from hh).frozen i⟩
  -- the four cells
  have hset : ∀ (i : Nat) (y : Value) (a b c d : Value), i < 4 → (R ++ [a, b, c, d]).set (m * 2 + i) y = R ++ ([a, b, c, d].set i y) := fun i y a b c d hi => by
    rw [List.set_append_right _ _ (by omega), hl, show m * 2 + i - m * 2 = i by omega]
  have f0 := hset 0 (.int .u64 p.1) (.int .u64 p2.1) (.bool p2.2) (.int .u64 p.1) (.bool p.2) (by omega)
  have f1 := hset 1 (.bool p.2) (.int .u64 p.1) (.bool p2.2) (.int .u64 p.1) (.bool p.2) (by omega)
  have f2 := hset 2 (.int .u64 0) (.int .u64 p.1) (.bool p.2) (.int .u64 p.1) (.bool p.2) (by omega)
  have f3 := hset 3 (.bool false) (.int .u64 p.1) (.bool p.2) (.int .u64 0) (.bool p.2) (by omega)
  simp only [Nat.add_zero, List.set_cons_zero, List.set_cons_succ] at f0 f1 f2 f3
  obtain ⟨o1, k1⟩ := h4.put2 (i := m * 2) (by rw [hlen]; omega) (.int .u64 p.1) (by rw [f0]; exact fun z hz => pair_one ho hz)
  rw [f0] at o1
  obtain ⟨o2, k2⟩ := o1.put2 (i := m * 2 + 1) (by simp [hl]) (.bool p.2) (by rw [f1]; exact fun z hz => pair_one ho hz)
  rw [f1] at o2
  obtain ⟨o3, k3⟩ := o2.put2 (i := m * 2 + 2) (by simp [hl]) (.int .u64 0) (by rw [f2]; exact fun z hz => pair_one ho hz)
  rw [f2] at o3
  obtain ⟨o4, k4⟩ := o3.put2 (i := m * 2 + 3) (by simp [hl]) (.bool false) (by rw [f3]; exact fun z hz => pair_one ho hz)
  rw [f3] at o4
  have kk := ((k1.trans k2).trans k3).trans k4
  have hB := hR.run.kr kk (ne1 (by omega))
  obtain ⟨hB8, hO8, hkr⟩ := cut_set (k := m + 1) hB o4 (by omega) (by omega) 5
  have htk : (R ++ [Value.int .u64 p.1, .bool p.2, .int .u64 0, .bool false]).take ((m + 1) * 2) = ipnc (p :: ps) := by
    rw [ipnc_cons, ← hRR, show R ++ [Value.int .u64 p.1, .bool p.2, .int .u64 0, .bool false] = (R ++ [Value.int .u64 p.1, .bool p.2]) ++ [.int .u64 0, .bool false] by simp, List.take_append_of_le_length (by simp [hl]; omega), List.take_of_length_le (by simp [hl]; omega)]
  rw [htk] at hO8
  have kf := (kk.wider (ex' := e2 6 0) fun x h => .inl h).trans (hkr.wider (ex' := e2 6 0) fun x h => .inr h)
  have hqr : q ≠ rb := by
    intro he
    have h1 := h4.role q rfl
    have h2 := hR.run.role
    rw [he, h2] at h1
    omega
  refine ⟨q, cq, ?_, x5, hcq.1, x1, x2, y2, z2, v2, hcq.2, hqr, ?_⟩
  · have hc5 : W.cell? ⟨rb, 5, none⟩ = some g.pv := hR0.run.blk.cell 5
    rw [hc5, hq]
    simp [hm]
  · have hdel : delW W q m (.int .u64 p.1) (.bool p.2) = ((((W.drew.setCell ⟨q, m * 2, none⟩ (.int .u64 p.1)).setCell ⟨q, m * 2 + 1, none⟩ (.bool p.2)).setCell ⟨q, m * 2 + 2, none⟩ (.int .u64 0)).setCell ⟨q, m * 2 + 3, none⟩ (.bool false)) := by
      unfold delW
      rw [show (m + 1) * 2 + 1 = m * 2 + 3 by omega, show (m + 1) * 2 = m * 2 + 2 by omega]
    rw [hdel]
    exact ⟨{ g with pv := .slice (some ⟨q, 0, none⟩) (m + 1) cq }, ow, hR.part (st' := { st with panics := p :: ps }) (g' := { g with pv := .slice (some ⟨q, 0, none⟩) (m + 1) cq }) kf (ne2 (by omega) (by omega)) hB8 (hR.frs.kr kf (ne2 (by omega) (by omega))) (hR.frames.kr kf (ne2 (by omega) (by omega)) fun x h1 h2 => ne2 (by omega) (by omega)) (fun hb => ⟨(hR.regs hb).1.kr kf (ne2 (by omega) (by omega)), (hR.regs hb).2⟩) (by rw [hm] at hO8 ⊢; exact hO8) (hR.tr.kr kf (ne2 (by omega) (by omega)) (ne2 (by omega) (by omega)) (ne2 (by omega) (by omega))) (fun _ => hR.res hd) (fun h3 => absurd h3 hd), hg, hpb⟩
theorem IRunX.frsCell (h : IRunX w0 bd rb tg fa fo n c rs st gl rgb W) (h0 : st.hidn = 0) : rb < W.heap.size ∧ ∃ A cq, W.cell? ⟨rb, 3, none⟩ = some (.slice A st.frames.length cq) := by
  obtain ⟨g, ow, hR, hg, hpb⟩ := h
  obtain ⟨A, cq, hq⟩ := (hR.frs0 h0).slice
  refine ⟨hR.run.blk.lt, A, cq, ?_⟩
  rw [hR.run.blk.cell]
  show some g.fv = _
  rw [hq]
set_option maxRecDepth 100000 in
set_option maxHeartbeats 1600000 in
theorem passed_go (y : Int) (h : IRunX w0 bd rb tg fa fo n c rs st gl rgb W) (h0 : st.hidn = 0) (hf : st.frames = t :: bl) (hs : bl.length ≤ 1048577) (hz : fz < W.heap.size) (c1 : W.cell? ⟨fz, 1, none⟩ = some (.int .i64 y)) (hy : y ≠ 3) :
    Calls Try.prog 92 #[.pointer (some ⟨rb, 0, none⟩), .pointer (some ⟨fz, 0, none⟩)] W fun e w' => e = .returned (.tuple #[]) ∧ IRunX w0 bd rb tg fa fo n c rs st gl rgb w' := by
  obtain ⟨hrz, A, cq, x3⟩ := h.frsCell h0
  obtain ⟨m, hm⟩ : ∃ m, m = bl.length := ⟨_, rfl⟩
  rw [hf, List.length_cons, ← hm] at x3
  rw [← hm] at hs
  have e0 : (((m : Int) + 1) == 0) = false := by simp; omega
  have gy : (y == 3) = false := by simpa using hy
  have HF := Lib.hid h
  clear h hf hm h0
  go_enter Try.func92, Try.ntmps92
  go_wp2
  go_end0
  exact ⟨rfl, HF.out⟩
/-- active, and end -/
theorem act_end {v : Int} {rc : Bool} (h : IRunX w0 bd rb tg fa fo n c rs st gl rgb W) (hp : st.panics = (v, rc) :: ps) (hd : st.doing ≠ 3) (hl : ps.length ≤ 1048577) (hs : st.evs.length ≤ 1048577) :
    ∃ q i, Calls Try.prog 123 #[.pointer (some ⟨rb, 0, none⟩)] W (fun e w' => e = .returned (.pointer (some ⟨q, i, none⟩)) ∧ q < w'.heap.size ∧ w'.cell? ⟨q, i, none⟩ = some (.int .u64 v) ∧ Hid (Calls Try.prog 27 #[.pointer (some ⟨rb, 0, none⟩), .int .i64 2, .int .u64 v] w' fun e w2 => e = .returned (.tuple #[]) ∧ IRunX w0 bd rb tg fa fo n c rs (st.over 2 v) gl rgb w2)) := by
  obtain ⟨q, cq, x5, xv, xr, xf, hqz, hrz, hcq, _⟩ := h.actv hp hd
  refine ⟨q, ps.length * 2, (active_any (v := 0) (rc := true) (ps := []) (W := W) (rb := rb) hl x5 hqz hrz hcq).mono ?_⟩
  rintro e w' ⟨rfl, kq, rfl⟩
  exact ⟨rfl, hqz, xv, Lib.hid (end_any 2 v (h.on (below_drewN' (Below.refl _ _) kq)) hd hs)⟩
set_option maxRecDepth 100000 in
set_option maxHeartbeats 1600000 in
theorem passed_end (y : Int) {v : Int} {rc : Bool} (h : IRunX w0 bd rb tg fa fo n c rs st gl rgb W) (h0 : st.hidn = 0) (hf : st.frames = []) (hp : st.panics = (v, rc) :: ps) (hd : st.doing ≠ 3) (hl : ps.length ≤ 1048577) (hs : st.evs.length ≤ 1048577) (hz : fz < W.heap.size) (c1 : W.cell? ⟨fz, 1, none⟩ = some (.int .i64 y)) (hy : y ≠ 3) :
    Calls Try.prog 92 #[.pointer (some ⟨rb, 0, none⟩), .pointer (some ⟨fz, 0, none⟩)] W fun e w' => e = .returned (.tuple #[]) ∧ IRunX w0 bd rb tg fa fo n c rs (st.over 2 v) gl rgb w' := by
  obtain ⟨hrz, A, cq, x3⟩ := h.frsCell h0
  rw [hf, List.length_nil] at x3
  obtain ⟨qa, ia, hAC⟩ := act_end h hp hd hl hs
  have HAC := Lib.hid hAC
  have gy : (y == 3) = false := by simpa using hy
  clear h hf h0 hp hd hl hs hAC
  go_enter Try.func92, Try.ntmps92
  go_wp2_with (first
    | (go_at_call 123; refine HAC.out.mono ?_; rintro e w2 ⟨rfl, a1, a2, H2⟩)
    | (go_at_call 27; refine H2.out.mono ?_; rintro e w4 ⟨rfl, h4⟩; have H4 := Lib.hid h4; clear h4))
  go_end0
  exact ⟨rfl, H4.out⟩
/-- the deletion, in the run -/
theorem del_run (h : IRunX w0 bd rb tg fa fo n c rs st gl rgb W) (hp : st.panics = p :: p2 :: ps) (hd : st.doing ≠ 3) (hl : ps.length ≤ 1048577) :
    ∃ q cq, W.cell? ⟨rb, 5, none⟩ = some (.slice (some ⟨q, 0, none⟩) (ps.length + 2) cq) ∧ rb < W.heap.size ∧ Calls Try.prog 126 #[.slice (some ⟨q, 0, none⟩) (ps.length + 2) cq, .int .i64 ps.length, .int .i64 (ps.length + 1 : Nat)] W fun e w' => e = .returned (.slice (some ⟨q, 0, none⟩) (ps.length + 1) cq) ∧ w'.cell? ⟨rb, 5, none⟩ = some (.slice (some ⟨q, 0, none⟩) (ps.length + 2) cq) ∧ w'.frozen? ⟨rb, 5, none⟩ = false ∧ rb < w'.heap.size ∧ Hid (IRunX w0 bd rb tg fa fo n c rs { st with panics := p :: ps } gl rgb (w'.setCell ⟨rb, 5, none⟩ (.slice (some ⟨q, 0, none⟩) (ps.length + 1) cq))) := by
  obtain ⟨q, cq, z5, zcq, zcm, zqz, z0, z1, z2, z3, zf, zqr, hX⟩ := h.delPans hp hd
  obtain ⟨hrz, hf5⟩ : rb < W.heap.size ∧ W.frozen? ⟨rb, 5, none⟩ = false := by
    obtain ⟨g, ow, hR, _⟩ := h
    exact ⟨hR.run.blk.lt, hR.run.blk.frozen 5⟩
  refine ⟨q, cq, z5, hrz, (delete_rai q ps.length (ps.length + 1) (ps.length + 2) cq _ _ _ _ rfl rfl zcq hl zcm zqz z0 z1 z2 z3 zf rfl rfl).mono ?_⟩
  rintro e w' ⟨rfl, rfl⟩
  have hne : ∀ i, (⟨rb, 5, none⟩ : Addr) ≠ ⟨q, i, none⟩ := fun i h => by injection h with h; exact zqr h.symm
  refine ⟨rfl, ?_, ?_, ?_, Lib.hid hX⟩
  · unfold delW
    rw [World.cell?_setCell_other _ _ _ _ (by simp [Ne.symm zqr]), World.cell?_setCell_other _ _ _ _ (by simp [Ne.symm zqr]), World.cell?_setCell_other _ _ _ _ (by simp [Ne.symm zqr]), World.cell?_setCell_other _ _ _ _ (by simp [Ne.symm zqr])]
    exact z5
  · unfold delW
    simpa using hf5
  · unfold delW
    simpa using hrz
set_option maxRecDepth 100000 in
set_option maxHeartbeats 1600000 in
theorem passed_panic {Q : World → Prop} (h : IRunX w0 bd rb tg fa fo n c rs st gl rgb W) (h0 : st.hidn = 0) (hp : st.panics = p :: p2 :: ps) (hd : st.doing ≠ 3) (hl : ps.length ≤ 1048576) (hfl : st.frames.length ≤ 1048577) (hs : st.evs.length ≤ 1048577) (hz : fz < W.heap.size) (c1 : W.cell? ⟨fz, 1, none⟩ = some (.int .i64 3))
    (hQ0 : st.frames ≠ [] → ∀ w', IRunX w0 bd rb tg fa fo n c rs { st with panics := p :: ps } gl rgb w' → Q w') (hQ1 : st.frames = [] → ∀ w', IRunX w0 bd rb tg fa fo n c rs ({ st with panics := p :: ps }.over 2 p.1) gl rgb w' → Q w') :
    Calls Try.prog 92 #[.pointer (some ⟨rb, 0, none⟩), .pointer (some ⟨fz, 0, none⟩)] W fun e w' => e = .returned (.tuple #[]) ∧ Q w' := by
  obtain ⟨q, cq, z5, hrz, hDL⟩ := del_run h hp hd (by omega)
  obtain ⟨k, hk⟩ : ∃ k, k = ps.length := ⟨_, rfl⟩
  obtain ⟨j, hj⟩ : ∃ j, j = k + 1 := ⟨_, rfl⟩
  obtain ⟨nn, hn⟩ : ∃ nn, nn = k + 2 := ⟨_, rfl⟩
  rw [← hk, ← hj, ← hn] at hDL
  rw [← hk, ← hn] at z5
  have HDL := Lib.hid hDL
  obtain ⟨fl, hfl2⟩ : ∃ fl, fl = st.frames.length := ⟨_, rfl⟩
  have HFR : Hid (∀ w', IRunX w0 bd rb tg fa fo n c rs { st with panics := p :: ps } gl rgb w' → ∃ A cq, w'.cell? ⟨rb, 3, none⟩ = some (.slice A fl cq)) := Lib.hid fun w' h' => by
    rw [hfl2]
    exact (h'.frsCell h0).2
  have HACT : Hid (∀ w', IRunX w0 bd rb tg fa fo n c rs { st with panics := p :: ps } gl rgb w' → _) := Lib.hid fun w' h' => act_end (v := p.1) (rc := p.2) h' rfl hd (by omega) hs
  have n1 : (nn : Int) - 1 = (j : Int) := by omega
  have n2 : (j : Int) - 1 = (k : Int) := by omega
  rw [← hk] at hl
  have jb : j ≤ 1048577 := by omega
  rw [← hfl2] at hfl
  have HQ0 := Lib.hid hQ0
  have HQ1 := Lib.hid hQ1
  have HFL := Lib.hid hfl2
  have hnb : nn ≤ 1048578 := by omega
  have HE : Hid (fl = 0 → st.frames = []) := Lib.hid fun h => List.eq_nil_of_length_eq_zero (by rw [← HFL.out]; exact h)
  have HNE : Hid (fl ≠ 0 → st.frames ≠ []) := Lib.hid fun h h2 => h (by rw [HFL.out, h2]; rfl)
  clear h hp hd hs hDL h0 hk hj hn hQ0 hQ1 hfl2
  by_cases h00 : fl = 0
  · subst h00
    go_enter Try.func92, Try.ntmps92
    go_wp2_with (go_at_call 126; refine HDL.out.mono ?_; rintro e w2 ⟨rfl, a1, a2, a3, HX⟩; refine Hid.out ?_)
    obtain ⟨A3, c3, x3⟩ := HFR.out _ HX.out
    obtain ⟨qa, ia, hAC⟩ := HACT.out _ HX.out
    have HAC := Lib.hid hAC
    rw [World.cell?_setCell_other _ _ _ _ (by simp)] at x3
    clear hAC
    refine Lib.hid ?_
    go_wp2_with (first
      | (go_at_call 123; refine HAC.out.mono ?_; rintro e w4 ⟨rfl, b1, b2, H4⟩)
      | (go_at_call 27; refine H4.out.mono ?_; rintro e w5 ⟨rfl, h5⟩; have H5 := Lib.hid h5; clear h5))
    go_end0
    exact ⟨rfl, HQ1.out (HE.out (by trivial)) _ H5.out⟩
  · have g0 : ((fl : Int) == 0) = false := by simp; omega
    go_enter Try.func92, Try.ntmps92
    go_wp2_with (go_at_call 126; refine HDL.out.mono ?_; rintro e w2 ⟨rfl, a1, a2, a3, HX⟩; refine Hid.out ?_)
    obtain ⟨A3, c3, x3⟩ := HFR.out _ HX.out
    rw [World.cell?_setCell_other _ _ _ _ (by simp)] at x3
    refine Lib.hid ?_
    go_wp2
    go_end0
    exact ⟨rfl, HQ0.out (HNE.out h00) _ HX.out⟩
end
end Go.Proofs.Ytlnccpojldiogaa

/-
  Package irun: settle where nothing ends; a step.
-/
namespace Go.Proofs.Ytlnccpojldiogaa
set_option linter.unusedVariables false
set_option linter.unusedSimpArgs false
open Go.ChangeShapes Go.WideShapes Go.ChangeAt Go.RowKit

section
variable {w0 W W' : World} {bd : Bool} {rb tg fa fo rgb n c k : Nat} {rs : List RG} {st st' : IMc} {t t' : IFr} {bl : List IFr} {gl : List Nat} {fb b o : Nat} {r : RG} {p x : Int} {nd : RN}
theorem IRunX.cells8 (h : IRunX w0 bd rb tg fa fo n c rs st gl rgb W) : rb < W.heap.size ∧ W.cell? ⟨rb, 7, none⟩ = some (.int .i64 st.doing) ∧ W.cell? ⟨rb, 11, none⟩ = some (.int .i64 st.steps) ∧ W.frozen? ⟨rb, 11, none⟩ = false ∧ W.frozen? ⟨rb, 7, none⟩ = false := by
  obtain ⟨g, ow, hR, _⟩ := h
  exact ⟨hR.run.blk.lt, hR.run.blk.cell 7, hR.run.blk.cell 11, hR.run.blk.frozen 11, hR.run.blk.frozen 7⟩
set_option maxRecDepth 100000 in
theorem settle_no (d : Int) (h7 : W.cell? ⟨rb, 7, none⟩ = some (.int .i64 d)) (hd : d = 0 ∨ d = 3) : Calls Try.prog 47 #[.pointer (some ⟨rb, 0, none⟩)] W fun e w' => e = .returned (.tuple #[]) ∧ W = w' := by
  have g1 : (d == 1) = false := by simp; omega
  have g2 : (d == 2) = false := by simp; omega
  go_enter Try.func47, Try.ntmps47
  go_wp2
  go_loopg [] 0 (fun kz wr => wr = W)
  case atStart => rfl
  case round =>
    subst hrel
    go_wp2
    go_end0
    exact ⟨rfl, rfl⟩
/-- a node of the last frame, in memory -/
theorem node_at8 {W : World} {B i : Nat} {r : RG} {nd : RN} (h : RdG W B r) (hn : r.ns[i]? = some nd) : ∃ b off, r.no = some ⟨b, off, none⟩ ∧ b < B ∧ i < r.gr.nodes.length ∧ NdAt W b (off + i * 12) nd := by
  have hi : i < r.gr.nodes.length := by rw [← h.nodes.len]; exact (List.getElem?_eq_some_iff.1 hn).1
  obtain ⟨b, off, x, hA, hb, hx, _, _, c0, c1, c2, c3, c4, c5, c6, c7, c8, c9, c10, c11⟩ := h.nodes.nd hi
  have hx' := hx.out
  rw [hn] at hx'
  injection hx' with hx'
  subst hx'
  exact ⟨b, off, hA, hb, hi, c0, c1, c2, c3, c4, c5, c6, c7, c8, c9, c10, c11⟩
/-- one step more -/
theorem IRunX.step_ (h : IRunX w0 bd rb tg fa fo n c rs st gl rgb W) (m : Nat) (hm : m = st.steps + 1) : IRunX w0 bd rb tg fa fo n c rs { st with steps := m } gl rgb (W.setCell ⟨rb, 11, none⟩ (.int .i64 m)) := by
  obtain ⟨g, ow, hR, h1, h2⟩ := h
  have k := Kr.set hR.run 11 (.int .i64 m)
  exact ⟨g, ow, hR.part k (ne1 (by omega)) (hR.run.set_ 11 _) (hR.frs.kr k (ne1 (by omega))) (hR.frames.kr k (ne1 (by omega)) fun x h1 h2 => ne1 (by omega)) (fun hb => ⟨(hR.regs hb).1.kr k (ne1 (by omega)), (hR.regs hb).2⟩) (hR.pan.kr k (ne1 (by omega))) (hR.tr.kr k (ne1 (by omega)) (ne1 (by omega)) (ne1 (by omega))) hR.res (fun hd => (hR.done hd).kr k (ne1 (by omega))), h1, h2⟩
set_option maxRecDepth 100000 in
set_option maxHeartbeats 3200000 in
theorem step_any {Q1 Q : World → Prop} {i : Nat} (h : IRunX w0 bd rb tg fa fo n c rs st (fb :: gl) rgb W) (hf : st.frames = t :: bl) (h0 : st.hidn = 0) (hr : rs[t.f]? = some r) (hn : r.ns[i]? = some nd) (hi : t.at_ = (i : Int)) (hs : st.steps ≤ 1048576) (hbl : bl.length ≤ 1048577) (hnl : r.gr.nodes.length ≤ 4096)
    (HX : ∀ b o W', NdAt w0 b o nd → b < w0.heap.size → IRunX w0 bd rb tg fa fo n c rs ({ st with steps := st.steps + 1 }.top { t with at_ := nd.nd.next } bl) (fb :: gl) rgb W' → Calls Try.prog 46 #[.pointer (some ⟨rb, 0, none⟩), ifrV bd fb, .pointer (some ⟨b, o, none⟩)] W' fun e w' => e = .returned (.tuple #[]) ∧ Q1 w')
    (HS : ∀ W', Q1 W' → Calls Try.prog 47 #[.pointer (some ⟨rb, 0, none⟩)] W' fun e w' => e = .returned (.tuple #[]) ∧ Q w') :
    Calls Try.prog 26 #[.pointer (some ⟨rb, 0, none⟩)] W fun e w' => e = .returned (.tuple #[]) ∧ Q w' := by
  obtain ⟨hrz, _, c11, f11, _⟩ := h.cells8
  have hlow := h.low
  obtain ⟨m, hm⟩ : ∃ m : Nat, m = st.steps + 1 := ⟨_, rfl⟩
  have hm1 : (st.steps : Int) + 1 = (m : Int) := by omega
  have hm2 : (m : Int) ≤ 1048577 := by omega
  have hwm : wrap64 (m : Int) = m := by unfold wrap64; omega
  have h1 := h.step_ m hm
  obtain ⟨W1, hW1⟩ : ∃ W1, W1 = W.setCell ⟨rb, 11, none⟩ (.int .i64 m) := ⟨_, rfl⟩
  rw [← hW1] at h1
  have hrd : RdG w0 w0.heap.size r := by
    obtain ⟨g, ow, hR, _⟩ := h
    have hk : ∀ p : Addr, p.block < w0.heap.size → w0.cell? p = W.cell? p := fun p hp => (hR.below.cell hp).symm
    exact ((prog_cells hR.prog hr).1).keep hk
  obtain ⟨nb, no', hno, hnb, hil, hnd⟩ := node_at8 hrd hn
  have HLAST := Lib.hid (last_any h1 hf h0 hbl)
  have HW1 := Lib.hid hW1
  -- from the last frame on
  have HREST : Hid (∀ W2, Below W1.heap.size W1 W2 → fb < W2.heap.size ∧ W2.cell? ⟨fb, 0, none⟩ = some (.pointer (some ⟨fa, fo + t.f * 8, none⟩)) ∧ W2.cell? ⟨fa, fo + t.f * 8 + 6, none⟩ = some (.slice (some ⟨nb, no', none⟩) r.gr.nodes.length r.nc) ∧ W2.cell? ⟨fb, 3, none⟩ = some (.int .i64 i) ∧ W2.frozen? ⟨fb, 3, none⟩ = false ∧ W2.cell? ⟨nb, no' + i * 12 + 10, none⟩ = some (.int .i64 nd.nd.next) ∧
      Hid (IRunX w0 bd rb tg fa fo n c rs ({ st with steps := st.steps + 1 }.top { t with at_ := nd.nd.next } bl) (fb :: gl) rgb (W2.setCell ⟨fb, 3, none⟩ (.int .i64 nd.nd.next)))) := Lib.hid fun W2 hb2 => by
    have h2 := h1.on hb2
    obtain ⟨e1, e2, e3, e4, _, _, e5, _⟩ := h2.top8 hf nd.nd.next
    have hpc : W2.cell? ⟨fa, fo + t.f * 8 + 6, none⟩ = some (.slice r.no r.gr.nodes.length r.nc) := by
      obtain ⟨g, ow, hR, _⟩ := h2
      obtain ⟨_, _, _, _, _, _, e, _⟩ := prog_cells hR.prog hr
      exact e
    rw [hno] at hpc
    rw [hi] at e3
    refine ⟨e1, e2, hpc, e3, e4, (hnd.kept hnb h2.low).c10, Lib.hid ?_⟩
    have : ({ st with steps := st.steps + 1 } : IMc).top { t with at_ := nd.nd.next } bl = ({ st with steps := m } : IMc).top { t with at_ := nd.nd.next } bl := by rw [hm]
    rw [this]
    exact e5
  have HEX := Lib.hid HX
  have HST := Lib.hid HS
  have HND := Lib.hid hnd
  have HNB := Lib.hid hnb
  have hbm := body_m bd fb
  rw [hW1] at HLAST
  have hio : 0 ≤ (i : Int) := by omega
  have hi4 : i < 4096 := by omega
  unfold ifrV at HEX
  clear h h1 hf h0 hr hn hi hs hbl hlow hW1 hrd hno hnd hnb HX HS hm
  cases bd
  all_goals
    simp only [ptrI, ifrP, Bool.false_eq_true, if_false, if_true] at hbm HEX HLAST ⊢
    go_enter Try.func26, Try.ntmps26
    go_wp2_with (first
      | (go_at_call 45; refine HLAST.out.mono ?_; rintro e w2 ⟨rfl, hb2⟩; have HB2 := Lib.hid hb2; clear hb2)
      | (go_at_call 203; refine (body_any fb _).mono ?_; rintro e w3 ⟨rfl, rfl⟩))
    obtain ⟨e1, e2, e3, e4, e5, e6, _⟩ := HREST.out w2 (by rw [HW1.out]; exact HB2.out)
    go_quiet (fail)
    obtain ⟨d1, d2, d3, d4, d5, d6, d7⟩ := HREST.out (w2.drewN nq) (below_drewN' (by rw [HW1.out]; exact HB2.out) nq)
    clear d2 d3
    go_wp2_with (first
      | (go_at_call 46; refine (HEX.out _ _ _ HND.out HNB.out d7.out).mono ?_; rintro e w4 ⟨rfl, h4⟩; have H4 := Lib.hid h4; clear h4)
      | (go_at_call 47; refine (HST.out _ H4.out).mono ?_; rintro e w5 ⟨rfl, h5⟩; have H5 := Lib.hid h5; clear h5))
    go_end0
    exact ⟨rfl, H5.out⟩
end
end Go.Proofs.Ytlnccpojldiogaa
