/-
  Texts of one seat, one behind the other: IResBF.
-/
import Derived.Laws.CopyOwn
import Derived.StillTailTactics
import Derived.Deep.RegionLaw
import Derived.Deep.Cut
import Derived.Deep.DeepCutAuto
import Derived.RegionTactic
import Derived.Test.YtlnccpojldiogaaMEa
import Derived.Test.YtlnccpojldiogaaMBb
import Derived.Test.YtlnccpojldiogaaMEb

/-
  Package irun: resume, read bound, without a result.
-/
namespace Go.Proofs.Ytlnccpojldiogaa
set_option linter.unusedVariables false
set_option linter.unusedSimpArgs false
open Go.ChangeShapes Go.WideShapes Go.ChangeAt Go.RowKit

section
variable {w0 W W' : World} {bd : Bool} {rb tg fa fo rgb n c k : Nat} {rs : List RG} {st st' : IMc} {t b t' : IFr} {bl : List IFr} {gl : List Nat} {fb fz o : Nat} {r : RG} {p x : Int} {nd : RN}
set_option maxRecDepth 100000 in
set_option maxHeartbeats 25600000 in
theorem resume_bF (hrv : r.gr.result = false) (h : IRunX w0 true rb tg fa fo n c rs st (fb :: gl) rgb W) (hf : st.frames = b :: bl) (hr : rs[t.f]? = some r) (hz : fz < W.heap.size) (c0 : W.cell? ⟨fz, 0, none⟩ = some (.pointer (some ⟨fa, fo + t.f * 8, none⟩))) (c6 : W.cell? ⟨fz, 6, none⟩ = some (.int .u64 t.number)) :
    Calls Try.prog 211 #[.pointer (some ⟨fb, 0, none⟩), .pointer (some ⟨fz, 0, none⟩)] W fun e w' => e = .returned (.tuple #[]) ∧ IRunX w0 true rb tg fa fo n c rs { st with regs := resumeR true b.before (grOf (grs rs) t.f).result t.number } (fb :: gl) rgb w' := by
  rw [grOf_at hr]
  obtain ⟨g, ow, fg, gs, hR, hg, rfl, hgl, rfl, hF⟩ := h.open_ hf
  obtain ⟨hB, hl⟩ := hR.regs rfl
  have hlb := hF.lbf rfl
  obtain ⟨_, _, _, _, c4, _, _, _, hfa⟩ := prog_cells hR.prog hr
  have hfaW : fa < W.heap.size := Nat.lt_of_lt_of_le hfa hR.below.size
  have c7 : W.cell? ⟨fg.fb, 7, none⟩ = some (.pointer (some ⟨g.rgb, 0, none⟩)) := by rw [hF.blk.blk.cell]; exact ifrC_7t
  have hfz : fg.fb < W.heap.size := hF.blk.blk.lt
  have hrz : g.rgb < W.heap.size := hB.blk.lt
  obtain ⟨x0, x1, x2, x3, x4, x5, x6, x7, x8, x9, x10, x11, x12, x13, x14, x15, hrg⟩ := len16 hl
  obtain ⟨y0, y1, y2, y3, y4, y5, y6, y7, y8, y9, y10, y11, y12, y13, y14, y15, hbf⟩ := len16 hlb
  have HC : Hid (∀ wr, Below W.heap.size W wr → ∀ j v, (u64c [y6, y7, y8, y9, y10, y11])[j]? = some v → wr.cell? (Addr.add ⟨fg.fb, 14, none⟩ j) = some v) := Lib.hid fun wr hb j v hj => by
    have hj6 : j < 6 := by
      rcases Nat.lt_or_ge j 6 with h | h
      · exact h
      · rw [List.getElem?_eq_none (by simpa [u64c] using h)] at hj; cases hj
    have ea : Addr.add ⟨fg.fb, 14, none⟩ j = ⟨fg.fb, 8 + (6 + j), none⟩ := by rw [show 8 + (6 + j) = 14 + j by omega]; simp [Addr.add]
    rw [ea, hb.cell (p := ⟨fg.fb, 8 + (6 + j), none⟩) hfz, hF.blk.blk.cell]
    have e2 : (u64c [y6, y7, y8, y9, y10, y11])[j]? = ([y6, y7, y8, y9, y10, y11][j]?).map (Value.int .u64) := by unfold u64c; rw [List.getElem?_map]
    rw [e2] at hj
    obtain ⟨v2, hv2, rfl⟩ := Option.map_eq_some_iff.1 hj
    refine ifrC_b fg ?_
    rw [hbf]
    rw [← hv2]
    match j, hj6 with
    | 0, _ => rfl
    | 1, _ => rfl
    | 2, _ => rfl
    | 3, _ => rfl
    | 4, _ => rfl
    | 5, _ => rfl
  have HX : Hid (∀ wr l, Below W.heap.size W wr → List.length l = 16 → IRunX w0 true rb tg fa fo n c rs { st with regs := l } (fg.fb :: gl) g.rgb (setW wr g.rgb 0 (u64c l))) := Lib.hid fun wr l hb hll => by
    have hR2 := hR.on hb
    have hB2 := (hR2.regs rfl).1
    obtain ⟨h1, kr⟩ := setW_ob (u64c l) 0 wr _ hB2
    rw [setAt_list _ _ _ (by simp [u64c, hll, hl])] at h1
    have e : (u64c st.regs).take 0 ++ u64c l ++ (u64c st.regs).drop (0 + (u64c l).length) = u64c l := by
      rw [List.drop_of_length_le (by simp [u64c, hll, hl])]
      simp
    rw [e] at h1
    exact ⟨g, ow, hR2.reg_ kr (fun _ => ⟨h1, hll⟩), by rw [hg]; simp [hgl], rfl⟩
  have HZ : Hid (∀ wr, Below W.heap.size W wr → Blk wr g.rgb 94 (u64c [x0, x1, x2, x3, x4, x5, x6, x7, x8, x9, x10, x11, x12, x13, x14, x15]).toArray) := Lib.hid fun wr hb => by rw [← hrg]; exact hB.blk.below hb hrz
  have HRS : Hid (resumeR true b.before r.gr.result t.number = if r.gr.result = true then [t.number, iPoison, iPoison, iPoison, iPoison, iPoison, y6, y7, y8, y9, y10, y11, iPoison, iPoison, iPoison, iPoison] else [iPoison, iPoison, iPoison, iPoison, iPoison, iPoison, y6, y7, y8, y9, y10, y11, iPoison, iPoison, iPoison, iPoison]) := Lib.hid (by
    rw [hbf]
    cases r.gr.result <;> rfl)
  obtain ⟨q, hq⟩ : ∃ q, q = fg.fb := ⟨_, rfl⟩
  obtain ⟨z, hzz⟩ : ∃ z, z = g.rgb := ⟨_, rfl⟩
  obtain ⟨num, hnum⟩ : ∃ z, z = t.number := ⟨_, rfl⟩
  obtain ⟨res, hres⟩ : ∃ z, z = r.gr.result := ⟨_, rfl⟩
  obtain ⟨ga, hga⟩ : ∃ z, z = fo + t.f * 8 := ⟨_, rfl⟩
  rw [← hres] at hrv
  simp only [← hq, ← hzz, ← hnum, ← hres, ← hga] at *
  clear h hf hR hg hgl hF hB hl hlb hr hrg hbf hq hzz hnum hres hga
  go_enter Try.func211, Try.ntmps211
  go_wp2_with (go_at_call 213; refine (poisoned_lit _).mono ?_; rintro e w2 ⟨rfl, hb2⟩)
  obtain ⟨y, hy⟩ : ∃ y, y = w2.heap.size := ⟨_, rfl⟩
  have hyW : W.heap.size ≤ y := by rw [hy]; exact hb2.size
  refine (fun (hg : ∀ wf, wf = w2.alloc (.cells #[.int .u64 iPoison, .int .u64 iPoison, .int .u64 iPoison, .int .u64 iPoison, .int .u64 iPoison, .int .u64 iPoison, .int .u64 iPoison, .int .u64 iPoison, .int .u64 iPoison, .int .u64 iPoison, .int .u64 iPoison, .int .u64 iPoison, .int .u64 iPoison, .int .u64 iPoison, .int .u64 iPoison, .int .u64 iPoison] 94) → Code.wp _ _ _ _ wf) => hg _ rfl) ?_
  intro wf hwf
  have hBy : Blk wf y 94 (u64c poisL).toArray := by rw [hwf, hy]; exact Blk.new _ _ _
  have hbf : Below W.heap.size W wf := by rw [hwf]; exact hb2.alloc hb2.size _
  rw [← hy]
  clear hwf hb2 hy
  have hyz := hBy.lt
  have hqz : q < wf.heap.size := Nat.lt_of_lt_of_le hfz hbf.size
  go_cut [6, 7, 8, 9, 10, 11] (fun s6 s7 s8 s9 s10 s11 wx => Hid (Blk wx y 94 (u64c [iPoison, iPoison, iPoison, iPoison, iPoison, iPoison, y6, y7, y8, y9, y10, y11, iPoison, iPoison, iPoison, iPoison]).toArray ∧ Below W.heap.size W wx))
  case first =>
    go_region_law (refine step_copy_splice rfl (.tmp 6) (.tmp 10) 25 25 rfl 30 Try.underlying25 (by kernel_rfl) _ _ _ _ _ _ rfl rfl y 6 (u64c poisL) 94 (blk_heap hBy) (u64c [y6, y7, y8, y9, y10, y11]) rfl (fun _ => ⟨rfl, _, rfl, HC.out _ hbf.drew⟩) (by simp [u64c, poisL]) (u64c_one _) W.heap.size W hbf.drew hyW ?_; intro w4 hg4 hb4)
    all_goals
      go_wp2
      go_meet
    all_goals exact Lib.hid ⟨hg4.out, hb4⟩
  case rest =>
    obtain ⟨hB4, hb4⟩ := hcut.out
    clear hBy hyz hqz hbf hcut
    have hy4 := hB4.lt
    have hZ4 := HZ.out wc hb4
    have hz4 := hZ4.lt
    have hq4 : q < wc.heap.size := Nat.lt_of_lt_of_le hfz hb4.size
    have hf4 : fz < wc.heap.size := Nat.lt_of_lt_of_le hz hb4.size
    have ha4 : fa < wc.heap.size := Nat.lt_of_lt_of_le hfaW hb4.size
    have k0 := (hb4.cell (p := ⟨fz, 0, none⟩) hz).trans c0
    have k6 := (hb4.cell (p := ⟨fz, 6, none⟩) hz).trans c6
    have k4 := (hb4.cell (p := ⟨fa, ga + 4, none⟩) hfaW).trans c4
    have k7 := (hb4.cell (p := ⟨q, 7, none⟩) hfz).trans c7
    have hyz : y ≠ z := by omega
    have fy0 : wc.frozen? ⟨y, 0, none⟩ = false := hB4.frozen 0
    have ff : ∀ i, wc.frozen? ⟨z, i, none⟩ = false := fun i => hZ4.frozen i
    have a0 : wc.cell? ⟨y, 0, none⟩ = some (.int .u64 iPoison) := hB4.cell 0
    have z0 : wc.cell? ⟨z, 0, none⟩ = some (.int .u64 x0) := hZ4.cell 0
    have a1 : wc.cell? ⟨y, 1, none⟩ = some (.int .u64 iPoison) := hB4.cell 1
    have z1 : wc.cell? ⟨z, 1, none⟩ = some (.int .u64 x1) := hZ4.cell 1
    have a2 : wc.cell? ⟨y, 2, none⟩ = some (.int .u64 iPoison) := hB4.cell 2
    have z2 : wc.cell? ⟨z, 2, none⟩ = some (.int .u64 x2) := hZ4.cell 2
    have a3 : wc.cell? ⟨y, 3, none⟩ = some (.int .u64 iPoison) := hB4.cell 3
    have z3 : wc.cell? ⟨z, 3, none⟩ = some (.int .u64 x3) := hZ4.cell 3
    have a4 : wc.cell? ⟨y, 4, none⟩ = some (.int .u64 iPoison) := hB4.cell 4
    have z4 : wc.cell? ⟨z, 4, none⟩ = some (.int .u64 x4) := hZ4.cell 4
    have a5 : wc.cell? ⟨y, 5, none⟩ = some (.int .u64 iPoison) := hB4.cell 5
    have z5 : wc.cell? ⟨z, 5, none⟩ = some (.int .u64 x5) := hZ4.cell 5
    have a6 : wc.cell? ⟨y, 6, none⟩ = some (.int .u64 y6) := hB4.cell 6
    have z6 : wc.cell? ⟨z, 6, none⟩ = some (.int .u64 x6) := hZ4.cell 6
    have a7 : wc.cell? ⟨y, 7, none⟩ = some (.int .u64 y7) := hB4.cell 7
    have z7 : wc.cell? ⟨z, 7, none⟩ = some (.int .u64 x7) := hZ4.cell 7
    have a8 : wc.cell? ⟨y, 8, none⟩ = some (.int .u64 y8) := hB4.cell 8
    have z8 : wc.cell? ⟨z, 8, none⟩ = some (.int .u64 x8) := hZ4.cell 8
    have a9 : wc.cell? ⟨y, 9, none⟩ = some (.int .u64 y9) := hB4.cell 9
    have z9 : wc.cell? ⟨z, 9, none⟩ = some (.int .u64 x9) := hZ4.cell 9
    have a10 : wc.cell? ⟨y, 10, none⟩ = some (.int .u64 y10) := hB4.cell 10
    have z10 : wc.cell? ⟨z, 10, none⟩ = some (.int .u64 x10) := hZ4.cell 10
    have a11 : wc.cell? ⟨y, 11, none⟩ = some (.int .u64 y11) := hB4.cell 11
    have z11 : wc.cell? ⟨z, 11, none⟩ = some (.int .u64 x11) := hZ4.cell 11
    have a12 : wc.cell? ⟨y, 12, none⟩ = some (.int .u64 iPoison) := hB4.cell 12
    have z12 : wc.cell? ⟨z, 12, none⟩ = some (.int .u64 x12) := hZ4.cell 12
    have a13 : wc.cell? ⟨y, 13, none⟩ = some (.int .u64 iPoison) := hB4.cell 13
    have z13 : wc.cell? ⟨z, 13, none⟩ = some (.int .u64 x13) := hZ4.cell 13
    have a14 : wc.cell? ⟨y, 14, none⟩ = some (.int .u64 iPoison) := hB4.cell 14
    have z14 : wc.cell? ⟨z, 14, none⟩ = some (.int .u64 x14) := hZ4.cell 14
    have a15 : wc.cell? ⟨y, 15, none⟩ = some (.int .u64 iPoison) := hB4.cell 15
    have z15 : wc.cell? ⟨z, 15, none⟩ = some (.int .u64 x15) := hZ4.cell 15
    have HS : Hid (Blk (wc.setCell ⟨y, 0, none⟩ (.int .u64 num)) y 94 (u64c [num, iPoison, iPoison, iPoison, iPoison, iPoison, y6, y7, y8, y9, y10, y11, iPoison, iPoison, iPoison, iPoison]).toArray ∧ Below W.heap.size W (wc.setCell ⟨y, 0, none⟩ (.int .u64 num))) := Lib.hid ⟨hB4.set_ 0 _, hb4.setCell (p := ⟨y, 0, none⟩) hyW _⟩
    have HB4 := Lib.hid hb4
    clear c0 c6 c4 c7 HC HZ hb4 hB4 hZ4
    subst hrv
    have HRS' := HRS.out
    rw [if_neg (by decide)] at HRS'
    have HXF : Hid (IRunX w0 true rb tg fa fo n c rs { st with regs := resumeR true b.before false num } (q :: gl) z (setW wc.drew z 0 (u64c [iPoison, iPoison, iPoison, iPoison, iPoison, iPoison, y6, y7, y8, y9, y10, y11, iPoison, iPoison, iPoison, iPoison]))) := by rw [HRS']; exact Lib.hid (HX.out wc.drew _ HB4.out.drew rfl)
    have hxf := HXF.out
    rw [setW_drew] at hxf
    simp only [u64c, List.map_cons, List.map_nil, setW_cons', setW_nil', Nat.zero_add, Nat.reduceAdd] at hxf
    have HXG := Lib.hid hxf
    clear hxf HXF HX HRS HRS' HS HB4
    go_wp2
    go_region
    all_goals go_wp2
    all_goals go_end0
    all_goals exact ⟨rfl, HXG.out⟩
end
end Go.Proofs.Ytlnccpojldiogaa
