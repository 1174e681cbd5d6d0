/-
  Texts of one seat, one behind the other: IWaitB, IPois.
-/
import Derived.LoopTactic
import Derived.Deep.LoopGhost
import Derived.Test.YtlnccpojldiogaaMBc
import Derived.Test.YtlnccpojldiogaaMBf

/-
  Package irun: wait, read bound: the registers are set aside.
-/
namespace Go.Proofs.Ytlnccpojldiogaa
set_option linter.unusedVariables false
set_option linter.unusedSimpArgs false
open Go.ChangeShapes Go.WideShapes Go.ChangeAt Go.RowKit

/-- cells set, one behind the other -/
def setAt (cs : Array Value) (i : Nat) : List Value → Array Value
  | [] => cs
  | v :: vs => setAt (cs.setIfInBounds i v) (i + 1) vs
def setW (W : World) (g i : Nat) : List Value → World
  | [] => W
  | v :: vs => setW (W.setCell ⟨g, i, none⟩ v) g (i + 1) vs
theorem setW_ob {ow : Nat → Nat} {base r g : Nat} {t : TypeId} : ∀ (vs : List Value) (i : Nat) (W : World) (cs : Array Value), OB W ow base r g t cs → OB (setW W g i vs) ow base r g t (setAt cs i vs) ∧ Kr (e1 r) ow ow W (setW W g i vs)
  | [], i, W, cs, h => ⟨h, Kr.refl _ _ _⟩
  | v :: vs, i, W, cs, h => by
    obtain ⟨a, b⟩ := setW_ob vs (i + 1) _ _ (h.set_ i v)
    exact ⟨a, (Kr.set h i v).trans b⟩
theorem len16 {l : List Int} (h : l.length = 16) : ∃ a b c d e f g h i j k m n o p q, l = [a, b, c, d, e, f, g, h, i, j, k, m, n, o, p, q] := by
  rcases l with _ | ⟨a, _ | ⟨b, _ | ⟨c, _ | ⟨d, _ | ⟨e, _ | ⟨f, _ | ⟨g, _ | ⟨h', _ | ⟨i, _ | ⟨j, _ | ⟨k, _ | ⟨m, _ | ⟨n, _ | ⟨o, _ | ⟨p, _ | ⟨q, _ | ⟨x, l⟩⟩⟩⟩⟩⟩⟩⟩⟩⟩⟩⟩⟩⟩⟩⟩⟩
  all_goals first
    | (simp at h; done)
    | exact ⟨_, _, _, _, _, _, _, _, _, _, _, _, _, _, _, _, rfl⟩
    | (simp at h; omega)
section
variable {w0 W W' : World} {ow ow' : Nat → Nat} {ex : Nat → Prop} {bd : Bool} {base rb tg fa fo rgb n c k : Nat} {rs : List RG} {st st' st1 st2 st3 : IMc} {g g' : IRG} {t t' u : IFr} {bl : List IFr} {gl : List Nat} {fb b o fz : Nat} {r : RG} {nd : RN} {p x : Int} {d : IDf} {ds : List IDf} {ps : List (Int × Bool)}
theorem take_set_succ' {α : Type} {l : List α} {i : Nat} (v : α) (h : i < l.length) : (l.set i v).take (i + 1) = l.take i ++ [v] := by
  rw [List.take_add_one]
  simp [h, List.take_set_of_le]
theorem setAt_list : ∀ (vs l : List Value) (i : Nat), i + vs.length ≤ l.length → setAt l.toArray i vs = (l.take i ++ vs ++ l.drop (i + vs.length)).toArray
  | [], l, i, h => by simp [setAt]
  | v :: vs, l, i, h => by
    simp only [List.length_cons] at h
    rw [setAt, List.setIfInBounds_toArray, setAt_list vs (l.set i v) (i + 1) (by rw [List.length_set]; omega)]
    rw [List.length_cons, show i + (vs.length + 1) = i + 1 + vs.length by omega, List.drop_set_of_lt (by omega), take_set_succ' v (by omega)]
    simp
def ifrL (fa fo rgb : Nat) (t : IFr) (g : IG) : List Value := [.pointer (some ⟨fa, fo + t.f * 8, none⟩), .int .i64 t.why, .int .u64 t.serial, .int .i64 t.at_, g.pv, g.dv, .int .u64 t.number, ptrI rgb]
theorem ifrC_list (g : IG) : ifrC true fa fo rgb t g = (ifrL fa fo rgb t g ++ u64c t.before).toArray := by unfold ifrC ifrL; simp
theorem ifrC_before {g : IG} {l : List Int} (h1 : l.length = 16) (h2 : t.before.length = 16) : setAt (ifrC true fa fo rgb t g) 8 (u64c l) = ifrC true fa fo rgb { t with before := l } g := by
  rw [ifrC_list, ifrC_list, setAt_list _ _ _ (by simp [ifrL, u64c, h1, h2])]
  congr 1
  have e1 : (ifrL fa fo rgb t g ++ u64c t.before).take 8 = ifrL fa fo rgb t g := List.take_left' rfl
  have e2 : (ifrL fa fo rgb t g ++ u64c t.before).drop (8 + (u64c l).length) = [] := List.drop_of_length_le (by simp [ifrL, u64c, h1, h2])
  rw [e1, e2, List.append_nil]
  rfl
theorem ifrC_b (g : IG) {i : Nat} {x : Int} (h : t.before[i]? = some x) : (ifrC true fa fo rgb t g)[8 + i]? = some (.int .u64 x) := by
  rw [ifrC_list, List.getElem?_toArray, List.getElem?_append_right (by show 8 ≤ 8 + i; omega)]
  show (u64c t.before)[8 + i - 8]? = _
  rw [show 8 + i - 8 = i by omega]
  exact u64c_at h
set_option maxRecDepth 100000 in
set_option maxHeartbeats 3200000 in
theorem wait_bound (h : IRunX w0 true rb tg fa fo n c rs st (fb :: gl) rgb W) (hf : st.frames = t :: bl) :
    Calls Try.prog 212 #[.pointer (some ⟨fb, 0, none⟩), .pointer (some ⟨b, o, none⟩)] W fun e w' => e = .returned (.tuple #[]) ∧ IRunX w0 true rb tg fa fo n c rs (st.top { t with before := st.regs } bl) (fb :: gl) rgb w' := by
  obtain ⟨g, ow, fg, gs, hR, hg, rfl, hgl, rfl, hF⟩ := h.open_ hf
  obtain ⟨hB, hl⟩ := hR.regs rfl
  have hlb := hF.lbf rfl
  have HX : Hid (IRunX w0 true rb tg fa fo n c rs (st.top { t with before := st.regs } bl) (fg.fb :: gl) g.rgb (setW W fg.fb 8 (u64c st.regs))) := Lib.hid (by
    obtain ⟨hB2, kr⟩ := setW_ob (u64c st.regs) 8 W _ hF.blk
    have e := ifrC_before (t := t) (g := fg) (fa := fa) (fo := fo) (rgb := g.rgb) hl hlb
    rw [e] at hB2
    exact IRunX.close_ (fg := fg) (hR.top_ hf hg kr (fun x hx => by have : x = _ := hx; omega) ⟨hB2, hF.pag.kr kr (ne1 (by omega)) (ne1 (by omega)), hF.dfr.kr kr (ne1 (by omega)), fun j d hd => by
      obtain ⟨v, e1, e2⟩ := hF.args j d hd
      exact ⟨v, e1, e2.kr kr (ne1 (by omega))⟩, hF.lds, hF.lpg, fun _ => hl⟩ rfl) rfl hgl rfl)
  obtain ⟨x0, x1, x2, x3, x4, x5, x6, x7, x8, x9, x10, x11, x12, x13, x14, x15, hrg⟩ := len16 hl
  obtain ⟨y0, y1, y2, y3, y4, y5, y6, y7, y8, y9, y10, y11, y12, y13, y14, y15, hbf⟩ := len16 hlb
  have HX2 : Hid (IRunX w0 true rb tg fa fo n c rs (st.top { t with before := st.regs } bl) (fg.fb :: gl) g.rgb (setW W fg.fb 8 (u64c [x0, x1, x2, x3, x4, x5, x6, x7, x8, x9, x10, x11, x12, x13, x14, x15]))) := by rw [← hrg]; exact HX
  rw [hrg] at hB
  clear HX
  have c7 : W.cell? ⟨fg.fb, 7, none⟩ = some (.pointer (some ⟨g.rgb, 0, none⟩)) := by rw [hF.blk.blk.cell]; exact ifrC_7t
  have hfz : fg.fb < W.heap.size := hF.blk.blk.lt
  have hrz : g.rgb < W.heap.size := hB.blk.lt
  have hne : fg.fb ≠ g.rgb := by
    intro he
    have h1 := hF.blk.role
    have h2 := hB.role
    rw [he, h2] at h1
    omega
  have r0 : W.cell? ⟨g.rgb, 0, none⟩ = some (.int .u64 x0) := by rw [hB.blk.cell, List.getElem?_toArray]; exact u64c_at rfl
  have r1 : W.cell? ⟨g.rgb, 1, none⟩ = some (.int .u64 x1) := by rw [hB.blk.cell, List.getElem?_toArray]; exact u64c_at rfl
  have r2 : W.cell? ⟨g.rgb, 2, none⟩ = some (.int .u64 x2) := by rw [hB.blk.cell, List.getElem?_toArray]; exact u64c_at rfl
  have r3 : W.cell? ⟨g.rgb, 3, none⟩ = some (.int .u64 x3) := by rw [hB.blk.cell, List.getElem?_toArray]; exact u64c_at rfl
  have r4 : W.cell? ⟨g.rgb, 4, none⟩ = some (.int .u64 x4) := by rw [hB.blk.cell, List.getElem?_toArray]; exact u64c_at rfl
  have r5 : W.cell? ⟨g.rgb, 5, none⟩ = some (.int .u64 x5) := by rw [hB.blk.cell, List.getElem?_toArray]; exact u64c_at rfl
  have r6 : W.cell? ⟨g.rgb, 6, none⟩ = some (.int .u64 x6) := by rw [hB.blk.cell, List.getElem?_toArray]; exact u64c_at rfl
  have r7 : W.cell? ⟨g.rgb, 7, none⟩ = some (.int .u64 x7) := by rw [hB.blk.cell, List.getElem?_toArray]; exact u64c_at rfl
  have r8 : W.cell? ⟨g.rgb, 8, none⟩ = some (.int .u64 x8) := by rw [hB.blk.cell, List.getElem?_toArray]; exact u64c_at rfl
  have r9 : W.cell? ⟨g.rgb, 9, none⟩ = some (.int .u64 x9) := by rw [hB.blk.cell, List.getElem?_toArray]; exact u64c_at rfl
  have r10 : W.cell? ⟨g.rgb, 10, none⟩ = some (.int .u64 x10) := by rw [hB.blk.cell, List.getElem?_toArray]; exact u64c_at rfl
  have r11 : W.cell? ⟨g.rgb, 11, none⟩ = some (.int .u64 x11) := by rw [hB.blk.cell, List.getElem?_toArray]; exact u64c_at rfl
  have r12 : W.cell? ⟨g.rgb, 12, none⟩ = some (.int .u64 x12) := by rw [hB.blk.cell, List.getElem?_toArray]; exact u64c_at rfl
  have r13 : W.cell? ⟨g.rgb, 13, none⟩ = some (.int .u64 x13) := by rw [hB.blk.cell, List.getElem?_toArray]; exact u64c_at rfl
  have r14 : W.cell? ⟨g.rgb, 14, none⟩ = some (.int .u64 x14) := by rw [hB.blk.cell, List.getElem?_toArray]; exact u64c_at rfl
  have r15 : W.cell? ⟨g.rgb, 15, none⟩ = some (.int .u64 x15) := by rw [hB.blk.cell, List.getElem?_toArray]; exact u64c_at rfl
  have b0 : W.cell? ⟨fg.fb, 8, none⟩ = some (.int .u64 y0) := by rw [hF.blk.blk.cell]; exact ifrC_b (i := 0) fg (by rw [hbf]; rfl)
  have b1 : W.cell? ⟨fg.fb, 9, none⟩ = some (.int .u64 y1) := by rw [hF.blk.blk.cell]; exact ifrC_b (i := 1) fg (by rw [hbf]; rfl)
  have b2 : W.cell? ⟨fg.fb, 10, none⟩ = some (.int .u64 y2) := by rw [hF.blk.blk.cell]; exact ifrC_b (i := 2) fg (by rw [hbf]; rfl)
  have b3 : W.cell? ⟨fg.fb, 11, none⟩ = some (.int .u64 y3) := by rw [hF.blk.blk.cell]; exact ifrC_b (i := 3) fg (by rw [hbf]; rfl)
  have b4 : W.cell? ⟨fg.fb, 12, none⟩ = some (.int .u64 y4) := by rw [hF.blk.blk.cell]; exact ifrC_b (i := 4) fg (by rw [hbf]; rfl)
  have b5 : W.cell? ⟨fg.fb, 13, none⟩ = some (.int .u64 y5) := by rw [hF.blk.blk.cell]; exact ifrC_b (i := 5) fg (by rw [hbf]; rfl)
  have b6 : W.cell? ⟨fg.fb, 14, none⟩ = some (.int .u64 y6) := by rw [hF.blk.blk.cell]; exact ifrC_b (i := 6) fg (by rw [hbf]; rfl)
  have b7 : W.cell? ⟨fg.fb, 15, none⟩ = some (.int .u64 y7) := by rw [hF.blk.blk.cell]; exact ifrC_b (i := 7) fg (by rw [hbf]; rfl)
  have b8 : W.cell? ⟨fg.fb, 16, none⟩ = some (.int .u64 y8) := by rw [hF.blk.blk.cell]; exact ifrC_b (i := 8) fg (by rw [hbf]; rfl)
  have b9 : W.cell? ⟨fg.fb, 17, none⟩ = some (.int .u64 y9) := by rw [hF.blk.blk.cell]; exact ifrC_b (i := 9) fg (by rw [hbf]; rfl)
  have b10 : W.cell? ⟨fg.fb, 18, none⟩ = some (.int .u64 y10) := by rw [hF.blk.blk.cell]; exact ifrC_b (i := 10) fg (by rw [hbf]; rfl)
  have b11 : W.cell? ⟨fg.fb, 19, none⟩ = some (.int .u64 y11) := by rw [hF.blk.blk.cell]; exact ifrC_b (i := 11) fg (by rw [hbf]; rfl)
  have b12 : W.cell? ⟨fg.fb, 20, none⟩ = some (.int .u64 y12) := by rw [hF.blk.blk.cell]; exact ifrC_b (i := 12) fg (by rw [hbf]; rfl)
  have b13 : W.cell? ⟨fg.fb, 21, none⟩ = some (.int .u64 y13) := by rw [hF.blk.blk.cell]; exact ifrC_b (i := 13) fg (by rw [hbf]; rfl)
  have b14 : W.cell? ⟨fg.fb, 22, none⟩ = some (.int .u64 y14) := by rw [hF.blk.blk.cell]; exact ifrC_b (i := 14) fg (by rw [hbf]; rfl)
  have b15 : W.cell? ⟨fg.fb, 23, none⟩ = some (.int .u64 y15) := by rw [hF.blk.blk.cell]; exact ifrC_b (i := 15) fg (by rw [hbf]; rfl)
  have ff : ∀ i, W.frozen? ⟨fg.fb, i, none⟩ = false := fun i => hF.blk.blk.frozen i
  obtain ⟨q, hq⟩ : ∃ q, q = fg.fb := ⟨_, rfl⟩
  obtain ⟨z, hz⟩ : ∃ z, z = g.rgb := ⟨_, rfl⟩
  simp only [← hq, ← hz] at *
  clear h hf hR hg hgl hF hB hl hlb hrg hbf hq hz
  go_enter Try.func212, Try.ntmps212
  go_wp2
  go_end0
  exact ⟨rfl, HX2.out⟩
end
end Go.Proofs.Ytlnccpojldiogaa

/-
  Package irun: poisoned: sixteen poisoned registers.
-/
namespace Go.Proofs.Ytlnccpojldiogaa
set_option linter.unusedVariables false
set_option linter.unusedSimpArgs false
open Go.ChangeShapes Go.WideShapes Go.ChangeAt Go.RowKit

def poisL : List Int := List.replicate 16 iPoison
theorem poisL_at {k : Nat} (h : k < 16) : poisL[k]? = some iPoison := by unfold poisL; rw [List.getElem?_replicate, if_pos h]
theorem poisL_c {k : Nat} (h : k < 16) : (ivA poisL 16)[k]? = some (.int .u64 iPoison) := by
  rw [show ivA poisL 16 = ivA poisL poisL.length from rfl, ivA_full, List.getElem?_toArray]
  exact u64c_at (poisL_at h)
theorem setW_blk {g : Nat} {t : TypeId} : ∀ (vs : List Value) (i : Nat) (W : World) (cs : Array Value), Blk W g t cs → Blk (setW W g i vs) g t (setAt cs i vs)
  | [], i, W, cs, h => h
  | v :: vs, i, W, cs, h => setW_blk vs (i + 1) _ _ (h.set_ i v)
theorem setW_below {g B : Nat} (hg : B ≤ g) {w : World} : ∀ (vs : List Value) (i : Nat) (W : World), Below B w W → Below B w (setW W g i vs)
  | [], i, W, h => h
  | v :: vs, i, W, h => setW_below hg vs (i + 1) _ (h.setCell hg v)
set_option maxRecDepth 100000 in
set_option maxHeartbeats 1600000 in
theorem poisoned_any (w : World) : Calls Try.prog 213 #[] w fun e w' => e = .returned (.agg (u64c poisL).toArray) ∧ Below w.heap.size w w' := by
  have HI1 : Hid (Below w.heap.size w ((w.alloc (.cells (ivA poisL 0) 94)).alloc (.cells (ivA poisL 0) 94)) ∧ Blk ((w.alloc (.cells (ivA poisL 0) 94)).alloc (.cells (ivA poisL 0) 94)) (w.heap.size + 1) 94 (ivA poisL 0) ∧ Blk ((w.alloc (.cells (ivA poisL 0) 94)).alloc (.cells (ivA poisL 0) 94)) w.heap.size 94 (ivA poisL 0)) := Lib.hid ⟨((Below.refl _ _).alloc (Nat.le_refl _) _).alloc (by simp) _, by
    have h1 := Blk.new (w.alloc (.cells (ivA poisL 0) 94)) 94 (ivA poisL 0)
    rwa [show (w.alloc (.cells (ivA poisL 0) 94)).heap.size = w.heap.size + 1 by simp] at h1, (Blk.new _ _ _).alloc _⟩
  go_enter Try.func213, Try.ntmps213
  go_wp2
  go_loopw [3] (fun i wr => ∃ k : Nat, k ≤ 16 ∧ i = .int .i64 k ∧ Hid (Below w.heap.size w wr ∧ Blk wr (w.heap.size + 1) 94 (ivA poisL k) ∧ Blk wr w.heap.size 94 (ivA poisL 0))) (fun i _ => 16 - (intOf i).toNat)
  case atStart => exact ⟨0, Nat.zero_le _, rfl, HI1⟩
  case round =>
    clear HI1
    obtain ⟨k, hk, rfl, HR⟩ := hrel
    have hz := HR.out.2.1.lt
    by_cases hlt : k < 16
    · have HS : Hid (Below w.heap.size w (wr.setCell ⟨w.heap.size + 1, k, none⟩ (.int .u64 6510615555426900570)) ∧ Blk (wr.setCell ⟨w.heap.size + 1, k, none⟩ (.int .u64 6510615555426900570)) (w.heap.size + 1) 94 (ivA poisL (k + 1)) ∧ Blk (wr.setCell ⟨w.heap.size + 1, k, none⟩ (.int .u64 6510615555426900570)) w.heap.size 94 (ivA poisL 0)) := Lib.hid ⟨HR.out.1.setCell (by simp) _, by
        rw [← ivA_set (poisL_at hlt)]
        exact HR.out.2.1.set_ k _, HR.out.2.2.far (by simp) _⟩
      have y0 : wr.cell? ⟨w.heap.size + 1, k, none⟩ = some (.int .u64 0) := by rw [HR.out.2.1.cell]; exact ivA_lt hlt
      have f0 : wr.frozen? ⟨w.heap.size + 1, k, none⟩ = false := HR.out.2.1.frozen k
      go_wp2
      go_roundw
      case rel => exact ⟨k + 1, by omega, by go_num, HS⟩
      case measure => simp [intOf]; omega
    · obtain rfl : k = 16 := by omega
      have hz0 := HR.out.2.2.lt
      have y0 : wr.cell? ⟨w.heap.size + 1, 0, none⟩ = some (.int .u64 iPoison) := by rw [HR.out.2.1.cell]; exact poisL_c (by omega)
      have x0 : wr.cell? ⟨w.heap.size, 0, none⟩ = some (.int .u64 0) := by rw [HR.out.2.2.cell]; rfl
      have y1 : wr.cell? ⟨w.heap.size + 1, 1, none⟩ = some (.int .u64 iPoison) := by rw [HR.out.2.1.cell]; exact poisL_c (by omega)
      have x1 : wr.cell? ⟨w.heap.size, 1, none⟩ = some (.int .u64 0) := by rw [HR.out.2.2.cell]; rfl
      have y2 : wr.cell? ⟨w.heap.size + 1, 2, none⟩ = some (.int .u64 iPoison) := by rw [HR.out.2.1.cell]; exact poisL_c (by omega)
      have x2 : wr.cell? ⟨w.heap.size, 2, none⟩ = some (.int .u64 0) := by rw [HR.out.2.2.cell]; rfl
      have y3 : wr.cell? ⟨w.heap.size + 1, 3, none⟩ = some (.int .u64 iPoison) := by rw [HR.out.2.1.cell]; exact poisL_c (by omega)
      have x3 : wr.cell? ⟨w.heap.size, 3, none⟩ = some (.int .u64 0) := by rw [HR.out.2.2.cell]; rfl
      have y4 : wr.cell? ⟨w.heap.size + 1, 4, none⟩ = some (.int .u64 iPoison) := by rw [HR.out.2.1.cell]; exact poisL_c (by omega)
      have x4 : wr.cell? ⟨w.heap.size, 4, none⟩ = some (.int .u64 0) := by rw [HR.out.2.2.cell]; rfl
      have y5 : wr.cell? ⟨w.heap.size + 1, 5, none⟩ = some (.int .u64 iPoison) := by rw [HR.out.2.1.cell]; exact poisL_c (by omega)
      have x5 : wr.cell? ⟨w.heap.size, 5, none⟩ = some (.int .u64 0) := by rw [HR.out.2.2.cell]; rfl
      have y6 : wr.cell? ⟨w.heap.size + 1, 6, none⟩ = some (.int .u64 iPoison) := by rw [HR.out.2.1.cell]; exact poisL_c (by omega)
      have x6 : wr.cell? ⟨w.heap.size, 6, none⟩ = some (.int .u64 0) := by rw [HR.out.2.2.cell]; rfl
      have y7 : wr.cell? ⟨w.heap.size + 1, 7, none⟩ = some (.int .u64 iPoison) := by rw [HR.out.2.1.cell]; exact poisL_c (by omega)
      have x7 : wr.cell? ⟨w.heap.size, 7, none⟩ = some (.int .u64 0) := by rw [HR.out.2.2.cell]; rfl
      have y8 : wr.cell? ⟨w.heap.size + 1, 8, none⟩ = some (.int .u64 iPoison) := by rw [HR.out.2.1.cell]; exact poisL_c (by omega)
      have x8 : wr.cell? ⟨w.heap.size, 8, none⟩ = some (.int .u64 0) := by rw [HR.out.2.2.cell]; rfl
      have y9 : wr.cell? ⟨w.heap.size + 1, 9, none⟩ = some (.int .u64 iPoison) := by rw [HR.out.2.1.cell]; exact poisL_c (by omega)
      have x9 : wr.cell? ⟨w.heap.size, 9, none⟩ = some (.int .u64 0) := by rw [HR.out.2.2.cell]; rfl
      have y10 : wr.cell? ⟨w.heap.size + 1, 10, none⟩ = some (.int .u64 iPoison) := by rw [HR.out.2.1.cell]; exact poisL_c (by omega)
      have x10 : wr.cell? ⟨w.heap.size, 10, none⟩ = some (.int .u64 0) := by rw [HR.out.2.2.cell]; rfl
      have y11 : wr.cell? ⟨w.heap.size + 1, 11, none⟩ = some (.int .u64 iPoison) := by rw [HR.out.2.1.cell]; exact poisL_c (by omega)
      have x11 : wr.cell? ⟨w.heap.size, 11, none⟩ = some (.int .u64 0) := by rw [HR.out.2.2.cell]; rfl
      have y12 : wr.cell? ⟨w.heap.size + 1, 12, none⟩ = some (.int .u64 iPoison) := by rw [HR.out.2.1.cell]; exact poisL_c (by omega)
      have x12 : wr.cell? ⟨w.heap.size, 12, none⟩ = some (.int .u64 0) := by rw [HR.out.2.2.cell]; rfl
      have y13 : wr.cell? ⟨w.heap.size + 1, 13, none⟩ = some (.int .u64 iPoison) := by rw [HR.out.2.1.cell]; exact poisL_c (by omega)
      have x13 : wr.cell? ⟨w.heap.size, 13, none⟩ = some (.int .u64 0) := by rw [HR.out.2.2.cell]; rfl
      have y14 : wr.cell? ⟨w.heap.size + 1, 14, none⟩ = some (.int .u64 iPoison) := by rw [HR.out.2.1.cell]; exact poisL_c (by omega)
      have x14 : wr.cell? ⟨w.heap.size, 14, none⟩ = some (.int .u64 0) := by rw [HR.out.2.2.cell]; rfl
      have y15 : wr.cell? ⟨w.heap.size + 1, 15, none⟩ = some (.int .u64 iPoison) := by rw [HR.out.2.1.cell]; exact poisL_c (by omega)
      have x15 : wr.cell? ⟨w.heap.size, 15, none⟩ = some (.int .u64 0) := by rw [HR.out.2.2.cell]; rfl
      have f0 : ∀ i, wr.frozen? ⟨w.heap.size, i, none⟩ = false := fun i => HR.out.2.2.frozen i
      go_wp2
      refine (fun (hg : ∀ wf, wf = setW wr w.heap.size 0 (u64c poisL) → bodyPost _ _ _ _ _ wf) => hg _ rfl) ?_
      intro wf hwf
      have hB := setW_blk (u64c poisL) 0 wr _ HR.out.2.2
      have hb := setW_below (Nat.le_refl w.heap.size) (u64c poisL) 0 wr HR.out.1
      rw [← hwf] at hB hb
      have d0 : wf.cell? ⟨w.heap.size, 0, none⟩ = some (.int .u64 iPoison) := by rw [hB.cell]; rfl
      have d1 : wf.cell? ⟨w.heap.size, 1, none⟩ = some (.int .u64 iPoison) := by rw [hB.cell]; rfl
      have d2 : wf.cell? ⟨w.heap.size, 2, none⟩ = some (.int .u64 iPoison) := by rw [hB.cell]; rfl
      have d3 : wf.cell? ⟨w.heap.size, 3, none⟩ = some (.int .u64 iPoison) := by rw [hB.cell]; rfl
      have d4 : wf.cell? ⟨w.heap.size, 4, none⟩ = some (.int .u64 iPoison) := by rw [hB.cell]; rfl
      have d5 : wf.cell? ⟨w.heap.size, 5, none⟩ = some (.int .u64 iPoison) := by rw [hB.cell]; rfl
      have d6 : wf.cell? ⟨w.heap.size, 6, none⟩ = some (.int .u64 iPoison) := by rw [hB.cell]; rfl
      have d7 : wf.cell? ⟨w.heap.size, 7, none⟩ = some (.int .u64 iPoison) := by rw [hB.cell]; rfl
      have d8 : wf.cell? ⟨w.heap.size, 8, none⟩ = some (.int .u64 iPoison) := by rw [hB.cell]; rfl
      have d9 : wf.cell? ⟨w.heap.size, 9, none⟩ = some (.int .u64 iPoison) := by rw [hB.cell]; rfl
      have d10 : wf.cell? ⟨w.heap.size, 10, none⟩ = some (.int .u64 iPoison) := by rw [hB.cell]; rfl
      have d11 : wf.cell? ⟨w.heap.size, 11, none⟩ = some (.int .u64 iPoison) := by rw [hB.cell]; rfl
      have d12 : wf.cell? ⟨w.heap.size, 12, none⟩ = some (.int .u64 iPoison) := by rw [hB.cell]; rfl
      have d13 : wf.cell? ⟨w.heap.size, 13, none⟩ = some (.int .u64 iPoison) := by rw [hB.cell]; rfl
      have d14 : wf.cell? ⟨w.heap.size, 14, none⟩ = some (.int .u64 iPoison) := by rw [hB.cell]; rfl
      have d15 : wf.cell? ⟨w.heap.size, 15, none⟩ = some (.int .u64 iPoison) := by rw [hB.cell]; rfl
      refine bodyPost_ret (v := .agg (u64c poisL).toArray) (by simp [results, Try.results213, go_sem, d0, d1, d2, d3, d4, d5, d6, d7, d8, d9, d10, d11, d12, d13, d14, d15]; rfl) rfl ⟨rfl, hb⟩
end Go.Proofs.Ytlnccpojldiogaa
