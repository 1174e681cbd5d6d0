/-
  Texts of one seat, one behind the other: IBin, IPte, ILoad, ILodN.
-/
import Derived.LoopTactic
import Derived.Deep.LoopGhost
import Derived.Deep.Cut
import Derived.Test.YtlnccpojldiogaaMBc

/-
  Package slices: BinarySearchFunc over a row of frames.
-/
namespace Go.Proofs.Ytlnccpojldiogaa
set_option linter.unusedVariables false
set_option linter.unusedSimpArgs false
open Go.ChangeShapes Go.WideShapes Go.ChangeAt Go.RowKit

def cmp3 (a b : Int) : Int := if a < b then -1 else if b < a then 1 else 0
/-- what the search has found -/
def FoundP (s : Nat → Int) (n : Nat) (y : Int) (W : World) (e : Ending) (w' : World) : Prop := ∃ (i : Nat) (ok : Bool), e = .returned (.tuple #[.int .i64 i, .bool ok]) ∧ (∃ q, w' = W.drewN q) ∧ (ok = true → i < n ∧ s i = y) ∧ (ok = false → ∀ k, k < n → s k ≠ y)
set_option maxRecDepth 100000 in
set_option maxHeartbeats 1600000 in
theorem bsearch_any (s : Nat → Int) (x : Nat → Value) (n cq q : Nat) (y : Int) (W : World) (hq : q < W.heap.size) (hn : n ≤ 1048577) (hnc : n ≤ cq) (hc : ∀ k, k < n → W.cell? ⟨q, k, none⟩ = some (x k)) (hs : ∀ a b, a < b → b < n → s a < s b)
    (hC : ∀ k, k < n → ∀ m, Calls Try.prog 159 #[x k, .int .u64 y] (W.drewN m) fun e w' => e = .returned (.int .i64 (cmp3 (s k) y)) ∧ ∃ m', w' = (W.drewN m).drewN m') :
    Calls Try.prog 161 #[.slice (some ⟨q, 0, none⟩) n cq, .int .u64 y, .func (.func 159) #[] #[]] W (FoundP s n y W) := by
  have HC := Lib.hid hC
  have HS := Lib.hid hs
  have HX := Lib.hid hc
  clear hC hs hc
  go_enter Try.func161, Try.ntmps161
  go_wp2
  go_loopg [9, 10] n (fun kx s9 s10 wr => ∃ lo hi m : Nat, s9 = .int .i64 lo ∧ s10 = .int .i64 hi ∧ lo ≤ hi ∧ hi ≤ n ∧ hi - lo ≤ kx ∧ wr = W.drewN m ∧ Hid ((∀ t, t < lo → s t < y) ∧ (∀ t, hi ≤ t → t < n → y ≤ s t)))
  case atStart => exact ⟨0, n, 0, rfl, rfl, Nat.zero_le _, Nat.le_refl _, by omega, rfl, Lib.hid ⟨fun t ht => absurd ht (Nat.not_lt_zero _), fun t h1 h2 => by omega⟩⟩
  case round =>
    obtain ⟨lo, hi, m, rfl, rfl, hlh, hin, hg, rfl, I⟩ := hrel
    by_cases hlt : lo < hi
    · have cm : (W.drewN m).cell? ⟨q, (lo + hi) / 2, none⟩ = some (x ((lo + hi) / 2)) := HX.out _ (by omega)
      have hc := HC.out ((lo + hi) / 2) (by omega) m
      obtain ⟨z, hz⟩ : ∃ z, z = cmp3 (s ((lo + hi) / 2)) y := ⟨_, rfl⟩
      rw [← hz] at hc
      have HZ := Lib.hid hz
      clear hz
      by_cases hyx : z < 0
      · go_wp2_with (go_at_call 159; refine hc.mono ?_; rintro e w' ⟨rfl, m', rfl⟩)
        go_roundg (hi - ((lo + hi) / 2 + 1))
        case measure => omega
        case rel =>
          have I2 : Hid ((∀ t, t < (lo + hi) / 2 + 1 → s t < y) ∧ (∀ t, hi ≤ t → t < n → y ≤ s t)) := Lib.hid ⟨fun t ht => by
            have h0 : s ((lo + hi) / 2) < y := by
              have := HZ.out
              unfold cmp3 at this
              split at this
              · assumption
              · split at this <;> omega
            by_cases h : t = (lo + hi) / 2
            · rw [h]; exact h0
            · exact Int.lt_trans (HS.out t ((lo + hi) / 2) (by omega) (by omega)) h0, I.out.2⟩
          exact ⟨(lo + hi) / 2 + 1, hi, m + m', by rw [show ((lo : Int) + (hi : Int)) / 2 + 1 = (((lo + hi) / 2 + 1 : Nat) : Int) by omega], rfl, by omega, hin, Nat.le_refl _, by first | rfl | exact World.drewN_drewN _ _ _, I2⟩
      · go_wp2_with (go_at_call 159; refine hc.mono ?_; rintro e w' ⟨rfl, m', rfl⟩)
        go_roundg ((lo + hi) / 2 - lo)
        case measure => omega
        case rel =>
          have I2 : Hid ((∀ t, t < lo → s t < y) ∧ (∀ t, (lo + hi) / 2 ≤ t → t < n → y ≤ s t)) := Lib.hid ⟨I.out.1, fun t ht htn => by
            have h0 : y ≤ s ((lo + hi) / 2) := by
              have := HZ.out
              unfold cmp3 at this
              split at this <;> omega
            by_cases h : t = (lo + hi) / 2
            · rw [h]; exact h0
            · exact Int.le_trans h0 (Int.le_of_lt (HS.out ((lo + hi) / 2) t (by omega) htn))⟩
          exact ⟨lo, (lo + hi) / 2, m + m', rfl, by rw [show ((lo : Int) + (hi : Int)) / 2 = (((lo + hi) / 2 : Nat) : Int) by omega], by omega, by omega, Nat.le_refl _, by first | rfl | exact World.drewN_drewN _ _ _, I2⟩
    · obtain rfl : hi = lo := by omega
      by_cases hnn : hi < n
      · have cl : (W.drewN m).cell? ⟨q, hi, none⟩ = some (x hi) := HX.out _ hnn
        have hc := HC.out hi hnn m
        obtain ⟨z, hz⟩ : ∃ z, z = cmp3 (s hi) y := ⟨_, rfl⟩
        rw [← hz] at hc
        have HZ := Lib.hid hz
        clear hz
        by_cases hyx : z = 0
        · have HF : Hid (∀ m', FoundP s n y W (.returned (.tuple #[.int .i64 hi, .bool true])) ((W.drewN m).drewN m')) := Lib.hid fun m' => ⟨hi, true, rfl, ⟨m + m', by first | rfl | exact World.drewN_drewN _ _ _⟩, fun _ => ⟨hnn, by
            have := HZ.out
            rw [hyx] at this
            unfold cmp3 at this
            split at this
            · omega
            · split at this <;> omega⟩, fun h => by cases h⟩
          go_wp2_with (go_at_call 159; refine hc.mono ?_; rintro e w' ⟨rfl, m', rfl⟩)
          go_ret2
          simpa [hnn, hyx] using HF.out m'
        · have HF : Hid (∀ m', FoundP s n y W (.returned (.tuple #[.int .i64 hi, .bool false])) ((W.drewN m).drewN m')) := Lib.hid fun m' => ⟨hi, false, rfl, ⟨m + m', by first | rfl | exact World.drewN_drewN _ _ _⟩, fun h => (by cases h), fun _ k hk he => by
            have hne : s hi ≠ y := by
              intro h
              have := HZ.out
              rw [h] at this
              unfold cmp3 at this
              rw [if_neg (by omega), if_neg (by omega)] at this
              exact hyx this
            rcases Nat.lt_trichotomy k hi with h | h | h
            · have := I.out.1 k h; omega
            · rw [h] at he; exact hne he
            · have h1 := I.out.2 hi (Nat.le_refl _) hnn
              have h2 := HS.out hi k h hk
              omega⟩
          go_wp2_with (go_at_call 159; refine hc.mono ?_; rintro e w' ⟨rfl, m', rfl⟩)
          go_ret2
          have hz0 : (z == 0) = false := by simpa using hyx
          simpa [hnn, hyx, hz0] using HF.out m'
      · have HF : Hid (FoundP s n y W (.returned (.tuple #[.int .i64 hi, .bool false])) (W.drewN m)) := Lib.hid ⟨hi, false, rfl, ⟨m, rfl⟩, fun h => (by cases h), fun _ k hk he => by have := I.out.1 k (by omega); omega⟩
        go_wp2
        go_ret2
        simpa [hnn] using HF.out
end Go.Proofs.Ytlnccpojldiogaa

/-
  Package irun: pointee: the cell that a word points at.
-/
namespace Go.Proofs.Ytlnccpojldiogaa
set_option linter.unusedVariables false
set_option linter.unusedSimpArgs false
open Go.ChangeShapes Go.WideShapes Go.ChangeAt Go.RowKit

section
variable {w0 W W' : World} {ow : Nat → Nat} {bd : Bool} {base rb tg fa fo rgb n c k : Nat} {rs : List RG} {st st' : IMc} {t t' : IFr} {bl fs : List IFr} {gs : List IG} {gl : List Nat} {fb b o : Nat} {r : RG} {p x : Int} {nd : RN}
/-- frames' serial numbers fall, from the last one on -/
def SerDown (fs : List IFr) : Prop := ∀ (i j : Nat) t u, fs[i]? = some t → fs[j]? = some u → i < j → u.serial < t.serial
theorem IFrsAt.at_ : ∀ {fs : List IFr} {gs : List IG} {j : Nat} {t : IFr}, IFrsAt W ow base bd fa fo rgb fs gs → fs[j]? = some t → ∃ g, gs[j]? = some g ∧ IFrAt W ow base bd fa fo rgb (fs.length - 1 - j) t g
  | [], _, j, t, _, hj => by simp at hj
  | _ :: _, [], _, _, h, _ => by cases h
  | u :: bl, g :: gs, 0, t, h, hj => by
    obtain rfl : u = t := by simpa using hj
    exact ⟨g, rfl, by simpa using h.1⟩
  | u :: bl, g :: gs, j + 1, t, h, hj => by
    obtain ⟨g', e1, e2⟩ := IFrsAt.at_ h.2 (by simpa using hj)
    exact ⟨g', by simpa using e1, by rw [show (u :: bl).length - 1 - (j + 1) = bl.length - 1 - j by simp; omega]; exact e2⟩
/-- frame j, from the last one on -/
theorem IRunX.at_ {j : Nat} (h : IRunX w0 bd rb tg fa fo n c rs st gl rgb W) (hj : st.frames[j]? = some t) : ∃ fb, gl[j]? = some fb ∧ fb < W.heap.size ∧ W.cell? ⟨fb, 2, none⟩ = some (.int .u64 t.serial) ∧ W.cell? ⟨fb, 0, none⟩ = some (.pointer (some ⟨fa, fo + t.f * 8, none⟩)) := by
  obtain ⟨g, ow, hR, rfl, hrg⟩ := h
  obtain ⟨fg, e1, e2⟩ := hR.frames.at_ hj
  refine ⟨fg.fb, by simp [e1], e2.blk.blk.lt, by rw [e2.blk.blk.cell]; exact ifrC_2, by rw [e2.blk.blk.cell]; exact ifrC_0⟩
/-- the row of frames, the first one first -/
theorem IRunX.row (h : IRunX w0 bd rb tg fa fo n c rs st gl rgb W) (h0 : st.hidn = 0) (hne : st.frames ≠ []) :
    ∃ q cq, W.cell? ⟨rb, 3, none⟩ = some (.slice (some ⟨q, 0, none⟩) st.frames.length cq) ∧ q < W.heap.size ∧ rb < W.heap.size ∧ st.frames.length ≤ cq ∧ gl.length = st.frames.length ∧ ∀ k, k < st.frames.length → W.cell? ⟨q, k, none⟩ = some (ifrV bd (gl.getD (st.frames.length - 1 - k) 0)) := by
  obtain ⟨g, ow, hR, rfl, hrg⟩ := h
  have h4 := hR.frs0 h0
  have hl := hR.frames.len
  have hpos : 0 < st.frames.length := (by cases h : st.frames with
    | nil => exact absurd h hne
    | cons _ _ => simp)
  obtain ⟨q, cq, hq⟩ := h4.form8 hpos
  rw [hq] at h4
  have hx : ∀ k, k < st.frames.length → (ifrVs bd g.gs)[k]? = some (ifrV bd ((g.gs.map (fun x => x.fb)).getD (st.frames.length - 1 - k) 0)) := by
    intro k hk
    unfold ifrVs
    rw [List.getElem?_reverse (by simp; omega), List.getElem?_map, List.length_map, hl]
    have : st.frames.length - 1 - k < g.gs.length := by omega
    rw [List.getElem?_eq_getElem this]
    simp [List.getD, List.getElem?_eq_getElem this]
  obtain ⟨e1, _, _, _, e5, _⟩ := h4.cell8 (hx 0 hpos)
  refine ⟨q, cq, ?_, e1, hR.run.blk.lt, e5, by simp [hl], fun k hk => ?_⟩
  · rw [hR.run.blk.cell]
    show some g.fv = _
    rw [hq]
  · obtain ⟨_, e2, _⟩ := h4.cell8 (hx k hk)
    exact e2
set_option maxRecDepth 100000 in
theorem isNaN_any (s : Int) : Calls Try.prog 177 #[.int .u64 s] W fun e w' => e = .returned (.bool false) ∧ W = w' := by
  go_enter Try.func177, Try.ntmps177
  go_wp2
  go_ret
  exact ⟨by simp, rfl⟩
set_option maxRecDepth 100000 in
theorem compare_any (s y : Int) : Calls Try.prog 160 #[.int .u64 s, .int .u64 y] W fun e w' => e = .returned (.int .i64 (cmp3 s y)) ∧ ∃ m', w' = W.drewN m' := by
  rcases Int.lt_trichotomy s y with h | h | h
  · have hc : cmp3 s y = -1 := by unfold cmp3; rw [if_pos h]
    rw [hc]
    clear hc
    have g1 : decide (s < y) = true := by simpa using h
    go_enter Try.func160, Try.ntmps160
    go_wp2_with (go_at_call 177; refine (isNaN_any _).mono ?_; rintro e w3 ⟨rfl, rfl⟩)
    go_ret
    exact ⟨rfl, 0, rfl⟩
  · have hc : cmp3 s y = 0 := by unfold cmp3; rw [if_neg (by omega), if_neg (by omega)]
    rw [hc]
    clear hc
    subst h
    have g1 : decide (s < s) = false := by simp
    have g2 : decide (s > s) = false := by simp
    go_enter Try.func160, Try.ntmps160
    go_wp2_with (go_at_call 177; refine (isNaN_any _).mono ?_; rintro e w3 ⟨rfl, rfl⟩)
    go_ret
    exact ⟨rfl, 0, rfl⟩
  · have hc : cmp3 s y = 1 := by unfold cmp3; rw [if_neg (by omega), if_pos h]
    rw [hc]
    clear hc
    have g1 : decide (s < y) = false := by simp; omega
    have g2 : decide (s > y) = true := by simp; omega
    go_enter Try.func160, Try.ntmps160
    go_wp2_with (go_at_call 177; refine (isNaN_any _).mono ?_; rintro e w3 ⟨rfl, rfl⟩)
    go_ret
    exact ⟨rfl, 0, rfl⟩
set_option maxRecDepth 100000 in
/-- how two serial numbers stand -/
theorem bySerial_any (s y : Int) (hz : fb < W.heap.size) (hs : W.cell? ⟨fb, 2, none⟩ = some (.int .u64 s)) :
    Calls Try.prog 159 #[ifrV bd fb, .int .u64 y] W fun e w' => e = .returned (.int .i64 (cmp3 s y)) ∧ ∃ m', w' = W.drewN m' := by
  unfold ifrV
  have hbm := body_m bd fb
  have hnb := nbody_m bd fb
  cases bd
  all_goals
    simp only [ptrI, ifrP, Bool.false_eq_true, if_false, if_true] at hbm hnb ⊢
    go_enter Try.func159, Try.ntmps159
    go_wp2_with (first
      | (go_at_call 203; refine (body_any fb _).mono ?_; rintro e w3 ⟨rfl, rfl⟩)
      | (go_at_call 160; refine (compare_any s y).mono ?_; rintro e w4 ⟨rfl, m', rfl⟩))
    all_goals
      go_ret
      exact ⟨rfl, _, rfl⟩
end
end Go.Proofs.Ytlnccpojldiogaa

/-
  Package irun: pointee; load, store.
-/
namespace Go.Proofs.Ytlnccpojldiogaa
set_option linter.unusedVariables false
set_option linter.unusedSimpArgs false
open Go.ChangeShapes Go.WideShapes Go.ChangeAt Go.RowKit

section
variable {w0 W W' : World} {ow : Nat → Nat} {bd : Bool} {base rb tg fa fo rgb n c k : Nat} {rs : List RG} {st st' : IMc} {t t' : IFr} {bl fs : List IFr} {gs : List IG} {gl : List Nat} {fb b o : Nat} {r : RG} {p x : Int} {nd : RN}
/-- what pointee answers -/
def PteP (gs : List Gr) (st : IMc) (gl : List Nat) (v : Int) (W : World) (e : Ending) (w' : World) : Prop :=
  (∃ q, w' = W.drewN q) ∧ ((∃ j cl fb, pointee gs st.frames v = some (j, cl) ∧ gl[j]? = some fb ∧ e = .returned (.tuple #[.pointer (some ⟨fb, 0, none⟩), .int .i64 (cl : Nat), .bool true])) ∨
    pointee gs st.frames v = none ∧ ∃ A c, e = .returned (.tuple #[A, c, .bool false]))
theorem findIdx_down {fs : List IFr} (hd : SerDown fs) {j : Nat} {t : IFr} (hj : fs[j]? = some t) {y : Int} (hy : (t.serial : Int) = y) : fs.findIdx? (fun u => decide ((u.serial : Int) = y)) = some j := by
  rw [List.findIdx?_eq_some_iff_getElem]
  obtain ⟨h1, h2⟩ := List.getElem?_eq_some_iff.1 hj
  refine ⟨h1, by rw [h2]; simpa using hy, fun i hi => ?_⟩
  have := hd i j fs[i] t (List.getElem?_eq_getElem (by omega)) hj hi
  simp
  omega
theorem findIdx_none {fs : List IFr} {y : Int} (h : ∀ (j : Nat) (t : IFr), fs[j]? = some t → (t.serial : Int) ≠ y) : fs.findIdx? (fun u => decide ((u.serial : Int) = y)) = none := by
  rw [List.findIdx?_eq_none_iff]
  intro u hu
  obtain ⟨j, hj⟩ := List.getElem?_of_mem hu
  simpa using h j u hj
theorem FoundP.yes {s : Nat → Int} {i m : Nat} {y : Int} {e : Ending} {w' : World} (h : FoundP s m y W e w') (hsm : ∀ a b, a < b → b < m → s a < s b) (hi : i < m) (hy : s i = y) : e = .returned (.tuple #[.int .i64 i, .bool true]) ∧ ∃ q, w' = W.drewN q := by
  obtain ⟨k, ok, rfl, hw, h1, h2⟩ := h
  cases ok with
  | false => exact absurd hy (h2 rfl i hi)
  | true =>
    obtain ⟨k1, k2⟩ := h1 rfl
    have : k = i := by
      rcases Nat.lt_trichotomy k i with hh | hh | hh
      · have := hsm k i hh hi; omega
      · exact hh
      · have := hsm i k hh k1; omega
    subst this
    exact ⟨rfl, hw⟩
theorem FoundP.no {s : Nat → Int} {m : Nat} {y : Int} {e : Ending} {w' : World} (h : FoundP s m y W e w') (hno : ∀ i, i < m → s i ≠ y) : ∃ k : Nat, e = .returned (.tuple #[.int .i64 k, .bool false]) ∧ ∃ q, w' = W.drewN q := by
  obtain ⟨k, ok, rfl, hw, h1, h2⟩ := h
  cases ok with
  | true => exact absurd (h1 rfl).2 (hno k (h1 rfl).1)
  | false => exact ⟨k, rfl, hw⟩
/-- the search for a frame, and what its answer means -/
structure PteS (w0 : World) (bd : Bool) (fa fo : Nat) (rs : List RG) (frames : List IFr) (gl : List Nat) (v : Int) (W : World) (q cq m : Nat) (y : Int) (cl : Nat) (s : Nat → Int) : Prop where
  strict : ∀ a b, a < b → b < m → s a < s b
  run : ∀ j, Calls Try.prog 161 #[.slice (some ⟨q, 0, none⟩) m cq, .int .u64 y, .func (.func 159) #[] #[]] (W.drewN j) (FoundP s m y (W.drewN j))
  no : (∀ k, k < m → s k ≠ y) → pointee (grs rs) frames v = none
  yes : ∀ i, i < m → s i = y → ∃ (t : IFr) (r : RG) (fb : Nat), gl[m - 1 - i]? = some fb ∧ fb < W.heap.size ∧ W.cell? ⟨q, i, none⟩ = some (ifrV bd fb) ∧ W.cell? ⟨fb, 0, none⟩ = some (.pointer (some ⟨fa, fo + t.f * 8, none⟩)) ∧ W.cell? ⟨fa, fo + t.f * 8 + 2, none⟩ = some (.int .i64 r.gr.cells) ∧ fa < W.heap.size ∧ 0 ≤ r.gr.cells ∧ r.gr.cells ≤ 64 ∧ pointee (grs rs) frames v = if (cl : Int) < r.gr.cells then some (m - 1 - i, cl) else none
theorem pte_pre (v : Int) (h : IRunX w0 bd rb tg fa fo n c rs st gl rgb W) (h0 : st.hidn = 0) (hne : st.frames ≠ []) (hd : SerDown st.frames) (hl : st.frames.length ≤ 1048577) (hrs : ∀ t ∈ st.frames, ∃ r, rs[t.f]? = some r) (N y : Int) (cl m : Nat) (hm : m = st.frames.length) (hN : N = (v - iFirst) % 18446744073709551616) (hy : y = N / 64) (hcl : N % 64 = (cl : Int)) :
    ∃ q cq s, W.cell? ⟨rb, 3, none⟩ = some (.slice (some ⟨q, 0, none⟩) m cq) ∧ q < W.heap.size ∧ rb < W.heap.size ∧ m ≤ cq ∧ PteS w0 bd fa fo rs st.frames gl v W q cq m y cl s := by
  obtain ⟨q, cq, x3, hqz, hrz, hcq, hgl, hrow⟩ := h.row h0 hne
  rw [← hm] at x3 hcq hgl hrow
  have hat : ∀ k, k < m → ∃ t, st.frames[m - 1 - k]? = some t ∧ ∃ fb, gl.getD (m - 1 - k) 0 = fb ∧ gl[m - 1 - k]? = some fb ∧ fb < W.heap.size ∧ W.cell? ⟨fb, 2, none⟩ = some (.int .u64 t.serial) ∧ W.cell? ⟨fb, 0, none⟩ = some (.pointer (some ⟨fa, fo + t.f * 8, none⟩)) := fun k hk => by
    have hlt : m - 1 - k < st.frames.length := by omega
    obtain ⟨fb, e1, e2, e3, e4⟩ := h.at_ (List.getElem?_eq_getElem hlt)
    exact ⟨_, List.getElem?_eq_getElem hlt, fb, by simp [List.getD, e1], e1, e2, e3, e4⟩
  obtain ⟨s, hs⟩ : ∃ s : Nat → Int, ∀ k t, k < m → st.frames[m - 1 - k]? = some t → s k = t.serial := ⟨fun k => ((st.frames.getD (m - 1 - k) ⟨0, 0, 0, 0, fun _ => 0, [], 0, 0, []⟩).serial : Int), fun k t hk ht => by simp [List.getD, ht]⟩
  have hsm : ∀ a b, a < b → b < m → s a < s b := fun a b hab hb => by
    obtain ⟨ta, ea, _⟩ := hat a (by omega)
    obtain ⟨tb, eb, _⟩ := hat b hb
    rw [hs a ta (by omega) ea, hs b tb hb eb]
    have := hd (m - 1 - b) (m - 1 - a) tb ta eb ea (by omega)
    omega
  refine ⟨q, cq, s, x3, hqz, hrz, hcq, hsm, fun j => ?_, fun hno => ?_, fun i hi hsi => ?_⟩
  · refine bsearch_any s (fun k => ifrV bd (gl.getD (m - 1 - k) 0)) m cq q y (W.drewN j) hqz (by omega) (by omega) (fun k hk => hrow k hk) hsm fun k hk i => ?_
    obtain ⟨t, e1, fb, e2, e3, e4, e5, _⟩ := hat k hk
    rw [hs k t hk e1]
    show Calls _ _ #[ifrV bd (gl.getD (m - 1 - k) 0), _] _ _
    rw [e2]
    exact bySerial_any (W := (W.drewN j).drewN i) t.serial y e4 e5
  · unfold pointee
    rw [← hN]
    simp only []
    rw [← hy, findIdx_none fun j t hj => ?_]
    have hlt := (List.getElem?_eq_some_iff.1 hj).1
    have := hno (m - 1 - j) (by omega)
    rw [hs (m - 1 - j) t (by omega) (by rw [show m - 1 - (m - 1 - j) = j by omega]; exact hj)] at this
    exact this
  · obtain ⟨t, e1, fb, e2, e3, e4, e5, e6⟩ := hat i hi
    obtain ⟨r, hr⟩ := hrs t (List.mem_of_getElem? e1)
    obtain ⟨g, ow, hR, hgg, hrg⟩ := h
    obtain ⟨_, _, p2, _, _, _, _, _, p9⟩ := prog_cells hR.prog hr
    obtain ⟨_, c1, c2, _⟩ := val_head hR.val hr
    have hx := hrow i hi
    rw [e2] at hx
    refine ⟨t, r, fb, e3, e4, hx, e6, p2, ?_, c1, c2, ?_⟩
    · have := hR.below.size; omega
    · unfold pointee
      rw [← hN]
      simp only []
      rw [← hy, findIdx_down hd e1 (by rw [← hs i t hi e1]; exact hsi)]
      simp only [e1, hcl]
      rw [grOf_at hr]
      simp
set_option maxRecDepth 100000 in
set_option maxHeartbeats 3200000 in
theorem pointee_no (v : Int) (q cq m cl : Nat) (N y : Int) (s : Nat → Int) (x3 : W.cell? ⟨rb, 3, none⟩ = some (.slice (some ⟨q, 0, none⟩) m cq)) (hqz : q < W.heap.size) (hrz : rb < W.heap.size) (hm : m ≤ cq) (hS : PteS w0 bd fa fo rs st.frames gl v W q cq m y cl s) (hml : m ≤ 1048577)
    (hN : (v - 13246092442546995200) % 18446744073709551616 = N) (N0 : 0 ≤ N) (N1 : N < 18446744073709551616) (hy : N / 64 = y) (hc : N % 64 = (cl : Int)) (hno : ∀ i, i < m → s i ≠ y) :
    Calls Try.prog 122 #[.pointer (some ⟨rb, 0, none⟩), .int .u64 v] W fun e w' => e = .returned (.tuple #[.pointer none, .int .i64 0, .bool false]) ∧ ∃ q, w' = W.drewN q := by
  have HB : Hid (∀ j, Calls Try.prog 161 #[.slice (some ⟨q, 0, none⟩) m cq, .int .u64 y, .func (.func 159) #[] #[]] (W.drewN j) fun e w' => ∃ k : Nat, e = .returned (.tuple #[.int .i64 k, .bool false]) ∧ ∃ q, w' = (W.drewN j).drewN q) := Lib.hid fun j => (hS.run j).mono fun e w' h => h.no hno
  have HB0 : Hid (Calls Try.prog 161 #[.slice (some ⟨q, 0, none⟩) m cq, .int .u64 y, .func (.func 159) #[] #[]] W fun e w' => ∃ k : Nat, e = .returned (.tuple #[.int .i64 k, .bool false]) ∧ ∃ q, w' = W.drewN q) := Lib.hid (HB.out 0)
  have cl64 : cl < 64 := by omega
  have y0 : 0 ≤ y := by omega
  have y1 : y < 288230376151711744 := by omega
  have hN2 : IntKind.u64.wrap (v - 13246092442546995200) = N := by rw [IntKind.wrap_u64]; exact hN
  have hN3 : N.tdiv 64 = y := by rw [Int.tdiv_eq_ediv_of_nonneg N0]; exact hy
  have hN4 : N.tmod 64 = (cl : Int) := by rw [Int.tmod_eq_emod_of_nonneg N0]; exact hc
  clear hS hno HB hN hy hc
  go_enter Try.func122, Try.ntmps122
  go_wp2_with (go_at_call 161; refine HB0.out.mono ?_; rintro e w2 ⟨k, rfl, q2, rfl⟩)
  go_ret3
  exact ⟨rfl, q2, rfl⟩
set_option maxRecDepth 100000 in
set_option maxHeartbeats 3200000 in
theorem pointee_yes (v : Int) (q cq m cl i : Nat) (N y : Int) (s : Nat → Int) (x3 : W.cell? ⟨rb, 3, none⟩ = some (.slice (some ⟨q, 0, none⟩) m cq)) (hqz : q < W.heap.size) (hrz : rb < W.heap.size) (hm : m ≤ cq) (hS : PteS w0 bd fa fo rs st.frames gl v W q cq m y cl s) (hml : m ≤ 1048577)
    (hN : (v - 13246092442546995200) % 18446744073709551616 = N) (N0 : 0 ≤ N) (N1 : N < 18446744073709551616) (hy : N / 64 = y) (hc : N % 64 = (cl : Int)) (hi : i < m) (hsi : s i = y) (e3 : W.cell? ⟨q, i, none⟩ = some (ifrV bd fb)) (e2 : fb < W.heap.size) (e4 : W.cell? ⟨fb, 0, none⟩ = some (.pointer (some ⟨fa, fo + t.f * 8, none⟩))) (e5 : W.cell? ⟨fa, fo + t.f * 8 + 2, none⟩ = some (.int .i64 r.gr.cells)) (e6 : fa < W.heap.size) (e7 : 0 ≤ r.gr.cells) (e8 : r.gr.cells ≤ 64) :
    Calls Try.prog 122 #[.pointer (some ⟨rb, 0, none⟩), .int .u64 v] W fun e w' => e = .returned (.tuple #[.pointer (some ⟨fb, 0, none⟩), .int .i64 cl, .bool (decide ((cl : Int) < r.gr.cells))]) ∧ ∃ q, w' = W.drewN q := by
  have HB0 : Hid (Calls Try.prog 161 #[.slice (some ⟨q, 0, none⟩) m cq, .int .u64 y, .func (.func 159) #[] #[]] W fun e w' => e = .returned (.tuple #[.int .i64 i, .bool true]) ∧ ∃ q, w' = W.drewN q) := Lib.hid ((hS.run 0).mono fun e w' h => h.yes hS.strict hi hsi)
  have cl64 : cl < 64 := by omega
  have y0 : 0 ≤ y := by omega
  have y1 : y < 288230376151711744 := by omega
  have hN2 : IntKind.u64.wrap (v - 13246092442546995200) = N := by rw [IntKind.wrap_u64]; exact hN
  have hN3 : N.tdiv 64 = y := by rw [Int.tdiv_eq_ediv_of_nonneg N0]; exact hy
  have hN4 : N.tmod 64 = (cl : Int) := by rw [Int.tmod_eq_emod_of_nonneg N0]; exact hc
  unfold ifrV at e3
  have hbm := body_m bd fb
  have hnb := nbody_m bd fb
  clear hS hN hy hc hsi
  cases bd
  all_goals
    simp only [ptrI, ifrP, Bool.false_eq_true, if_false, if_true] at hbm hnb e3 ⊢
    go_enter Try.func122, Try.ntmps122
    go_wp2_with (first
      | (go_at_call 161; refine HB0.out.mono ?_; rintro e w2 ⟨rfl, q2, rfl⟩)
      | (go_at_call 203; refine (body_any fb _).mono ?_; rintro e w3 ⟨rfl, rfl⟩))
    go_quiet (fail)
    go_wp2
    go_ret3
    exact ⟨rfl, q2 + nq, by first | rfl | rw [World.drewN_drewN]⟩
/-- pointee's answer is the same, however often the order was drawn -/
theorem pointee_fix (v : Int) (h : IRunX w0 bd rb tg fa fo n c rs st gl rgb W) (h0 : st.hidn = 0) (hne : st.frames ≠ []) (hd : SerDown st.frames) (hl : st.frames.length ≤ 1048577) (hrs : ∀ t ∈ st.frames, ∃ r, rs[t.f]? = some r) :
    ∃ (P C : Value) (B : Bool), (∀ j, Calls Try.prog 122 #[.pointer (some ⟨rb, 0, none⟩), .int .u64 v] (W.drewN j) fun e w' => e = .returned (.tuple #[P, C, .bool B]) ∧ ∃ q, w' = (W.drewN j).drewN q) ∧
      (B = true → ∃ (j cl fb : Nat), pointee (grs rs) st.frames v = some (j, cl) ∧ gl[j]? = some fb ∧ P = .pointer (some ⟨fb, 0, none⟩) ∧ C = .int .i64 cl) ∧ (B = false → pointee (grs rs) st.frames v = none) := by
  obtain ⟨N, hN⟩ : ∃ N : Int, N = (v - iFirst) % 18446744073709551616 := ⟨_, rfl⟩
  have N0 : 0 ≤ N := by rw [hN]; exact Int.emod_nonneg _ (by decide)
  have N1 : N < 18446744073709551616 := by rw [hN]; exact Int.emod_lt_of_pos _ (by decide)
  have hcl : N % 64 = ((N % 64).toNat : Int) := by omega
  obtain ⟨q, cq, s, x3, hqz, hrz, hm, hS⟩ := pte_pre v h h0 hne hd hl hrs N (N / 64) (N % 64).toNat _ rfl hN rfl hcl
  have hSj : ∀ j, PteS w0 bd fa fo rs st.frames gl v (W.drewN j) q cq st.frames.length (N / 64) (N % 64).toNat s := fun j => ⟨hS.strict, fun i => by have := hS.run (j + i); rw [← World.drewN_drewN] at this; exact this, hS.no, hS.yes⟩
  by_cases hx : ∃ i, i < st.frames.length ∧ s i = N / 64
  · obtain ⟨i, hi, hsi⟩ := hx
    obtain ⟨t, r, fb, e1, e2, e3, e4, e5, e6, e7, e8, e9⟩ := hS.yes i hi hsi
    refine ⟨_, _, _, fun j => pointee_yes (t := t) (r := r) (W := W.drewN j) (fb := fb) v q cq _ _ i N _ s x3 hqz hrz hm (hSj j) hl hN.symm N0 N1 rfl hcl hi hsi e3 e2 e4 e5 e6 e7 e8, fun hB => ?_, fun hB => ?_⟩
    · rw [if_pos (of_decide_eq_true hB)] at e9
      exact ⟨_, _, _, e9, e1, rfl, rfl⟩
    · rw [if_neg (of_decide_eq_false hB)] at e9
      exact e9
  · have hno : ∀ i, i < st.frames.length → s i ≠ N / 64 := fun i hi hsi => hx ⟨i, hi, hsi⟩
    exact ⟨_, _, _, fun j => pointee_no (W := W.drewN j) v q cq _ _ N _ s x3 hqz hrz hm (hSj j) hl hN.symm N0 N1 rfl hcl hno, fun h => (by cases h), fun _ => hS.no hno⟩
end
end Go.Proofs.Ytlnccpojldiogaa

/-
  Package irun: load, store where a word points at nothing.
-/
namespace Go.Proofs.Ytlnccpojldiogaa
set_option linter.unusedVariables false
set_option linter.unusedSimpArgs false
open Go.ChangeShapes Go.WideShapes Go.ChangeAt Go.RowKit

section
variable {w0 W W' : World} {ow : Nat → Nat} {bd : Bool} {base rb tg fa fo rgb n c k : Nat} {rs : List RG} {st st' : IMc} {t t' u : IFr} {bl fs : List IFr} {gs : List IG} {gl : List Nat} {fb b o : Nat} {r : RG} {p x : Int} {nd : RN}
set_option maxRecDepth 100000 in
set_option maxHeartbeats 3200000 in
theorem load_null (h : IRunX w0 bd rb tg fa fo n c rs st (fb :: gl) rgb W) (hf : st.frames = t :: bl) (h0 : st.hidn = 0) (hd : SerDown st.frames) (hl : st.frames.length ≤ 1048576) (hrs : ∀ t ∈ st.frames, ∃ r, rs[t.f]? = some r) (hr : rs[t.f]? = some r) (hN : NdAt w0 b o nd) (hb : b < w0.heap.size) (pa : PlOk r nd.nd.a) (hp : pointee (grs rs) st.frames (getP (grs rs) bd st.regs t nd.nd.a) = none) (hdo : st.doing ≠ 3) (hs : st.panics.length ≤ 1048576) (hmx : st.maxp ≤ 1048577) :
    Calls Try.prog 80 #[.pointer (some ⟨rb, 0, none⟩), ifrV bd fb, .pointer (some ⟨b, o, none⟩)] W fun e w' => e = .returned (.tuple #[]) ∧ IRunX w0 bd rb tg fa fo n c rs (st.raise iByNull) (fb :: gl) rgb w' := by
  have hNW := hN.kept hb h.low
  have c2 := hNW.c2
  have c4 := hNW.c4
  have c5 := hNW.c5
  obtain ⟨va, hva⟩ : ∃ v, v = getP (grs rs) bd st.regs t nd.nd.a := ⟨_, rfl⟩
  rw [← hva] at hp
  have HGA : Hid (∀ m, Calls Try.prog (getF bd) #[.pointer (some ⟨fb, 0, none⟩), .int .i64 nd.nd.a] (W.drewN m) fun e w' => e = .returned (.int .u64 va) ∧ ∃ q, w' = (W.drewN m).drewN q) := Lib.hid fun m => by
    rw [hva]
    exact get_any (h.on (below_drewN' (Below.refl _ _) m)) hf hr pa
  obtain ⟨P, C, B, hPT, hB1, hB0⟩ := pointee_fix va h h0 (by rw [hf]; simp) hd (by omega) hrs
  obtain rfl : B = false := by
    cases B with
    | false => rfl
    | true => obtain ⟨j, cl, fb', e1, _⟩ := hB1 rfl; rw [hp] at e1; cases e1
  have HPT := Lib.hid hPT
  have HRS : Hid (∀ q, Calls Try.prog 85 #[.pointer (some ⟨rb, 0, none⟩), .int .u64 18446744073709551614] (W.drewN q) fun e w' => e = .returned (.tuple #[]) ∧ IRunX w0 bd rb tg fa fo n c rs (st.raise iByNull) (fb :: gl) rgb w') := Lib.hid fun q => raise_any _ (h.on (below_drewN' (Below.refl _ _) q)) hdo hs hmx
  clear h hN hNW hva hPT hB1 hB0 hp
  unfold ifrV
  have hgm := get_m bd fb
  have hng := nget_m bd fb
  have hpm := put_m bd fb
  have hnp := nput_m bd fb
  cases bd
  all_goals
    simp only [ptrI, ifrP, getF, putF, Bool.false_eq_true, if_false, if_true] at hgm hng hpm hnp HGA  ⊢
    go_enter Try.func80, Try.ntmps80
    go_wp2
    go_quiet (first
      | (go_at_call 204; with_reducible exact Calls.quiet_of (HGA.out _))
      | (go_at_call 209; with_reducible exact Calls.quiet_of (HGA.out _))
      | (go_at_call 122; with_reducible exact Calls.quiet_of (HPT.out _)))
    have HR := Lib.hid (HRS.out nq)
    go_wp2_with (go_at_call 85; with_reducible refine HR.out.mono ?_; rintro e w4 ⟨rfl, h4⟩; have H4 := Lib.hid h4; clear h4)
    first
      | go_end0
      | refine bodyPost_ret (v := .tuple #[]) (by simp [results, Try.results80]) rfl ?_
    exact ⟨rfl, H4.out⟩
set_option maxRecDepth 100000 in
set_option maxHeartbeats 3200000 in
theorem store_null (h : IRunX w0 bd rb tg fa fo n c rs st (fb :: gl) rgb W) (hf : st.frames = t :: bl) (h0 : st.hidn = 0) (hd : SerDown st.frames) (hl : st.frames.length ≤ 1048576) (hrs : ∀ t ∈ st.frames, ∃ r, rs[t.f]? = some r) (hr : rs[t.f]? = some r) (hN : NdAt w0 b o nd) (hb : b < w0.heap.size) (pa : PlOk r nd.nd.a) (hp : pointee (grs rs) st.frames (getP (grs rs) bd st.regs t nd.nd.a) = none) (hdo : st.doing ≠ 3) (hs : st.panics.length ≤ 1048576) (hmx : st.maxp ≤ 1048577) :
    Calls Try.prog 81 #[.pointer (some ⟨rb, 0, none⟩), ifrV bd fb, .pointer (some ⟨b, o, none⟩)] W fun e w' => e = .returned (.tuple #[]) ∧ IRunX w0 bd rb tg fa fo n c rs (st.raise iByNull) (fb :: gl) rgb w' := by
  have hNW := hN.kept hb h.low
  have c2 := hNW.c2
  have c4 := hNW.c4
  have c5 := hNW.c5
  obtain ⟨va, hva⟩ : ∃ v, v = getP (grs rs) bd st.regs t nd.nd.a := ⟨_, rfl⟩
  rw [← hva] at hp
  have HGA : Hid (∀ m, Calls Try.prog (getF bd) #[.pointer (some ⟨fb, 0, none⟩), .int .i64 nd.nd.a] (W.drewN m) fun e w' => e = .returned (.int .u64 va) ∧ ∃ q, w' = (W.drewN m).drewN q) := Lib.hid fun m => by
    rw [hva]
    exact get_any (h.on (below_drewN' (Below.refl _ _) m)) hf hr pa
  obtain ⟨P, C, B, hPT, hB1, hB0⟩ := pointee_fix va h h0 (by rw [hf]; simp) hd (by omega) hrs
  obtain rfl : B = false := by
    cases B with
    | false => rfl
    | true => obtain ⟨j, cl, fb', e1, _⟩ := hB1 rfl; rw [hp] at e1; cases e1
  have HPT := Lib.hid hPT
  have HRS : Hid (∀ q, Calls Try.prog 85 #[.pointer (some ⟨rb, 0, none⟩), .int .u64 18446744073709551614] (W.drewN q) fun e w' => e = .returned (.tuple #[]) ∧ IRunX w0 bd rb tg fa fo n c rs (st.raise iByNull) (fb :: gl) rgb w') := Lib.hid fun q => raise_any _ (h.on (below_drewN' (Below.refl _ _) q)) hdo hs hmx
  clear h hN hNW hva hPT hB1 hB0 hp
  unfold ifrV
  have hgm := get_m bd fb
  have hng := nget_m bd fb
  have hpm := put_m bd fb
  have hnp := nput_m bd fb
  cases bd
  all_goals
    simp only [ptrI, ifrP, getF, putF, Bool.false_eq_true, if_false, if_true] at hgm hng hpm hnp HGA  ⊢
    go_enter Try.func81, Try.ntmps81
    go_wp2
    go_quiet (first
      | (go_at_call 204; with_reducible exact Calls.quiet_of (HGA.out _))
      | (go_at_call 209; with_reducible exact Calls.quiet_of (HGA.out _))
      | (go_at_call 122; with_reducible exact Calls.quiet_of (HPT.out _)))
    have HR := Lib.hid (HRS.out nq)
    go_wp2_with (go_at_call 85; with_reducible refine HR.out.mono ?_; rintro e w4 ⟨rfl, h4⟩; have H4 := Lib.hid h4; clear h4)
    first
      | go_end0
      | refine bodyPost_ret (v := .tuple #[]) (by simp [results, Try.results81]) rfl ?_
    exact ⟨rfl, H4.out⟩
end
end Go.Proofs.Ytlnccpojldiogaa
