/-
  SemFuel is true for every program, tape and two amounts of fuel: less fuel gives the same run as far as it goes, and a run that ended by itself stays as it is with more; no condition.
-/
import Derived.Test.YtdoabcmfblmklaaRows
import Derived.WalkKit
import Derived.ProofKit
import Derived.OpenShut
import Derived.ShutString
import Derived.ChangeOld
import Derived.Below
import Derived.SizedLaws
import Derived.Test.YtdoabcmfblmklaaMA9
import Derived.Test.YtdoabcmfblmklaaMA10

/-
  Package sem: less fuel is less of the same run: the mathematics.
-/
namespace Go.Proofs.Ytdoabcmfblmklaa
set_option linter.unusedVariables false
set_option linter.unusedSimpArgs false

section
variable {rs : List Raw} {st st1 st2 : Mc} {t : Fr} {bl : List Fr} {tape : List Int}
theorem exec_end {fs : List Fn} {i : Ins} : ∀ x, exec fs st t bl i = some x → x.endk = st.endk ∨ x.endk = 1 := by
  unfold exec
  rcases hs : t.stack with _ | ⟨v, _ | ⟨p, s⟩⟩ <;> rcases hq : st.panics with _ | ⟨⟨u, _ | _⟩, ps⟩ <;> simp only
  all_goals repeat' refine ite_some ?_ ?_
  all_goals first
    | exact none_some
    | exact map_some fun v => .inl rfl
    | exact some_some (.inl rfl)
    | exact some_some (.inr rfl)
theorem settle1_end {fs : List Fn} (h : settle1 fs st = some st1) : st1.endk = st.endk ∨ st1.endk = 1 ∨ st1.endk = 2 := by
  unfold settle1 at h
  repeat' split at h
  all_goals first
    | cases h
    | (simp only [Option.map_eq_some_iff] at h; obtain ⟨v, _, h⟩ := h; subst h; exact .inl rfl)
  all_goals first
    | exact .inl rfl
    | exact .inr (.inl rfl)
    | exact .inr (.inr rfl)
theorem settle_end {fs : List Fn} : ∀ {N : Nat} {st a : Mc}, settle fs N st = some a → st.endk ≠ 3 → a.endk ≠ 3
  | 0, _, _, h, _ => by cases h
  | N + 1, st, a, h, he => by
    unfold settle at h
    split at h
    · cases hs : settle1 fs st with
      | none => rw [hs] at h; cases h
      | some x =>
        rw [hs] at h
        refine settle_end h ?_
        have := settle1_end hs
        omega
    · injection h with h
      subst h
      exact he
theorem StepB.endk (h : StepB rs st st2) (he : st.endk ≠ 3) : st2.endk ≠ 3 ∧ st2.steps = st.steps + 1 := by
  obtain ⟨t, bl, r, i, x, s1, N, a1, a2, a3, a4, a5, a6, a7, a8, a9, a10, a11, a12, a13⟩ := h
  refine ⟨settle_end a10 ?_, a12⟩
  have h1 := exec_end _ a8
  have h2 : ({ st with steps := st.steps + 1 } : Mc).endk = st.endk := rfl
  omega
theorem RunB.endk : ∀ {n : Nat} {st a : Mc}, RunB rs n st a → st.endk ≠ 3 → a.endk ≠ 3 ∧ st.steps ≤ a.steps ∧ a.steps ≤ st.steps + n
  | 0, st, a, h, he => by
    have : a = st := h
    subst this
    exact ⟨he, by omega, by omega⟩
  | n + 1, st, a, h, he => by
    unfold RunB at h
    split at h
    · subst h
      exact ⟨he, by omega, by omega⟩
    · obtain ⟨x, e1, e2⟩ := h
      obtain ⟨h1, h2⟩ := e1.endk he
      obtain ⟨h3, h4, h5⟩ := RunB.endk e2 h1
      exact ⟨h3, by omega, by omega⟩
theorem beg_app (a l : List Ev) : beg a (a ++ l) = true := by
  unfold beg
  simp
theorem sam_self (a : List Ev) : sam a a = true := by unfold sam; simp
theorem RunAns.len {fuel : Nat} {er : Int} (h : RunAns rs tape fuel er st) (hf : fuel ≤ 1000000) : st.evs.length ≤ 1000000 ∧ st.steps ≤ fuel := by
  obtain ⟨_, _, rfl⟩ | ⟨_, _, stF, h3, h4, _, rfl⟩ := h
  · exact ⟨Nat.zero_le _, Nat.zero_le _⟩
  · obtain ⟨_, _, h5⟩ := h3.endk (by show (0 : Int) ≠ 3; decide)
    have h6 : (start (fns rs) tape).steps = 0 := rfl
    have h7 := h4.s4
    split
    · exact ⟨by omega, by omega⟩
    · exact ⟨by show stF.evs.length ≤ _; omega, by show stF.steps ≤ _; omega⟩
/-- two runs, one with less fuel -/
theorem fuel_math {a b : Nat} {e1 e2 : Int} (h1 : RunAns rs tape a e1 st1) (h2 : RunAns rs tape b e2 st2) (hab : a ≤ b) :
    e1 = e2 ∧ ((e1 ≠ 0 ∧ st1.evs = [] ∧ st2.evs = []) ∨ (e1 = 0 ∧ st1.endk ≠ 3 ∧ st1 = st2) ∨
      (e1 = 0 ∧ st1.endk = 3 ∧ st1.steps = a ∧ a ≤ st2.steps ∧ st2.steps ≤ b ∧ beg st1.evs st2.evs = true ∧ st1.depth ≤ st2.depth ∧ st1.defers ≤ st2.defers ∧ st1.maxp ≤ st2.maxp)) := by
  obtain ⟨v1, rfl, rfl⟩ | ⟨v1, rfl, f1, r1, g1, d1, q1⟩ := h1
  · obtain ⟨v2, rfl, rfl⟩ | ⟨v2, _⟩ := h2
    · exact ⟨rfl, .inl ⟨v1, rfl, rfl⟩⟩
    · exact absurd v2 v1
  · obtain ⟨v2, _⟩ | ⟨v2, rfl, f2, r2, g2, d2, q2⟩ := h2
    · exact absurd v1 v2
    · refine ⟨rfl, .inr ?_⟩
      have h0 : (start (fns rs) tape).endk ≠ 3 := by show (0 : Int) ≠ 3; decide
      have hs0 : (start (fns rs) tape).steps = 0 := rfl
      obtain ⟨a1, a2, a3⟩ := r1.endk h0
      obtain ⟨b1, b2, b3⟩ := r2.endk h0
      have hsp : RunB rs (b - a) f1 f2 := RunB.split r1 (by rw [show a + (b - a) = b by omega]; exact r2)
      obtain ⟨c1, c2, c3⟩ := hsp.endk a1
      have hg := hsp.grow
      rcases d1 with ⟨d1, d1'⟩ | d1
      · rw [if_neg (by omega)] at q1
        subst q1
        refine .inr ⟨rfl, rfl, d1', ?_, ?_, ?_, ?_, ?_, ?_⟩
        · subst q2
          split
          · omega
          · show a ≤ f2.steps
            omega
        · subst q2
          split
          · omega
          · show f2.steps ≤ b
            omega
        · obtain ⟨l, hl⟩ := hg.evs
          subst q2
          split
          · show beg f1.evs f2.evs = true
            rw [hl]
            exact beg_app _ _
          · show beg f1.evs f2.evs = true
            rw [hl]
            exact beg_app _ _
        · subst q2
          split
          · exact hg.depth
          · exact hg.depth
        · subst q2
          split
          · exact hg.defers
          · exact hg.defers
        · subst q2
          split
          · exact hg.maxp
          · exact hg.maxp
      · have hx : f2 = f1 := hsp.over d1
        subst hx
        rw [if_pos d1] at q1 q2
        subst q1 q2
        exact .inl ⟨rfl, a1, rfl⟩
end
end Go.Proofs.Ytdoabcmfblmklaa

/-
  SemFuel: the walk.
-/
namespace Go.Proofs.Ytdoabcmfblmklaa
set_option linter.unusedVariables false
set_option linter.unusedSimpArgs false
open Go.ChangeShapes Go.WideShapes Go.ChangeAt Go.RowKit

theorem tmod_in (x : Int) : -5000 < x.tmod 5000 ∧ x.tmod 5000 < 5000 := by
  rcases Int.le_total 0 x with h | h
  · rw [Int.tmod_eq_emod_of_nonneg h]
    omega
  · have h1 : (-x).tmod 5000 = (-x) % 5000 := Int.tmod_eq_emod_of_nonneg (by omega)
    rw [Int.neg_tmod] at h1
    omega
set_option maxRecDepth 100000 in
set_option maxHeartbeats 12800000 in
theorem fuel_walk (n c : Nat) (A : Option Addr) (rs : List Raw) (ta : Option Addr) (nt ct : Nat) (tape : List Int) (x y : Int) (w : World) (h : RdP w w.heap.size A n rs) (ht : Reads w w.heap.size 1 ta nt (u64c tape)) (hnt : nt * 8 ≤ 140737488351232) (htw : ∀ v ∈ tape, isW v) (hx : -9223372036854775808 ≤ x ∧ x ≤ 9223372036854775807) (hy : -9223372036854775808 ≤ y ∧ y ≤ 9223372036854775807) :
    Calls Try.prog 3 #[.agg #[.slice A n c], .slice ta nt ct, .agg #[.int .i64 x, .int .i64 y]] w fun e w' => e = .returned (.bool true) ∧ Below w.heap.size w w' := by
  obtain ⟨p, hp, hp1, hp2⟩ : ∃ p, x.tmod 5000 = p ∧ -5000 < p ∧ p < 5000 := ⟨_, rfl, (tmod_in x).1, (tmod_in x).2⟩
  obtain ⟨q, hq, hq1, hq2⟩ : ∃ q, y.tmod 5000 = q ∧ -5000 < q ∧ q < 5000 := ⟨_, rfl, (tmod_in y).1, (tmod_in y).2⟩
  have H := Lib.hid h
  have HT := Lib.hid ht
  have HTW := Lib.hid htw
  have hn0 := Lib.hid hnt
  clear h ht htw hx hy hnt
  have HB0 : Hid (Below w.heap.size w ((w.alloc (.cells #[.slice A n c] 24)).alloc (.cells #[.int .i64 x, .int .i64 y] 26))) := Lib.hid (((Below.refl _ _).alloc (Nat.le_refl _) _).alloc (by simp) _)
  have HX0 : Hid (Blk ((w.alloc (.cells #[.slice A n c] 24)).alloc (.cells #[.int .i64 x, .int .i64 y] 26)) w.heap.size 24 #[.slice A n c]) := Lib.hid ((Blk.new w _ _).alloc _)
  have HY0 : Hid (Blk ((w.alloc (.cells #[.slice A n c] 24)).alloc (.cells #[.int .i64 x, .int .i64 y] 26)) (w.heap.size + 1) 26 #[.int .i64 x, .int .i64 y]) := Lib.hid (blk_second _ _ _ _ _)
  go_enter Try.func3, Try.ntmps3
  go_wp2_with (go_at_call 8; refine (first6_any _).mono ?_; rintro e w1 ⟨rfl, hb1⟩; have HX1 := Lib.hid (HX0.out.below hb1 HX0.out.lt); have HY1 := Lib.hid (HY0.out.below hb1 HY0.out.lt); have HB1 := Lib.hid (HB0.out.trans (hb1.mono (by simp; omega))); clear hb1; refine Hid.out ?_)
  have x0 : w1.cell? ⟨w.heap.size, 0, none⟩ = some (.slice A n c) := HX1.out.cell 0
  have y0 : w1.cell? ⟨w.heap.size + 1, 0, none⟩ = some (.int .i64 x) := HY1.out.cell 0
  have y1 : w1.cell? ⟨w.heap.size + 1, 1, none⟩ = some (.int .i64 y) := HY1.out.cell 1
  have hz1 : w.heap.size + 1 < w1.heap.size := HY1.out.lt
  refine Lib.hid ?_
  go_wp2
  go_quiet (fail)
  by_cases hp0 : p < 0
  · have g1 : decide (p < 0) = true := by simpa using hp0
    go_wp2
    go_ret
    exact ⟨rfl, below_drewN HB1.out nq⟩
  by_cases hq0 : q < 0
  · have g1 : decide (p < 0) = false := by simpa using hp0
    have g2 : decide (q < 0) = true := by simpa using hq0
    go_wp2
    go_ret
    exact ⟨rfl, below_drewN HB1.out nq⟩
  have g1 : decide (p < 0) = false := by simpa using hp0
  have g2 : decide (q < 0) = false := by simpa using hq0
  obtain ⟨a, ha, ha5⟩ : ∃ a : Nat, (if q < p then q else p) = (a : Int) ∧ a < 5000 := ⟨(if q < p then q else p).toNat, by split <;> omega, by split <;> omega⟩
  obtain ⟨b, hb, hb5⟩ : ∃ b : Nat, (if p < q then q else p) = (b : Int) ∧ b < 5000 := ⟨(if p < q then q else p).toNat, by split <;> omega, by split <;> omega⟩
  have hab : a ≤ b := by split at ha <;> split at hb <;> omega
  obtain ⟨w1', hw1'⟩ : ∃ W, W = w1.drewN nq := ⟨_, rfl⟩
  have HX1' : Hid (Blk w1' w.heap.size 24 #[.slice A n c]) := Lib.hid (by rw [hw1']; exact HX1.out.drewN nq)
  have HB1' : Hid (Below w.heap.size w w1') := Lib.hid (by rw [hw1']; exact below_drewN HB1.out nq)
  have x0' : w1'.cell? ⟨w.heap.size, 0, none⟩ = some (.slice A n c) := HX1'.out.cell 0
  rw [← hw1']
  clear hw1' HX1 HB1 HY1
  have HR1 : Hid (∀ W, Below w.heap.size w W → Calls Try.prog 9 #[.agg #[.slice A n c], .slice ta nt ct, .int .i64 a] W (RunPost W rs tape a)) := Lib.hid fun W hW => run_full w.heap.size n c A rs ta nt ct tape a W (H.out.below hW) hW.size (HT.out.below hW) hn0.out HTW.out (by omega)
  have HR2 : Hid (∀ W, Below w.heap.size w W → Calls Try.prog 9 #[.agg #[.slice A n c], .slice ta nt ct, .int .i64 b] W (RunPost W rs tape b)) := Lib.hid fun W hW => run_full w.heap.size n c A rs ta nt ct tape b W (H.out.below hW) hW.size (HT.out.below hW) hn0.out HTW.out (by omega)
  have HAB := Lib.hid hab
  have HA5 : Hid (a ≤ 1000000) := Lib.hid (by omega)
  have HB5 : Hid (b ≤ 1000000) := Lib.hid (by omega)
  clear hp1 hp2 hq1 hq2 hp0 hq0 hab ha5 hb5
  go_wp2_with (go_at_call 9; refine (HR1.out _ HB1'.out).mono ?_; rintro e w2 ⟨A1, c1, st1, er1, rfl, hra, hown, hb2⟩; have HRA1 := Lib.hid hra; have HOWN1 := Lib.hid hown; have HX2 := Lib.hid (HX1'.out.below hb2 HX1'.out.lt); have HB2 := Lib.hid (HB1'.out.trans (hb2.mono HB1'.out.size)); clear hra hown hb2; refine Hid.out ?_)
  have x2 : w2.cell? ⟨w.heap.size, 0, none⟩ = some (.slice A n c) := HX2.out.cell 0
  have hz2 : w.heap.size < w2.heap.size := HX2.out.lt
  clear HR1 x0 y0 y1 x0'
  refine Lib.hid ?_
  obtain ⟨r, hr⟩ : ∃ r, r = w2.heap.size := ⟨_, rfl⟩
  have HRR := Lib.hid hr
  have HZ3 : Hid (Blk (w2.alloc (.cells #[.slice A1 st1.evs.length c1, .int .i64 st1.endk, .int .u64 st1.endv, .int .i64 st1.steps, .int .i64 st1.depth, .int .i64 st1.defers, .int .i64 st1.maxp] 34)) r 34 #[.slice A1 st1.evs.length c1, .int .i64 st1.endk, .int .u64 st1.endv, .int .i64 st1.steps, .int .i64 st1.depth, .int .i64 st1.defers, .int .i64 st1.maxp]) := Lib.hid (by rw [hr]; exact Blk.new w2 _ _)
  have HB3 : Hid (Below w.heap.size w (w2.alloc (.cells #[.slice A1 st1.evs.length c1, .int .i64 st1.endk, .int .u64 st1.endv, .int .i64 st1.steps, .int .i64 st1.depth, .int .i64 st1.defers, .int .i64 st1.maxp] 34))) := Lib.hid (HB2.out.alloc HB2.out.size _)
  have HO3 : Hid (Reads (w2.alloc (.cells #[.slice A1 st1.evs.length c1, .int .i64 st1.endk, .int .u64 st1.endv, .int .i64 st1.steps, .int .i64 st1.depth, .int .i64 st1.defers, .int .i64 st1.maxp] 34)) r 2 A1 st1.evs.length (evc6 st1.evs)) := Lib.hid (by rw [hr]; exact (Reads.of_own HOWN1.out).alloc (Nat.le_refl _) _)
  clear hr
  go_wp2_with (go_at_call 9; refine (HR2.out _ HB3.out).mono ?_; rintro e w4 ⟨A2, c2, st2, er2, rfl, hra, hown, hb4⟩; have HRA2 := Lib.hid hra; have HOWN2 := Lib.hid hown; have HB4' := Lib.hid hb4; clear hra hown hb4; refine Hid.out ?_)
  have hrw : r = w2.heap.size := HRR.out
  have hz4 : w2.heap.size < w4.heap.size := by have := HB4'.out.size; simp at this; omega
  have HB4 : Hid (Below w.heap.size w w4) := Lib.hid (HB3.out.trans (HB4'.out.mono (by simp; omega)))
  have HZ4 : Hid (Blk w4 r 34 #[.slice A1 st1.evs.length c1, .int .i64 st1.endk, .int .u64 st1.endv, .int .i64 st1.steps, .int .i64 st1.depth, .int .i64 st1.defers, .int .i64 st1.maxp]) := Lib.hid (HZ3.out.below HB4'.out HZ3.out.lt)
  have HO4 : Hid (Reads w4 w4.heap.size 2 A1 st1.evs.length (evc6 st1.evs)) := Lib.hid ((HO3.out.below (HB4'.out.mono (by rw [hrw]; simp))).more (by omega))
  have HP4 : Hid (Reads w4 w4.heap.size 2 A2 st2.evs.length (evc6 st2.evs)) := Lib.hid (Reads.of_own HOWN2.out)
  have z0 := HZ4.out.cell 0
  have z1 := HZ4.out.cell 1
  have z2 := HZ4.out.cell 2
  have z3 := HZ4.out.cell 3
  have z4 := HZ4.out.cell 4
  have z5 := HZ4.out.cell 5
  have z6 := HZ4.out.cell 6
  simp only [List.getElem?_toArray, List.getElem?_cons_succ, List.getElem?_cons_zero, hrw] at z0 z1 z2 z3 z4 z5 z6
  obtain ⟨hl1, _⟩ := HRA1.out.len HA5.out
  obtain ⟨hl2, _⟩ := HRA2.out.len HB5.out
  have HL1 := Lib.hid hl1
  have HL2 := Lib.hid hl2
  obtain ⟨he, hcs⟩ := fuel_math HRA1.out HRA2.out HAB.out
  clear HR2 HRA1 HRA2 HZ3 HB3 HO3 HOWN1 HOWN2 HB4' HZ4 x2 hrw HRR HX2 HB2 hl1 hl2 HX1'
  subst he
  have HBF : Hid (∀ o, Below w.heap.size w (w4.alloc o)) := Lib.hid fun o => HB4.out.alloc HB4.out.size o
  have HSAM : Hid (∀ o, Calls Try.prog 10 #[.slice A1 st1.evs.length c1, .slice A2 st2.evs.length c2] (w4.alloc o) fun e w' => e = .returned (.bool (sam st1.evs st2.evs)) ∧ ∃ q, w' = (w4.alloc o).drewN q) := Lib.hid fun o => refsame_any w4.heap.size A1 A2 _ _ c1 c2 _ _ _ (HO4.out.alloc (Nat.le_refl _) o) (HP4.out.alloc (Nat.le_refl _) o) rfl rfl (by have := HL1.out; unfold maxLen; omega) (by have := HL2.out; unfold maxLen; omega)
  have HBEG : Hid (∀ o, Calls Try.prog 11 #[.slice A1 st1.evs.length c1, .slice A2 st2.evs.length c2] (w4.alloc o) fun e w' => e = .returned (.bool (beg st1.evs st2.evs)) ∧ ∃ q, w' = (w4.alloc o).drewN q) := Lib.hid fun o => begins_any w4.heap.size A1 A2 _ _ c1 c2 _ _ _ (HO4.out.alloc (Nat.le_refl _) o) (HP4.out.alloc (Nat.le_refl _) o) rfl rfl (by have := HL1.out; unfold maxLen; omega) (by have := HL2.out; unfold maxLen; omega)
  clear HO4 HP4
  rcases hcs with ⟨h0, k1, k2⟩ | ⟨h0, k1, k2⟩ | ⟨h0, k1, k2, k3, k4, k5, k6, k7, k8⟩
  · have g3 : (er1 != 0) = true := by simpa using h0
    have l1 : st1.evs.length = 0 := by rw [k1]; rfl
    have l2 : st2.evs.length = 0 := by rw [k2]; rfl
    rw [l1] at z0 ⊢
    rw [l2]
    clear h0 k1 k2 l1 l2 HSAM HBEG
    refine Lib.hid ?_
    go_wp2
    go_ret
    exact ⟨rfl, HBF.out _⟩
  · subst h0 k2
    have g3 : (st1.endk != 3) = true := by simpa using k1
    have HS := HSAM
    rw [sam_self] at HS
    have hee : ∀ W, Sem.run Try.prog (Op.equalIn 10000 32 (.agg #[.int .i64 st1.endk, .int .u64 st1.endv]) (.agg #[.int .i64 st1.endk, .int .u64 st1.endv])) W = .ok true W := fun W => by
      have := equalIn_end (st1.endk, st1.endv) (st1.endk, st1.endv) W
      simpa using this
    clear k1 HSAM HBEG
    refine Lib.hid ?_
    go_wp2_with (go_at_call 10; refine (HS.out _).mono ?_; rintro e w5 ⟨rfl, q5, rfl⟩)
    go_ret
    exact ⟨rfl, below_drewN (HBF.out _) q5⟩
  · subst h0
    have HS := HBEG
    rw [k5] at HS
    have g4 : decide (a ≤ st2.steps) = true := by simpa using k3
    have g5 : decide (st2.steps ≤ b) = true := by simpa using k4
    have g6 : decide (st1.depth ≤ st2.depth) = true := by simpa using k6
    have g7 : decide (st1.defers ≤ st2.defers) = true := by simpa using k7
    have g8 : decide (st1.maxp ≤ st2.maxp) = true := by simpa using k8
    rw [k1] at z1 ⊢
    rw [k2] at z3 ⊢
    clear k1 k2 k3 k4 k5 k6 k7 k8 HSAM HBEG
    refine Lib.hid ?_
    go_wp2_with (go_at_call 11; refine (HS.out _).mono ?_; rintro e w5 ⟨rfl, q5, rfl⟩)
    go_ret
    exact ⟨rfl, below_drewN (HBF.out _) q5⟩
end Go.Proofs.Ytdoabcmfblmklaa

/-
  SemFuel is true for every program, tape and two amounts of fuel: less fuel gives the same run as far as it goes, and a run that ended by itself stays as it is with more; no condition.
-/
namespace Go.Proofs.Ytdoabcmfblmklaa.semFuel
open Go.ChangeShapes Go.WideShapes Go.ChangeAt Go.RowKit
set_option linter.unusedVariables false

theorem own : ownKnob Try.prog.godebug = none := by kernel_rfl
theorem laidOut : laidOutB Try.prog = true := by kernel_rfl

set_option maxRecDepth 100000 in
theorem lifted (os : Os) (started : os.Started) (H : Type) (enc : TypeId × Value → H) :
    ReturnsInHanded {} Try.checked os 3 .any (Rows.semFuelSpec.pre6 enc Try.prog Try.f3 Rows.semFuelRow.domain false) (Rows.semFuelSpec.post enc Try.prog Try.f3 false true false false) := by
  refine returnsInHanded_of_change_sized (C := Try.checked) own started (by kernel_rfl) Try.func3
    (ChangeSpec.witness6 (enc := enc) (C := Try.checked) false ⟨#[], #[.agg #[.slice none 0 0], .slice none 0 0, .agg #[.int .i64 0, .int .i64 0]], []⟩ 8 (by kernel_rfl) (by kernel_rfl) (by kernel_rfl) (by kernel_rfl)) ?_
  intro W base args ds gs before hval0 hW hcnd hsz0 _
  have hval : ∀ (j : Nat) t v, Try.f3.params[j]? = some t → args[j]? = some v → Value.okWide Try.prog W .any base t v := hval0
  have hsz : (DataW.weightsEach Try.prog (Try.f3.params.toList ++ Rows.semFuelSpec.plain.varTypes Try.prog) (ds ++ gs)).all (· ≤ reachBytes) = true := hsz0
  clear hsz0
  have hW' := hW
  obtain ⟨p, q, hA0, hV, rfl, hfz, hnd⟩ := hW
  have hA : DataW.TrodAll enc Try.prog W 0 (fun _ => true) true Try.f3.params.toList args.toList ds p := hA0
  rw [Try.params3] at hA hval hsz
  obtain ⟨v0, vs0, d0, ds0, p0, q0, hargs, rfl, rfl, h0, r0⟩ := trodAll_cons hA
  obtain ⟨v1, vs1, d1, ds1, p1, q1, rfl, rfl, rfl, h1, r1⟩ := trodAll_cons r0
  obtain ⟨v2, vs2, d2, ds2, p2, q2, rfl, rfl, rfl, h2, r2⟩ := trodAll_cons r1
  obtain ⟨rfl, rfl, rfl⟩ := trodAll_nil r2
  obtain rfl : args = #[v0, v1, v2] := by cases args; simp_all
  obtain ⟨rfl, rfl⟩ := trodVars_none hV
  have k0 := h0
  have lt0 : ∀ x ∈ p0, x.block < W.heap.size := by obtain ⟨m, hm⟩ := k0; exact DataW.trod_lt m _ _ _ hm
  have sm0 : Small 24 d0 := fun x hx => by simpa using List.all_eq_true.1 hsz x (DataW.weights_mem_each (j := 0) rfl rfl x hx)
  obtain ⟨a0, n0, c0, l0, rfl, r0'⟩ := open_prog (hval 0 24 v0 rfl rfl) h0 sm0
  have k1 := h1
  have lt1 : ∀ x ∈ p1, x.block < W.heap.size := by obtain ⟨m, hm⟩ := k1; exact DataW.trod_lt m _ _ _ hm
  have sm1 : Small 25 d1 := fun x hx => by simpa using List.all_eq_true.1 hsz x (DataW.weights_mem_each (j := 1) rfl rfl x hx)
  obtain ⟨a1, n1, c1, l1, rfl, r1', ln1, nc1, iw1, dd1⟩ := open_words (hval 1 25 v1 rfl rfl) h1
  have b1 : c1 * 8 ≤ 140737488351232 := by
    rcases dd1 with ⟨_, hc⟩ | ⟨elems, spare, hd, hc⟩
    · omega
    · rw [hd] at sm1
      have := small_slice sm1 Try.underlying25 (show Try.prog.bytesOf 30 = 8 by kernel_rfl)
      omega
  have k2 := h2
  have lt2 : ∀ x ∈ p2, x.block < W.heap.size := by obtain ⟨m, hm⟩ := k2; exact DataW.trod_lt m _ _ _ hm
  have sm2 : Small 26 d2 := fun x hx => by simpa using List.all_eq_true.1 hsz x (DataW.weights_mem_each (j := 2) rfl rfl x hx)
  obtain ⟨x2, y2, rfl, wx2, wy2⟩ := open_two (hval 2 26 v2 rfl rfl) h2
  clear hA0 hval0
  refine (fuel_walk _ _ _ _ _ _ _ _ x2 y2 W r0' r1' (by omega) iw1 wx2 wy2).mono fun e W' ⟨he, bel⟩ => ?_
  subst he
  exact ⟨_, rfl, _, _, _, [], _, [], hW', trodAll_mk1 (shut_bool Try.underlying4 _), (trodAll_cons_mk (Below.trod laidOut (by kernel_rfl) (of_decide_eq_true (by kernel_rfl)) k0 bel lt0) (trodAll_cons_mk (Below.trod laidOut (by kernel_rfl) (of_decide_eq_true (by kernel_rfl)) k1 bel lt1) (trodAll_cons_mk (Below.trod laidOut (by kernel_rfl) (of_decide_eq_true (by kernel_rfl)) k2 bel lt2) trodAll_mk0))), rfl, bel.frame _, fun h => by cases h⟩

theorem over : Rows.semFuelRow.holds Try.pinned (OpenSpec.ofChange Rows.semFuelSpec) :=
  OpenClaim.holds_of_wide 3 Try.f3 rfl rfl rfl rfl rfl rfl rfl ⟨rfl, rfl, rfl, rfl, rfl⟩ rfl rfl rfl rfl rfl (by kernel_rfl) Try.func3 (by kernel_rfl)
    (of_decide_eq_true (by kernel_rfl)) (by unfold Func.isWrapper; first | (rw [if_pos (by decide +kernel)]; kernel_rfl) | (rw [if_neg (by decide +kernel)]; exact ⟨rfl, rfl⟩))
    (fun os started H enc _ => lifted os started H enc)

theorem proved : Rows.SemFuelSaid := over
end Go.Proofs.Ytdoabcmfblmklaa.semFuel
