/-
  Package text's wordsOf.
-/
import Derived.Test.YtbpobbadmbafaaaDoorTFields
namespace Go.Proofs.YtbpobbadmbafaaaDoor
set_option linter.unusedVariables false
open Go.ChangeShapes Go.WideShapes Go.ChangeAt Go.RowKit
attribute [local go_sem] Oper.semAt_some

/-- words as cells -/
def strs (l : List (List UInt8)) : List Value := l.map fun b => .string (str b)
theorem strs_append (a b : List (List UInt8)) : strs (a ++ b) = strs a ++ strs b := by simp [strs]
theorem length_strs (l : List (List UInt8)) : (strs l).length = l.length := by simp [strs]
theorem Tryd.info9 : (Tryd.prog.info? 9).map (fun i => (i.zero, i.size, i.bytes)) = some (some (.string (str [])), 1, 16) := by kernel_rfl

set_option maxHeartbeats 1000000 in
theorem fseq_any (X : ByteArray) (w : World) : Calls Tryd.prog 19 #[.string X, .func (.func 20) #[] #[]] w fun e w' =>
    e = .returned (.func (.func 35) #[] #[.pointer (some ⟨w.heap.size, 0, none⟩), .pointer (some ⟨w.heap.size + 1, 0, none⟩)]) ∧ w' = (w.alloc (.cells #[.string X] 9)).alloc (.cells #[.func (.func 20) #[] #[]] 59) := by
  go_enter Tryd.func19, Tryd.ntmps19
  go_wp2
  go_ret
  exact ⟨rfl, rfl⟩

/-- the words so far, in the variable's box -/
def WI (w : World) (pre : List (List UInt8)) (W : World) : Prop :=
  ∃ v, Boxed W w.heap.size 46 v ∧ W.ownsRow (w.heap.size + 3) 9 1 v pre.length (strs pre) ∧ Below w.heap.size w W ∧ w.heap.size + 3 ≤ W.heap.size
theorem own_lt {W : World} {base size k : Nat} {e : TypeId} {v : Value} {xs : List Value} (h : W.ownsRow base e size v k xs) {g : Nat} (hg : v.ownBlock = some g) : base ≤ g ∧ g < W.heap.size := own_block_le h hg
theorem wi_turn {w X Y : World} {pre : List (List UInt8)} (h : WI w pre X) (ht : Turn (w.heap.size + 1) X Y) : WI w pre Y := by
  obtain ⟨v, h1, h2, h3, h4⟩ := h
  refine ⟨v, ht.boxed h1 (by omega), own_kept h2 (fun i hi => ?_), h3.trans (ht.below (by omega) (by omega)), by have := ht.size; omega⟩
  have := own_lt h2 hi
  exact ht.block this.2 (by omega)
theorem wi_own (w : World) (D : Nat) (hD : w.heap.size ≤ D) : OwnFrom D (WI w) := by
  rintro pre X Y row ⟨v, h1, h2, h3, h4⟩ hg hr
  refine ⟨v, h1.kept hg (fun e => ?_), own_kept h2 (fun i hi => ?_), ?_, by have := hg.size; omega⟩
  · obtain ⟨_, o, ho, hc⟩ := hr _ e.symm
    unfold Boxed at h1
    rw [h1] at ho; cases ho; cases hc
  · refine hg.block i (own_lt h2 hi).2 (fun e => ?_)
    obtain ⟨_, o, ho, hc⟩ := hr i e.symm
    rcases h2.2 with ⟨rfl, _⟩ | ⟨g, cap, cur, rfl, _, hb, _⟩
    · simp [Value.ownBlock] at hi
    · obtain rfl : g = i := by simpa [Value.ownBlock] using hi
      rw [hb] at ho; cases ho; cases hc
  · exact h3.trans ((Below.refl _ X).grown hg (by omega) (fun k e => by have := (hr k e).1; omega))
theorem wi_step {w W w1 : World} {pre : List (List UInt8)} {x : List UInt8} {v v' : Value} {o : Obj} (hv : Boxed W w.heap.size 46 v) (hrow : W.ownsRow (w.heap.size + 3) 9 1 v pre.length (strs pre)) (hB : Below w.heap.size w W) (hsz : w.heap.size + 3 ≤ W.heap.size)
    (hown : w1.ownsRow (w.heap.size + 3) 9 1 v' (pre.length + 1) (strs pre ++ [.string (str x)])) (hg : (W.alloc o).grownBy w1 v.ownBlock) :
    Boxed w1 w.heap.size 46 v ∧ Boxed (w1.setCell ⟨w.heap.size, 0, none⟩ v') w.heap.size 46 v' ∧ Hid (KeepsFrom (w.heap.size + 3) W (w1.setCell ⟨w.heap.size, 0, none⟩ v') ∧ Kept w.heap.size (w.heap.size + 1) (w.heap.size + 3) W (w1.setCell ⟨w.heap.size, 0, none⟩ v') ∧ WI w (pre ++ [x]) (w1.setCell ⟨w.heap.size, 0, none⟩ v')) := by
  have hne : ∀ b, b < w.heap.size + 3 → some b ≠ v.ownBlock := fun b hb e => by have := own_lt hrow e.symm; omega
  have hb1 : ∀ b, b < w.heap.size + 3 → w1.heap[b]? = W.heap[b]? := fun b hb => (hg.block b (by simp; omega) (hne b hb)).trans (Below.heap_alloc W o b (by omega))
  have hv1 : Boxed w1 w.heap.size 46 v := (hb1 _ (by omega)).trans hv
  have hbw : Below w.heap.size W (w1.setCell ⟨w.heap.size, 0, none⟩ v') :=
    ((((Below.refl _ W).alloc hB.size o).grown hg (by simp; omega) (fun k e => by have := own_lt hrow e; omega)).setCell (p := ⟨w.heap.size, 0, none⟩) (Nat.le_refl _) v')
  have hko : KeepsOthers W (w1.setCell ⟨w.heap.size, 0, none⟩ v') := by
    refine ((KeepsOthers.alloc W o).trans (KeepsOthers.of_grownBy hg fun j p ej hj => ?_)).trans (KeepsOthers.setCell _ _ _)
    rcases hrow.2 with ⟨rfl, _⟩ | ⟨g, cap, cur, rfl, _, hgb, _⟩
    · simp [Value.ownBlock] at ej
    · obtain rfl : g = j := by simpa [Value.ownBlock] using ej
      rw [Below.heap_alloc W o g (Array.getElem?_eq_some_iff.1 hgb).1, hgb] at hj
      cases hj; rfl
  refine ⟨hv1, hv1.set v', ⟨hko.from _, ⟨hbw, fun b h1 h2 p hp hc => ?_⟩, v', hv1.set v', ?_, hB.trans hbw, by have := hko.size; omega⟩⟩
  · exact (Below.heap_setCell w1 ⟨w.heap.size, 0, none⟩ v' b (by simp; omega)).trans ((hb1 b (by omega)).trans hp)
  · rw [List.length_append, strs_append]
    refine own_kept hown fun i hi => Below.heap_setCell w1 ⟨w.heap.size, 0, none⟩ v' i ?_
    have := own_lt hown hi
    simp; omega
theorem own_base {W : World} {base base' size k : Nat} {e : TypeId} {v : Value} {xs : List Value} (h : W.ownsRow base e size v k xs) (hb : base' ≤ base) : W.ownsRow base' e size v k xs := by
  obtain ⟨h1, h2⟩ := h
  refine ⟨h1, ?_⟩
  rcases h2 with h2 | ⟨g, cap, cur, rfl, hg, hr⟩
  · exact .inl h2
  · exact .inr ⟨g, cap, cur, rfl, by omega, hr⟩
def WordsPost (t : List UInt8) (w : World) (e : Ending) (w' : World) : Prop :=
  ∃ (A : Option Addr) (k c : Nat), e = .returned (.slice A k c) ∧ ((wordsL t).take 6).length = k ∧ w'.ownsRow w.heap.size 9 1 (.slice A k c) k (strs ((wordsL t).take 6)) ∧ Below w.heap.size w w'

set_option maxRecDepth 100000 in
set_option maxHeartbeats 4000000 in
theorem wordsOf_any (t : List UInt8) (ht : t.length ≤ 4294967296) (w : World) (hE : Env w.heap.size w) : Calls Tryd.prog 10 #[.string (str t)] w (WordsPost t w) := by
  obtain ⟨i0, hi, hz0, hz1, hz2⟩ := info_parts Tryd.info9
  obtain ⟨X, HX⟩ : ∃ X, Hid (X = str t) := ⟨_, rfl⟩
  have HE := Lib.hid hE
  have HT := Lib.hid ht
  rw [← HX.out]
  clear hE ht
  refine (callsIn_wide (n := 9)).1 ?_
  refine callsIn_of_wp_marks Tryd.func10 rfl trivial ?_ rfl
  simp only [Tryd.ntmps10, List.size_toArray, List.length_cons, List.length_nil, Nat.reduceAdd, Nat.reduceSub, Array.replicate_succ, Array.replicate_zero, List.push_toArray, List.append_toArray, List.nil_append, List.cons_append]
  gi_wp2_with (refine ⟨trivial, ?_⟩; gi_at_call 19; refine (callsIn_wide.2 (fseq_any X _)).mono ?_; rintro e w2 ⟨rfl, rfl⟩)
  obtain ⟨W0, hW0⟩ : ∃ W0, W0 = (((w.alloc (.cells #[.slice none 0 0] 46)).alloc (.cells #[.string X] 9)).alloc (.cells #[.func (.func 20) #[] #[]] 59)) := ⟨_, rfl⟩
  have hz : W0.heap.size = w.heap.size + 3 := by rw [hW0]; simp
  have hb0 : Below w.heap.size w W0 := by rw [hW0]; exact (((Below.refl _ w).alloc (Nat.le_refl _) _).alloc (by simp) _).alloc (by simp; omega) _
  have bO : Boxed W0 w.heap.size 46 (.slice none 0 0) := by rw [hW0]; exact ((Boxed.new w _ _).alloc _).alloc _
  have bS : Boxed W0 (w.heap.size + 1) 9 (.string X) := by
    rw [hW0]
    have := (Boxed.new (w.alloc (.cells #[.slice none 0 0] 46)) 9 (.string X)).alloc (.cells #[.func (.func 20) #[] #[]] 59)
    rw [World.size_alloc] at this
    exact this
  have bF : Boxed W0 (w.heap.size + 1 + 1) 59 (.func (.func 20) #[] #[]) := by
    rw [hW0]
    have := Boxed.new ((w.alloc (.cells #[.slice none 0 0] 46)).alloc (.cells #[.string X] 9)) 59 (.func (.func 20) #[] #[])
    rw [World.size_alloc, World.size_alloc] at this
    exact this
  have hw0 : WI w [] W0 := ⟨_, bO, World.ownsRow_nil _ _ _ _, hb0, by omega⟩
  rw [← hW0]
  clear hW0 bO
  refine range_law (F := Fence.wide) (n := 9) rfl (by omega) (gf := 35) (lb := #[.pointer (some ⟨w.heap.size + 1, 0, none⟩), .pointer (some ⟨w.heap.size + 1 + 1, 0, none⟩)]) rfl trivial (enters_of Tryd.func35 (by kernel_rfl) rfl)
    (enc := fun x : List UInt8 => Value.string (str x)) (B := w.heap.size + 1) (Kp := Kept w.heap.size (w.heap.size + 1) (w.heap.size + 3)) (xs := wordsL t)
    (fun W hW => fields_gives 8 (by omega) t HT.out (w.heap.size + 1) (w.heap.size + 1 + 1) (w.heap.size + 1) w.heap.size (w.heap.size + 1) (w.heap.size + 3) (by omega) (by omega) (by omega) (by omega) W (by rw [← HX.out]; exact boxed_on bS hW) (boxed_on bF hW) (HE.out.on (hb0.trans (hW.mono (by omega)))) (by have := hW.size; omega))
    (fun h k => Kept.trans h k) (fun Z l o o' h1 h2 h3 => Kept.put (B := W0.heap.size) (by omega) Z l o o' h1 h2 h3) rfl
    (fun pre W => pre.length ≤ 5 ∧ WI w pre W) (fun c pre W => c = .exit 0 ∧ pre.length = 6 ∧ WI w pre W)
    (fun s A C row hs hg hr => ⟨hs.1, wi_own w W0.heap.size (by omega) s A C row hs.2 hg hr⟩) (fun c s A C row hs hg hr => ⟨hs.1, hs.2.1, wi_own w W0.heap.size (by omega) s A C row hs.2.2 hg hr⟩)
    (fun pre A C hs ht => ⟨hs.1, wi_turn hs.2 ht⟩) (fun c pre A C hs ht => ⟨hs.1, hs.2.1, wi_turn hs.2.2 ht⟩) ⟨by simp, hw0⟩
    (fun x => { tmps := #[.string X, undef, .slice none 0 0, .pointer (some ⟨w.heap.size, 0, none⟩), .string (str x), .string X, .func (.func 35) #[] #[.pointer (some ⟨w.heap.size + 1, 0, none⟩), .pointer (some ⟨w.heap.size + 1 + 1, 0, none⟩)], .string (str x), undef, undef, undef, undef, undef, undef, undef, undef], defers := [] }) ?assign ?body ?done ?stop
  case assign =>
    intro l x W K hK
    gi_wp2
    exact hK
  case body =>
    rintro l pre x r W hxs ⟨hp5, v, hv, hrow, hB, hsz⟩
    have hc := hv.cell
    rw [hz]
    obtain ⟨n, hn⟩ : ∃ n, pre.length = n := ⟨_, rfl⟩
    have HV := Lib.hid hv
    have HR := Lib.hid hrow
    have HB := Lib.hid hB
    have HN := Lib.hid hn
    have HO := Lib.hid (hrow.alloc (.cells #[.string (str x)] 9))
    rw [hn] at hp5 HO
    clear hv hrow hB hn hxs hw0 hb0 bS bF
    obtain h5 | rfl : n < 5 ∨ n = 5 := by omega
    · gi_wp2_with (gi_at_builtin; refine wpListIn_append_own _ rfl _ _ 46 rfl (w.heap.size + 3) 9 i0 (.string (str [])) 1 16 Tryd.underlying46 hi hz0 hz1 hz2 rfl (by decide) _ _ _ rfl HO.out ⟨W.heap.size, 0, none⟩ 1 1 [.string (str x)] rfl rfl (cell_one_new _ _ _) (by simp [Value.oneCell']) (by unfold maxLen; omega) (by omega) (by simp; omega) ?_; intro v' w1 hown' hgrow _; obtain ⟨g', cap', rfl⟩ := ownsRow_succ hown'; obtain ⟨hv1, hv2, HK⟩ := wi_step HV.out HR.out HB.out hsz (by rw [HN.out]; exact hown') hgrow; have hc1 := hv1.cell; have hf1 := hv1.frozen; have hc2 := hv2.cell; clear hown' hgrow hv1 hv2)
      exact ⟨HK.out.1, HK.out.2.1, by rw [List.length_append, HN.out]; simp; omega, HK.out.2.2⟩
    · gi_wp2_with (gi_at_builtin; refine wpListIn_append_own _ rfl _ _ 46 rfl (w.heap.size + 3) 9 i0 (.string (str [])) 1 16 Tryd.underlying46 hi hz0 hz1 hz2 rfl (by decide) _ _ _ rfl HO.out ⟨W.heap.size, 0, none⟩ 1 1 [.string (str x)] rfl rfl (cell_one_new _ _ _) (by simp [Value.oneCell']) (by unfold maxLen; omega) (by omega) (by simp; omega) ?_; intro v' w1 hown' hgrow _; obtain ⟨g', cap', rfl⟩ := ownsRow_succ hown'; obtain ⟨hv1, hv2, HK⟩ := wi_step HV.out HR.out HB.out hsz (by rw [HN.out]; exact hown') hgrow; have hc1 := hv1.cell; have hf1 := hv1.frozen; have hc2 := hv2.cell; clear hown' hgrow hv1 hv2)
      exact ⟨HK.out.1, rfl, by rw [List.length_append, HN.out]; rfl, HK.out.2.2⟩
  case done =>
    rintro D W hD ⟨hp5, v, hv, hrow, hB, hsz⟩ hK
    have hc := hv.cell
    have hcut : (wordsL t).take 6 = wordsL t := List.take_of_length_le (by omega)
    have HC := Lib.hid hcut
    clear hcut
    gi_wp2
    refine ⟨by simp, .inl ⟨_, _, rfl, run_takeDeferred hK, ?_⟩⟩
    obtain ⟨A, c, rfl⟩ := own_slice hrow
    refine ⟨_, results_tmp rfl _ _ _, A, _, c, rfl, by rw [HC.out], ?_, hB.trans (belowK_b (w := W0) (by omega) W D _ _ hD hK rfl rfl)⟩
    rw [HC.out]
    exact own_base (ownsRow_putObj hrow _ hK rfl) (by omega)
  case stop =>
    rintro D c pre x r W hD hxs ⟨rfl, hp6, v, hv, hrow, hB, hsz⟩ hK
    have hc := hv.cell
    have hcut : (wordsL t).take 6 = pre ++ [x] := by
      rw [hxs, show pre ++ x :: r = (pre ++ [x]) ++ r by simp, ← hp6, List.take_left]
    have HC := Lib.hid hcut
    clear hcut hxs
    gi_wp2
    refine ⟨by simp, .inl ⟨_, _, rfl, run_takeDeferred hK, ?_⟩⟩
    obtain ⟨A, c, rfl⟩ := own_slice hrow
    refine ⟨_, results_tmp rfl _ _ _, A, _, c, rfl, by rw [HC.out], ?_, hB.trans (belowK_b (w := W0) (by omega) W D _ _ hD hK rfl rfl)⟩
    rw [HC.out]
    exact own_base (ownsRow_putObj hrow _ hK rfl) (by omega)
end Go.Proofs.YtbpobbadmbafaaaDoor
