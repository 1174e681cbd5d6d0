/-
  Package trace's object: New, In, Out, Events; slices.Clone at its two types.
-/
import Derived.Test.YtjmfbmnhkoeceaaDoorMem
namespace Go.Proofs.YtjmfbmnhkoeceaaDoor
set_option linter.unusedVariables false
open Go.ChangeShapes Go.WideShapes Go.ChangeAt Go.RowKit

theorem Tryd.info26 : (Tryd.prog.info? 26).map (fun i => (i.zero, i.size, i.bytes)) = some (some (.int .u64 0), 1, 8) := by kernel_rfl
theorem Tryd.info31 : (Tryd.prog.info? 31).map (fun i => (i.zero, i.size, i.bytes)) = some (some (.agg #[.int .i64 0, .int .u64 0]), 2, 16) := by kernel_rfl

theorem evc_one (l : List Ev) : ∀ u ∈ evc l, u.oneCell' = true := by
  intro u hu
  simp only [evc, List.mem_flatMap, evOne] at hu
  obtain ⟨p, _, hu⟩ := hu
  simp at hu
  rcases hu with rfl | rfl <;> rfl
theorem ints_one (l : List Int) : ∀ u ∈ l.map (Value.int .u64), u.oneCell' = true := by
  intro u hu
  simp at hu
  obtain ⟨x, _, rfl⟩ := hu
  rfl

set_option maxHeartbeats 800000 in
theorem clone_u64 (B : Nat) (ao : Option Addr) (n c : Nat) (xs : List Int) (w : World) (h : Reads w B 1 ao n (xs.map (Value.int .u64))) (hB : B ≤ w.heap.size) (hr : n * 8 ≤ 140737488355328) :
    Calls Tryd.prog 23 #[.slice ao n c] w fun e w' => ∃ v', e = .returned v' ∧ w'.ownsRow w.heap.size 26 1 v' n (xs.map (Value.int .u64)) ∧ Below w.heap.size w w' := by
  obtain ⟨i0, hi, hz0, hz1, hz2⟩ := info_parts Tryd.info26
  have q22 : ∀ (w : World) (a : Option Addr) (n c n' c' : Nat), (binOp .eql 22 (.slice a n c) (.slice none n' c')).run Tryd.prog w = .ok (.bool a.isNone) w := fun w a n c n' c' => Lib.run_eql_slice_nil w _ _ a n c n' c' Tryd.underlying22
  have HH := Lib.hid h
  clear h
  cases ao with
  | none =>
    have hn : n = 0 := by
      rcases Nat.eq_zero_or_pos n with h0 | h0
      · exact h0
      · obtain ⟨ad, e, _⟩ := HH.out.2 h0
        cases e
    go_enter Tryd.func23, Tryd.ntmps23
    go_wp2
    go_ret
    refine ⟨_, rfl, ?_, Below.refl _ _⟩
    have hl := HH.out.1
    subst hn
    have hx : xs.map (Value.int .u64) = [] := List.eq_nil_of_length_eq_zero (by simpa using hl)
    rw [hx]
    exact ⟨rfl, .inl ⟨rfl, rfl⟩⟩
  | some ad =>
    go_enter Tryd.func23, Tryd.ntmps23
    go_wp2_with (at_builtin; refine wpList_append_any _ rfl _ _ 22 rfl w.heap.size 26 i0 (.int .u64 0) 1 8 Tryd.underlying22 hi hz0 hz1 hz2 rfl (by decide) _ 0 [] rfl (World.ownsRow_made w #[] 0 (Nat.le_refl _) (Nat.zero_le _) (by simp)) B (some ad) n c (xs.map (Value.int .u64)) rfl (HH.out.alloc hB _) (ints_one xs) (by unfold maxLen; omega) (by omega) (by simp) ?_; intro v' w1 hown hgr _)
    go_wp2
    go_ret
    refine ⟨v', rfl, by simpa using hown, ((Below.refl _ _).alloc (Nat.le_refl _) _).grown hgr (by simp) ?_⟩
    intro k hk
    injection hk with hk
    exact Nat.le_of_eq hk

set_option maxHeartbeats 800000 in
theorem clone_ev (B : Nat) (ao : Option Addr) (n c : Nat) (xs : List Ev) (w : World) (h : Reads w B 2 ao n (evc xs)) (hB : B ≤ w.heap.size) (hr : n * 16 ≤ 140737488355328) :
    Calls Tryd.prog 25 #[.slice ao n c] w fun e w' => ∃ v', e = .returned v' ∧ w'.ownsRow w.heap.size 31 2 v' n (evc xs) ∧ Below w.heap.size w w' := by
  obtain ⟨i0, hi, hz0, hz1, hz2⟩ := info_parts Tryd.info31
  have q22 : ∀ (w : World) (a : Option Addr) (n c n' c' : Nat), (binOp .eql 27 (.slice a n c) (.slice none n' c')).run Tryd.prog w = .ok (.bool a.isNone) w := fun w a n c n' c' => Lib.run_eql_slice_nil w _ _ a n c n' c' Tryd.underlying27
  have HH := Lib.hid h
  clear h
  cases ao with
  | none =>
    have hn : n = 0 := by
      rcases Nat.eq_zero_or_pos n with h0 | h0
      · exact h0
      · obtain ⟨ad, e, _⟩ := HH.out.2 h0
        cases e
    go_enter Tryd.func25, Tryd.ntmps25
    go_wp2
    go_ret
    refine ⟨_, rfl, ?_, Below.refl _ _⟩
    have hl := HH.out.1
    subst hn
    have hx : evc xs = [] := List.eq_nil_of_length_eq_zero (by simpa using hl)
    rw [hx]
    exact ⟨rfl, .inl ⟨rfl, rfl⟩⟩
  | some ad =>
    go_enter Tryd.func25, Tryd.ntmps25
    go_wp2_with (at_builtin; refine wpList_append_any _ rfl _ _ 27 rfl w.heap.size 31 i0 (.agg #[.int .i64 0, .int .u64 0]) 2 16 Tryd.underlying27 hi hz0 hz1 hz2 rfl (by decide) _ 0 [] rfl (World.ownsRow_made w #[] 0 (Nat.le_refl _) (Nat.zero_le _) (by simp)) B (some ad) n c (evc xs) rfl (HH.out.alloc hB _) (evc_one xs) (by unfold maxLen; omega) (by omega) (by simp) ?_; intro v' w1 hown hgr _)
    go_wp2
    go_ret
    refine ⟨v', rfl, by simpa using hown, ((Below.refl _ _).alloc (Nat.le_refl _) _).grown hgr (by simp) ?_⟩
    intro k hk
    injection hk with hk
    exact Nat.le_of_eq hk

/-- the next number of a tape; 0 behind its end -/
def hd (t : List Int) : Int := t.headD 0
/-- A tape: a slice whose elements lie in a block of the call's own. -/
def IsTape (w : World) (B : Nat) (tv : Value) (tape : List Int) : Prop :=
  ∃ A n c, tv = .slice A n c ∧ n ≤ c ∧ c ≤ maxLen ∧ tape.length = n ∧ (A = none → c = 0) ∧
    (0 < n → ∃ gt off cs, A = some ⟨gt, off, none⟩ ∧ B ≤ gt ∧ Blk w gt 26 cs ∧ ∀ j x, tape[j]? = some x → cs[off + j]? = some (.int .u64 x))
/-- A trace: a struct of the call's own, its tape and its events. -/
structure IsTr (w : World) (B g : Nat) (tv ev : Value) (tape : List Int) (evs : List Ev) : Prop where
  blk : Blk w g 56 #[tv, ev]
  le : B ≤ g
  tape : IsTape w B tv tape
  own : w.ownsRow B 31 2 ev evs.length (evc evs)

theorem own_kept {w w' : World} {base size n : Nat} {e : TypeId} {v : Value} {xs : List Value} (h : w.ownsRow base e size v n xs) (hk : ∀ i, v.ownBlock = some i → w'.heap[i]? = w.heap[i]?) : w'.ownsRow base e size v n xs := by
  obtain ⟨h1, h2⟩ := h
  refine ⟨h1, ?_⟩
  rcases h2 with h2 | ⟨g, cap, cur, rfl, hg, hb, hr⟩
  · exact .inl h2
  · exact .inr ⟨g, cap, cur, rfl, hg, (hk g rfl).trans hb, hr⟩
theorem tape_kept {w w' : World} {B : Nat} {tv : Value} {tape : List Int} (h : IsTape w B tv tape) (hk : ∀ i cs, Blk w i 26 cs → w'.heap[i]? = w.heap[i]?) : IsTape w' B tv tape := by
  obtain ⟨A, n, c, h1, h2, h3, h4, h5, h6⟩ := h
  refine ⟨A, n, c, h1, h2, h3, h4, h5, fun hn => ?_⟩
  obtain ⟨gt, off, cs, e, hg, hb, hc⟩ := h6 hn
  exact ⟨gt, off, cs, e, hg, (hk gt cs hb).trans hb, hc⟩
theorem own_block_le {w : World} {base size n : Nat} {e : TypeId} {v : Value} {xs : List Value} (h : w.ownsRow base e size v n xs) {i : Nat} (hi : v.ownBlock = some i) : base ≤ i ∧ i < w.heap.size := by
  rcases h.2 with ⟨rfl, _⟩ | ⟨g, cap, cur, rfl, hg, hb, _⟩
  · simp [Value.ownBlock] at hi
  · simp [Value.ownBlock] at hi
    subst hi
    exact ⟨hg, Blk.lt (t := e) (cs := cur) hb⟩

theorem own_slice {w : World} {base size n : Nat} {e : TypeId} {v : Value} {xs : List Value} (h : w.ownsRow base e size v n xs) : ∃ A c, v = .slice A n c := by
  rcases h.2 with ⟨rfl, rfl⟩ | ⟨g, cap, cur, rfl, _⟩
  · exact ⟨_, _, rfl⟩
  · exact ⟨_, _, rfl⟩

/-- Nothing but the trace's own two blocks has turned; what it grew into is new. -/
def Only (g : Nat) (ev ev' : Value) (w w' : World) : Prop :=
  (∀ i, i < w.heap.size → i ≠ g → ev.ownBlock ≠ some i → w'.heap[i]? = w.heap[i]?) ∧ (ev'.ownBlock = ev.ownBlock ∨ ∃ k, ev'.ownBlock = some k ∧ w.heap.size ≤ k)

theorem tr_push {w w2 : World} {B g : Nat} {tv ev v' : Value} {tape : List Int} {evs : List Ev} {x : Ev} {o : Obj} (hB : B ≤ w.heap.size) (h : IsTr w B g tv ev tape evs)
    (hown : w2.ownsRow B 31 2 v' (evs.length + 1) (evc evs ++ evOne x)) (hgr : (w.alloc o).grownBy w2 ev.ownBlock) (hor : v'.ownBlock = ev.ownBlock ∨ v'.ownBlock = some (w.alloc o).heap.size) :
    IsTr (w2.setCell ⟨g, 1, none⟩ v') B g tv v' tape (evs ++ [x]) ∧ Below B w (w2.setCell ⟨g, 1, none⟩ v') ∧ Only g ev v' w (w2.setCell ⟨g, 1, none⟩ v') := by
  have hgs := h.blk.lt
  have hne : ev.ownBlock ≠ some g := own_blk_ne h.own h.blk (by decide)
  have hb2 : Blk w2 g 56 #[tv, ev] := (h.blk.alloc o).grown hgr (fun e => hne e.symm)
  have hne2 : v'.ownBlock ≠ some g := own_blk_ne hown hb2 (by decide)
  have hsz : w.heap.size < (w.alloc o).heap.size := by simp
  have hkeep : ∀ i, i < w.heap.size → i ≠ g → ev.ownBlock ≠ some i → (w2.setCell ⟨g, 1, none⟩ v').heap[i]? = w.heap[i]? := by
    intro i hi hig hie
    rw [Below.heap_setCell _ _ _ _ hig, hgr.block i (by omega) (fun e => hie e.symm), Below.heap_alloc _ _ _ hi]
  refine ⟨⟨hb2.set_ 1 v', h.le, ?_, ?_⟩, ?_, hkeep, ?_⟩
  · refine tape_kept h.tape fun i cs hb => hkeep i hb.lt ?_ ?_
    · exact hb.ne_ h.blk (by decide)
    · exact own_blk_ne h.own hb (by decide)
  · have hl : (evs ++ [x]).length = evs.length + 1 := by simp
    rw [hl, evc_append]
    have : evc [x] = evOne x := by simp [evc]
    rw [this]
    refine own_kept hown fun i hi => Below.heap_setCell _ _ _ _ ?_
    rintro rfl
    exact hne2 hi
  · refine (((Below.refl B w).alloc hB o).grown hgr (by omega) ?_).setCell h.le v'
    intro k hk
    exact (own_block_le h.own hk).1
  · rcases hor with hor | hor
    · exact .inl hor
    · exact .inr ⟨_, hor, by omega⟩

theorem only_setCell0 (w : World) (g : Nat) (u : Value) : w.grownBy (w.setCell ⟨g, 0, none⟩ u) (some g) :=
  ⟨rfl, rfl, rfl, by simp [World.setCell], fun i _ hne => Below.heap_setCell w ⟨g, 0, none⟩ u i (fun e => hne (by rw [e]))⟩
theorem tr_cut {w : World} {B g : Nat} {tv ev tv' : Value} {tape tape' : List Int} {evs : List Ev} (h : IsTr w B g tv ev tape evs) (ht : IsTape (w.setCell ⟨g, 0, none⟩ tv') B tv' tape') :
    IsTr (w.setCell ⟨g, 0, none⟩ tv') B g tv' ev tape' evs :=
  ⟨h.blk.set_ 0 tv', h.le, ht, own_kept h.own fun i hi => Below.heap_setCell _ _ _ _ (by
    rintro rfl
    exact own_blk_ne h.own h.blk (by decide) hi)⟩

set_option maxHeartbeats 800000 in
theorem next_any (B g : Nat) (tv ev : Value) (tape : List Int) (evs : List Ev) (w : World) (h : IsTr w B g tv ev tape evs) :
    Calls Tryd.prog 24 #[.pointer (some ⟨g, 0, none⟩)] w fun e w' => ∃ tv', e = .returned (.int .u64 (hd tape)) ∧ IsTr w' B g tv' ev tape.tail evs ∧ w.grownBy w' (some g) := by
  obtain ⟨A, n, c, rfl, hnc, hcm, hlen, hnil, hcells⟩ := h.tape
  have HH := Lib.hid h
  have c0 : w.cell? ⟨g, 0, none⟩ = some (.slice A n c) := h.blk.cell 0
  have f0 : w.frozen? ⟨g, 0, none⟩ = false := h.blk.frozen 0
  unfold maxLen at hcm
  clear h
  cases tape with
  | nil =>
    simp only [List.length_nil] at hlen
    subst hlen
    clear hcells
    go_enter Tryd.func24, Tryd.ntmps24
    go_wp2
    go_ret
    exact ⟨_, rfl, HH.out, World.grownBy.refl w _⟩
  | cons x rest =>
    obtain ⟨gt, off, cs, rfl, hBg, hb, hc⟩ := hcells (by rw [← hlen]; simp)
    have x0 : w.cell? ⟨gt, off, none⟩ = some (.int .u64 x) := by
      have := hc 0 x rfl
      rw [hb.cell]
      exact this
    have HB := Lib.hid hb
    have HC := Lib.hid hc
    have HL := Lib.hid hlen
    have hn1 : 1 ≤ n := by rw [← hlen]; simp
    clear hb hc hlen hnil hcells
    go_enter Tryd.func24, Tryd.ntmps24
    by_cases hc1 : c = 1
    · subst hc1
      obtain rfl : n = 1 := by omega
      go_wp2
      go_ret
      refine ⟨.slice (some ⟨gt, off, none⟩) 0 0, rfl, ?_, only_setCell0 w g _⟩
      refine tr_cut HH.out ⟨_, _, _, rfl, Nat.le_refl _, by unfold maxLen; omega, by have := HL.out; simp at this; simp [this], (fun h => by cases h), fun h => absurd h (by omega)⟩
    · go_wp2
      go_ret
      refine ⟨.slice (some ⟨gt, off + 1, none⟩) (n - 1) (c - 1), rfl, ?_, only_setCell0 w g _⟩
      refine tr_cut HH.out ⟨_, n - 1, c - 1, rfl, by omega, by unfold maxLen; omega, by have := HL.out; simp at this; simp; omega, (fun h => by cases h), fun h => ?_⟩
      refine ⟨gt, off + 1, cs, rfl, hBg, HB.out.far (p := ⟨g, 0, none⟩) (HB.out.ne_ HH.out.blk (by decide)) _, fun j y hj => ?_⟩
      rw [show off + 1 + j = off + (j + 1) by omega]
      exact HC.out (j + 1) y (by simpa using hj)

theorem one_reads (w : World) (t : TypeId) (x : Ev) : Reads (w.alloc (.cells (evOne x).toArray t)) (w.heap.size + 1) 2 (some ⟨w.heap.size, 0, none⟩) 1 (evOne x) :=
  ⟨rfl, fun _ => ⟨_, rfl, by simp, fun j u hj => by
    have ea : (⟨w.heap.size, 0, none⟩ : Addr).add j = ⟨w.heap.size, j, none⟩ := by simp [Addr.add]; exact Eq.symm
    rw [ea, (Blk.new w t _).cell]
    simpa using hj⟩⟩
theorem evOne_one (x : Ev) : ∀ u ∈ evOne x, u.oneCell' = true := by
  intro u hu
  simp [evOne] at hu
  rcases hu with rfl | rfl <;> rfl

/-- what In and Out ask of the number of events: room for one more -/
theorem room_ev {n : Nat} (h : n ≤ 1048576) : (n + 1) * 16 ≤ 140737488355328 := by omega

theorem below_grown {w w' : World} {B g : Nat} (h : w.grownBy w' (some g)) (hg : B ≤ g) (hB : B ≤ w.heap.size := by omega) : Below B w w' :=
  (Below.refl B w).grown h hB (by intro k hk; injection hk with hk; omega)
theorem only_trans {w w1 w2 : World} {g : Nat} {ev ev' : Value} (h : w.grownBy w1 (some g)) (h2 : Only g ev ev' w1 w2) : Only g ev ev' w w2 := by
  have hs := h.size
  refine ⟨fun i hi hg he => (h2.1 i (by omega) hg he).trans (h.block i hi (by simpa using hg)), ?_⟩
  rcases h2.2 with h3 | ⟨k, h3, h4⟩
  · exact .inl h3
  · exact .inr ⟨k, h3, by omega⟩
theorem own_none (w : World) (B : Nat) : w.ownsRow B 31 2 (.slice none 0 0) ([] : List Ev).length (evc []) := ⟨rfl, .inl ⟨rfl, rfl⟩⟩
theorem tape_own {w : World} {B n : Nat} {v : Value} {xs : List Int} (h : w.ownsRow B 26 1 v n (xs.map (Value.int .u64))) (hn : xs.length = n) : IsTape w B v xs := by
  rcases h.2 with ⟨rfl, h0⟩ | ⟨g, cap, cur, rfl, hg, hb, hnc, hcm, hcs, htake⟩
  · subst h0
    exact ⟨none, 0, 0, rfl, Nat.le_refl _, by unfold maxLen; omega, hn, fun _ => rfl, fun h => absurd h (by omega)⟩
  · refine ⟨_, n, cap, rfl, hnc, hcm, hn, (fun h => by cases h), fun _ => ⟨g, 0, cur, rfl, hg, hb, fun j x hj => ?_⟩⟩
    have hjl : j < n := by rw [← hn]; exact (List.getElem?_eq_some_iff.1 hj).1
    have : (cur.toList.take (n * 1))[j]? = some (.int .u64 x) := by rw [htake, List.getElem?_map, hj]; rfl
    rw [List.getElem?_take, if_pos (by omega)] at this
    rw [Nat.zero_add, ← Array.getElem?_toList]
    exact this

set_option maxHeartbeats 800000 in
theorem in_any (B g : Nat) (tv ev : Value) (tape : List Int) (evs : List Ev) (w : World) (h : IsTr w B g tv ev tape evs) (hB : B ≤ w.heap.size) (hr : evs.length ≤ 1048576) :
    Calls Tryd.prog 11 #[.pointer (some ⟨g, 0, none⟩)] w fun e w' => ∃ tv' ev', e = .returned (.int .u64 (hd tape)) ∧ IsTr w' B g tv' ev' tape.tail (evs ++ [(2, hd tape)]) ∧ Below B w w' ∧ Only g ev ev' w w' := by
  obtain ⟨i0, hi, hz0, hz1, hz2⟩ := info_parts Tryd.info31
  have HH := Lib.hid h
  clear h
  go_enter Tryd.func11, Tryd.ntmps11
  go_wp2_with (go_at_call 24; refine (next_any B g tv ev tape evs _ HH.out).mono ?_; rintro e w1 ⟨tv1, rfl, h1, hg1⟩; refine Hid.out ?_)
  have hsz := hg1.size
  have c1 : w1.cell? ⟨g, 1, none⟩ = some ev := h1.blk.cell 1
  have hev : ev.ownBlock ≠ some g := own_blk_ne h1.own h1.blk (by decide)
  have HG := Lib.hid hg1
  have H1 := Lib.hid h1
  obtain ⟨v, HV⟩ : ∃ v, Hid (v = hd tape) := ⟨_, rfl⟩
  rw [← HV.out]
  clear hg1 h1
  have HO : Hid (Reads (w1.alloc (.cells #[.int .i64 2, .int .u64 v] 31)) (w1.heap.size + 1) 2 (some ⟨w1.heap.size, 0, none⟩) 1 [.int .i64 2, .int .u64 v]) := Lib.hid (one_reads w1 31 (2, v))
  have H8 : Hid ((evs.length + 1) * 16 ≤ 140737488355328) := Lib.hid (room_ev hr)
  have H9 : Hid (evs.length + 1 ≤ maxLen) := Lib.hid (by unfold maxLen; omega)
  have H7 := Lib.hid (H1.out.own.alloc (.cells #[.int .i64 2, .int .u64 v] 31))
  have H6 : Hid (∀ u ∈ [Value.int .i64 2, Value.int .u64 v], u.oneCell' = true) := Lib.hid (evOne_one (2, v))
  clear hr
  refine Lib.hid ?_
  go_wp2_with (at_builtin; refine wpList_append_any _ rfl _ _ 27 rfl B 31 i0 (.agg #[.int .i64 0, .int .u64 0]) 2 16 Tryd.underlying27 hi hz0 hz1 hz2 rfl (by decide) ev evs.length (evc evs) rfl H7.out (w1.heap.size + 1) (some ⟨w1.heap.size, 0, none⟩) 1 1 [.int .i64 2, .int .u64 v] rfl HO.out H6.out H9.out H8.out (by simp; omega) ?_; intro v' w2 hown hgr hor; refine Hid.out ?_)
  obtain ⟨A2, c2', rfl⟩ := own_slice hown
  have hb2 : Blk w2 g 56 #[tv1, ev] := (H1.out.blk.alloc _).grown hgr (fun e => hev e.symm)
  have c2 : w2.cell? ⟨g, 1, none⟩ = some ev := hb2.cell 1
  have f2 : w2.frozen? ⟨g, 1, none⟩ = false := hb2.frozen 1
  have HP := Lib.hid (tr_push (x := (2, v)) (by omega) H1.out hown hgr hor)
  clear hown hgr hor hb2
  refine Lib.hid ?_
  go_wp2
  go_ret
  exact ⟨tv1, _, by rw [← HV.out]; rfl, by rw [← HV.out]; exact HP.out.1, (below_grown HG.out H1.out.le).trans HP.out.2.1, only_trans HG.out HP.out.2.2⟩

set_option maxHeartbeats 800000 in
theorem out_any (B g : Nat) (tv ev : Value) (tape : List Int) (evs : List Ev) (v : Int) (w : World) (h : IsTr w B g tv ev tape evs) (hB : B ≤ w.heap.size) (hr : evs.length ≤ 1048576) :
    Calls Tryd.prog 12 #[.pointer (some ⟨g, 0, none⟩), .int .u64 v] w fun e w' => ∃ ev', e = .returned (.tuple #[]) ∧ IsTr w' B g tv ev' tape (evs ++ [(1, v)]) ∧ Below B w w' ∧ Only g ev ev' w w' := by
  obtain ⟨i0, hi, hz0, hz1, hz2⟩ := info_parts Tryd.info31
  have H1 := Lib.hid h
  have c1 : w.cell? ⟨g, 1, none⟩ = some ev := h.blk.cell 1
  have hev : ev.ownBlock ≠ some g := own_blk_ne h.own h.blk (by decide)
  clear h
  have HO : Hid (Reads (w.alloc (.cells #[.int .i64 1, .int .u64 v] 31)) (w.heap.size + 1) 2 (some ⟨w.heap.size, 0, none⟩) 1 [.int .i64 1, .int .u64 v]) := Lib.hid (one_reads w 31 (1, v))
  have H8 : Hid ((evs.length + 1) * 16 ≤ 140737488355328) := Lib.hid (room_ev hr)
  have H9 : Hid (evs.length + 1 ≤ maxLen) := Lib.hid (by unfold maxLen; omega)
  have H7 := Lib.hid (H1.out.own.alloc (.cells #[.int .i64 1, .int .u64 v] 31))
  have H6 : Hid (∀ u ∈ [Value.int .i64 1, Value.int .u64 v], u.oneCell' = true) := Lib.hid (evOne_one (1, v))
  clear hr
  go_enter Tryd.func12, Tryd.ntmps12
  go_wp2_with (at_builtin; refine wpList_append_any _ rfl _ _ 27 rfl B 31 i0 (.agg #[.int .i64 0, .int .u64 0]) 2 16 Tryd.underlying27 hi hz0 hz1 hz2 rfl (by decide) ev evs.length (evc evs) rfl H7.out (w.heap.size + 1) (some ⟨w.heap.size, 0, none⟩) 1 1 [.int .i64 1, .int .u64 v] rfl HO.out H6.out H9.out H8.out (by simp; omega) ?_; intro v' w2 hown hgr hor; refine Hid.out ?_)
  obtain ⟨A2, c2', rfl⟩ := own_slice hown
  have hb2 : Blk w2 g 56 #[tv, ev] := (H1.out.blk.alloc _).grown hgr (fun e => hev e.symm)
  have c2 : w2.cell? ⟨g, 1, none⟩ = some ev := hb2.cell 1
  have f2 : w2.frozen? ⟨g, 1, none⟩ = false := hb2.frozen 1
  have HP := Lib.hid (tr_push (x := (1, v)) (by omega) H1.out hown hgr hor)
  clear hown hgr hor hb2
  refine Lib.hid ?_
  go_wp2
  go_end0
  exact ⟨_, rfl, HP.out.1, HP.out.2.1, HP.out.2.2⟩

set_option maxHeartbeats 800000 in
theorem events_any (B g : Nat) (tv ev : Value) (tape : List Int) (evs : List Ev) (w : World) (h : IsTr w B g tv ev tape evs) (hr : evs.length ≤ 1048576) :
    Calls Tryd.prog 13 #[.pointer (some ⟨g, 0, none⟩)] w fun e w' => ∃ v', e = .returned v' ∧ w'.ownsRow w.heap.size 31 2 v' evs.length (evc evs) ∧ Below w.heap.size w w' := by
  have H1 := Lib.hid h
  have c1 : w.cell? ⟨g, 1, none⟩ = some ev := h.blk.cell 1
  obtain ⟨A, c, rfl⟩ := own_slice h.own
  have HR : Hid (Reads w w.heap.size 2 A evs.length (evc evs)) := Lib.hid (Reads.of_own h.own)
  clear h
  go_enter Tryd.func13, Tryd.ntmps13
  go_wp2_with (go_at_call 25; refine (clone_ev w.heap.size A evs.length c evs _ HR.out (Nat.le_refl _) (by omega)).mono ?_; rintro e w' ⟨v', rfl, hown, hb⟩; refine Hid.out ?_)
  have HW := Lib.hid hown
  clear hown
  refine Lib.hid ?_
  go_wp2
  go_ret
  exact ⟨v', rfl, HW.out, hb⟩

set_option maxHeartbeats 800000 in
theorem new_any (B : Nat) (ao : Option Addr) (n c : Nat) (xs : List Int) (w : World) (h : Reads w B 1 ao n (xs.map (Value.int .u64))) (hB : B ≤ w.heap.size) (hr : n * 8 ≤ 140737488355328) :
    Calls Tryd.prog 10 #[.slice ao n c] w fun e w' => ∃ g tv, e = .returned (.pointer (some ⟨g, 0, none⟩)) ∧ IsTr w' w.heap.size g tv (.slice none 0 0) xs [] ∧ Below w.heap.size w w' := by
  have HH := Lib.hid h
  clear h
  go_enter Tryd.func10, Tryd.ntmps10
  go_wp2_with (go_at_call 23; refine (clone_u64 B ao n c xs _ HH.out hB hr).mono ?_; rintro e w' ⟨v', rfl, hown, hb⟩; refine Hid.out ?_)
  have HW := Lib.hid hown
  obtain ⟨A2, c2', rfl⟩ := own_slice hown
  clear hown
  refine Lib.hid ?_
  go_wp2
  go_ret
  have hsz := hb.size
  exact ⟨_, _, rfl, ⟨Blk.new _ _ _, hsz, tape_own (HW.out.alloc _) (by have := HW.out.1; simp at this; exact this), own_none _ _⟩, hb.alloc hsz _⟩

theorem in_nil (w : World) : Calls Tryd.prog 11 #[.pointer none] w fun e w' => e = .returned (.int .u64 0) ∧ w = w' := by
  go_enter Tryd.func11, Tryd.ntmps11
  go_wp2
  go_ret
  exact ⟨rfl, rfl⟩
theorem out_nil (v : Int) (w : World) : Calls Tryd.prog 12 #[.pointer none, .int .u64 v] w fun e w' => e = .returned (.tuple #[]) ∧ w = w' := by
  go_enter Tryd.func12, Tryd.ntmps12
  go_wp2
  refine bodyPost_ret (results_none rfl _ _ _) rfl ?_
  exact ⟨rfl, rfl⟩
theorem events_nil (w : World) : Calls Tryd.prog 13 #[.pointer none] w fun e w' => e = .returned (.slice none 0 0) ∧ w = w' := by
  go_enter Tryd.func13, Tryd.ntmps13
  go_wp2
  go_ret
  exact ⟨rfl, rfl⟩
end Go.Proofs.YtjmfbmnhkoeceaaDoor
