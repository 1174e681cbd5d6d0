/-
  Package text's Parse.
-/
import Derived.Test.YtbpobbadmbafaaaDoorTAddI
import Derived.Test.YtbpobbadmbafaaaDoorTSplit
namespace Go.Proofs.YtbpobbadmbafaaaDoor
set_option linter.unusedVariables false
open Go.ChangeShapes Go.WideShapes Go.ChangeAt Go.RowKit
attribute [local go_sem] Oper.semAt_some

theorem addL_take (fs : List Fn) (ws : List (List UInt8)) : addL fs (ws.take 6) = addL fs ws := by
  cases ws with
  | nil => rfl
  | cons w r =>
    rw [List.take_succ_cons]
    by_cases hr : r.length ≤ 5
    · rw [List.take_of_length_le hr]
    · have hl : (r.take 5).length = 5 := by rw [List.length_take]; omega
      have h1 : fnL (r.take 5) = fnL r := by rw [fnL_len (by omega), fnL_len (by omega)]
      have h2 : insL w (r.take 5) = insL w r := by
        cases hop : opL w with
        | none => unfold insL; rw [hop]
        | some op =>
          by_cases hg : gOp op = 0
          · rw [insL_zero hop _ hg, insL_zero hop _ hg, if_neg (fun e => by rw [e] at hl; cases hl), if_neg (fun e => by rw [e] at hr; exact hr (by simp))]
          · rw [insL_bad hop _ hg (by omega), insL_bad hop _ hg (by omega)]
      rw [addL, addL, h1, h2]
theorem own_isCells {W : World} {base size k : Nat} {e : TypeId} {v : Value} {xs : List Value} (h : W.ownsRow base e size v k xs) {g : Nat} (hg : v.ownBlock = some g) : ∃ o, W.heap[g]? = some o ∧ o.isCells = true := by
  rcases h.2 with ⟨rfl, _⟩ | ⟨g', cap, cur, rfl, _, hb, _⟩
  · simp [Value.ownBlock] at hg
  · obtain rfl : g' = g := by simpa [Value.ownBlock] using hg
    exact ⟨_, hb, rfl⟩
theorem PO.keptC {W W' : World} {base m n c : Nat} {A : Option Addr} {rs : List Raw} (h : PO W base m A n c rs) (hk : ∀ i, base ≤ i → i < W.heap.size → (∃ o, W.heap[i]? = some o ∧ o.isCells = true) → W'.heap[i]? = W.heap[i]?) : PO W' base m A n c rs :=
  ⟨own_kept h.row fun i hi => hk i (own_lt h.row hi).1 (own_lt h.row hi).2 (own_isCells h.row hi), h.len, fun r hr => ⟨own_kept (h.each r hr).locals fun i hi => hk i (own_lt (h.each r hr).locals hi).1 (own_lt (h.each r hr).locals hi).2 (own_isCells (h.each r hr).locals hi), own_kept (h.each r hr).code fun i hi => hk i (own_lt (h.each r hr).code hi).1 (own_lt (h.each r hr).code hi).2 (own_isCells (h.each r hr).code hi)⟩, h.wf, h.lim, h.sep⟩
theorem boxed_own' {W W' : World} {row : Option Nat} {D B : Nat} {t : TypeId} {v : Value} (h : Boxed W B t v) (hg : W.grownBy W' row) (hr : ∀ r, row = some r → D ≤ r ∧ ∃ o : Obj, W.heap[r]? = some o ∧ o.isCells = false) : Boxed W' B t v :=
  h.kept hg fun e => by
    obtain ⟨_, o, ho, hc⟩ := hr _ e.symm
    unfold Boxed at h
    rw [h] at ho; cases ho; cases hc

/-- the lines so far, in the two variables' boxes -/
structure PI (t : List UInt8) (w : World) (pre : List (List UInt8)) (W : World) (A : Option Addr) (n c : Nat) (rs : List Raw) : Prop where
  so : ∀ r, splitB 10 t = pre ++ r → parseT t = parseLs pre.length (fns rs) r
  prog : Boxed W (w.heap.size + 3) 25 (.slice A n c)
  num : Boxed W (w.heap.size + 4) 3 (.int .i64 pre.length)
  r0 : Boxed W w.heap.size 25 (.slice none 0 0)
  r1 : Boxed W (w.heap.size + 1) 3 (.int .i64 0)
  r2 : Boxed W (w.heap.size + 2) 26 (.int .i64 0)
  po : PO W (w.heap.size + 8) pre.length A n c rs
  below : Below w.heap.size w W
  size : w.heap.size + 8 ≤ W.heap.size
def PIx (t : List UInt8) (w : World) (pre : List (List UInt8)) (W : World) : Prop := ∃ A n c rs, PI t w pre W A n c rs
structure PX (t : List UInt8) (w : World) (pre : List (List UInt8)) (W : World) : Prop where
  bad : parseT t = .inr pre.length
  r0 : Boxed W w.heap.size 25 (.slice none 0 0)
  r1 : Boxed W (w.heap.size + 1) 3 (.int .i64 pre.length)
  r2 : Boxed W (w.heap.size + 2) 26 (.int .i64 40)
  below : Below w.heap.size w W
  size : w.heap.size + 8 ≤ W.heap.size
theorem pi_turn {t : List UInt8} {w X Y : World} {pre : List (List UInt8)} (h : PIx t w pre X) (ht : Turn (w.heap.size + 5) X Y) : PIx t w pre Y := by
  obtain ⟨A, n, c, rs, h⟩ := h
  exact ⟨A, n, c, rs, h.so, ht.boxed h.prog (by omega), ht.boxed h.num (by omega), ht.boxed h.r0 (by omega), ht.boxed h.r1 (by omega), ht.boxed h.r2 (by omega), h.po.kept (fun i h1 h2 => ht.block h2 (by omega)), h.below.trans (ht.below (by omega) (by have := h.size; omega)), by have := ht.size; have := h.size; omega⟩
theorem px_turn {t : List UInt8} {w X Y : World} {pre : List (List UInt8)} (h : PX t w pre X) (ht : Turn (w.heap.size + 5) X Y) : PX t w pre Y :=
  ⟨h.bad, ht.boxed h.r0 (by omega), ht.boxed h.r1 (by omega), ht.boxed h.r2 (by omega), h.below.trans (ht.below (by omega) (by have := h.size; omega)), by have := ht.size; have := h.size; omega⟩
theorem pi_own (t : List UInt8) (w : World) (D : Nat) (hD : w.heap.size ≤ D) : OwnFrom D (PIx t w) := by
  rintro pre X Y row ⟨A, n, c, rs, h⟩ hg hr
  refine ⟨A, n, c, rs, h.so, boxed_own' h.prog hg hr, boxed_own' h.num hg hr, boxed_own' h.r0 hg hr, boxed_own' h.r1 hg hr, boxed_own' h.r2 hg hr, h.po.keptC (fun i h1 h2 ⟨o, ho, hc⟩ => hg.block i h2 fun e => ?_), h.below.trans ((Below.refl _ X).grown hg (by have := h.size; omega) (fun k e => by have := (hr k e).1; omega)), by have := hg.size; have := h.size; omega⟩
  obtain ⟨_, o', ho', hc'⟩ := hr i e.symm
  rw [ho] at ho'; injection ho' with ho'; subst ho'; rw [hc] at hc'; cases hc'
theorem px_own (t : List UInt8) (w : World) (D : Nat) (hD : w.heap.size ≤ D) : OwnFrom D (PX t w) := by
  rintro pre X Y row h hg hr
  exact ⟨h.bad, boxed_own' h.r0 hg hr, boxed_own' h.r1 hg hr, boxed_own' h.r2 hg hr, h.below.trans ((Below.refl _ X).grown hg (by have := h.size; omega) (fun k e => by have := (hr k e).1; omega)), by have := hg.size; have := h.size; omega⟩
/-- one line more -/
theorem pi_step {t : List UInt8} {w W W2 W3 : World} {pre : List (List UInt8)} {x : List UInt8} {rest : List (List UInt8)} {A : Option Addr} {n c : Nat} {rs : List Raw} {ok : Bool} (hxs : splitB 10 t = pre ++ x :: rest) (h : PI t w pre W A n c rs)
    (hb2 : Below (W.setCell ⟨w.heap.size + 4, 0, none⟩ (.int .i64 (pre.length + 1))).heap.size (W.setCell ⟨w.heap.size + 4, 0, none⟩ (.int .i64 (pre.length + 1))) W2) (hk : AddK (w.heap.size + 3) (w.heap.size + 8) W2 W3) (hc : AddCase (w.heap.size + 3) (w.heap.size + 8) pre.length ((wordsL x).take 6) rs W3 ok) :
    KeepsFrom (w.heap.size + 8) W W3 ∧ Kept w.heap.size (w.heap.size + 5) (w.heap.size + 8) W W3 ∧ (ok = true → PIx t w (pre ++ [x]) W3) ∧ (ok = false → parseT t = .inr (pre.length + 1)) ∧ Boxed W3 w.heap.size 25 (.slice none 0 0) ∧ Boxed W3 (w.heap.size + 1) 3 (.int .i64 0) ∧ Boxed W3 (w.heap.size + 2) 26 (.int .i64 0) ∧ Boxed W3 (w.heap.size + 4) 3 (.int .i64 (pre.length + 1)) ∧ Below w.heap.size w W3 ∧ w.heap.size + 8 ≤ W3.heap.size := by
  have hsz := h.size
  have hs1 : (W.setCell ⟨w.heap.size + 4, 0, none⟩ (.int .i64 (pre.length + 1))).heap.size = W.heap.size := by simp
  have hs2 : W.heap.size ≤ W2.heap.size := by have := hb2.size; omega
  have hs3 : W2.heap.size ≤ W3.heap.size := hk.1.size
  have hbk : ∀ b, b < w.heap.size + 8 → b ≠ w.heap.size + 3 → b ≠ w.heap.size + 4 → W3.heap[b]? = W.heap[b]? := fun b h1 h2 h3 =>
    ((hk.2.1 b h1 h2).trans (hb2.block b (by omega))).trans (Below.heap_setCell W ⟨w.heap.size + 4, 0, none⟩ _ b (by simp; omega))
  have hko : KeepsOthers W W3 := ((KeepsOthers.setCell W _ _).trans ⟨hb2.size, fun k o hk _ => (hb2.block k (Array.getElem?_eq_some_iff.1 hk).1).trans hk⟩).trans hk.1
  have hbw : Below w.heap.size W W3 := (((Below.refl _ W).setCell (p := ⟨w.heap.size + 4, 0, none⟩) (by simp) _).trans (hb2.mono (by omega))).trans (hk.2.2.mono (by omega))
  have hn : Boxed W3 (w.heap.size + 4) 3 (.int .i64 (pre.length + 1)) := ((hk.2.1 _ (by omega) (by omega)).trans (hb2.block _ (by omega))).trans (h.num.set _)
  refine ⟨hko.from _, ⟨hbw, fun b h1 h2 o ho hc => (hbk b (by omega) (by omega) (by omega)).trans ho⟩, fun hok => ?_, fun hok => ?_, (hbk _ (by omega) (by omega) (by omega)).trans h.r0, (hbk _ (by omega) (by omega) (by omega)).trans h.r1, (hbk _ (by omega) (by omega) (by omega)).trans h.r2, hn, h.below.trans hbw, by omega⟩
  · rcases hc with ⟨h1, _⟩ | ⟨_, A', n', c', rs', had, hB, hP⟩
    · rw [hok] at h1; cases h1
    · rw [addL_take] at had
      refine ⟨A', n', c', rs', fun r hr => ?_, hB, by rw [List.length_append]; exact hn, (hbk _ (by omega) (by omega) (by omega)).trans h.r0, (hbk _ (by omega) (by omega) (by omega)).trans h.r1, (hbk _ (by omega) (by omega) (by omega)).trans h.r2, by rw [List.length_append]; exact hP, h.below.trans hbw, by omega⟩
      rw [h.so (x :: r) (by rw [hr]; simp), parseLs, had, List.length_append]
      rfl
  · rcases hc with ⟨_, had⟩ | ⟨h1, _⟩
    · rw [addL_take] at had
      rw [h.so _ hxs, parseLs, had]
    · rw [hok] at h1; cases h1
theorem own_cap {W : World} {base size k cap : Nat} {A : Option Addr} {e : TypeId} {xs : List Value} (h : W.ownsRow base e size (.slice A k cap) k xs) : k ≤ cap := by
  rcases h.2 with ⟨_, h⟩ | ⟨g, cp, cur, he, _, _, hk, _⟩
  · omega
  · injection he with _ _ he; omega

theorem allocs_keep (l : List Obj) (w : World) (b : Nat) (hb : b < w.heap.size) : (l.foldl World.alloc w).heap[b]? = w.heap[b]? := by
  induction l generalizing w with
  | nil => rfl
  | cons o l ih => rw [List.foldl_cons, ih (w.alloc o) (by simp; omega)]; exact Below.heap_alloc w o b hb
/-- blocks laid one behind the other -/
theorem allocs_at (l : List Obj) (w : World) (i : Nat) (o : Obj) (h : l[i]? = some o) : (l.foldl World.alloc w).heap[w.heap.size + i]? = some o := by
  induction l generalizing w i with
  | nil => simp at h
  | cons p l ih =>
    rw [List.foldl_cons]
    cases i with
    | zero =>
      simp at h
      subst h
      rw [allocs_keep l _ _ (by simp)]
      exact World.alloc_heap_new w p
    | succ j =>
      have := ih (w.alloc p) j (by simpa using h)
      rw [World.size_alloc] at this
      rw [show w.heap.size + (j + 1) = w.heap.size + 1 + j by omega]
      exact this
/-- functions in memory whose blocks are all from one on -/
def RdN (base : Nat) (W : World) (A : Option Addr) (n : Nat) (rs : List Raw) : Prop := RdP W W.heap.size A n rs ∧ ∀ W' : World, (∀ i, base ≤ i → i < W.heap.size → W'.heap[i]? = W.heap[i]?) → RdP W' W'.heap.size A n rs
theorem PO.rdN {W : World} {base b m n c : Nat} {A : Option Addr} {rs : List Raw} (h : PO W base m A n c rs) (hm : m ≤ 8589934592) (hb : b ≤ base) : RdN b W A n rs := ⟨h.rdP hm, fun W' hk => (h.kept fun i h1 h2 => hk i (by omega) h2).rdP hm⟩
/-- what Parse answers -/
def ParsePost (t : List UInt8) (w : World) (e : Ending) (w' : World) : Prop := Below w.heap.size w w' ∧
  ((∃ (A : Option Addr) (n c : Nat) (rs : List Raw), parseT t = .inl (fns rs) ∧ e = .returned (.tuple #[.agg #[.slice A n c], .int .i64 0, .int .i64 0]) ∧ RdN w.heap.size w' A n rs ∧ n ≤ c) ∨
    (∃ k : Nat, parseT t = .inr k ∧ e = .returned (.tuple #[.agg #[.slice none 0 0], .int .i64 k, .int .i64 40])))

theorem boxed_put {W : World} {B D : Nat} {t : TypeId} {v : Value} {ds : List Deferred} (h : Boxed W B t v) (hK : W.heap[D]? = some (.deferred (some ds))) (o : Obj) : Boxed (W.putObj D o) B t v :=
  (World.putObj_heap_other (by rintro rfl; unfold Boxed at h; rw [h] at hK; cases hK)).trans h
theorem below_put {W : World} {B D : Nat} (hD : B ≤ D) (o : Obj) : Below B W (W.putObj D o) :=
  ⟨rfl, rfl, rfl, by simp, fun k hk => World.putObj_heap_other (by omega)⟩
/-- a line at fault: what is left -/
theorem px_bad {t : List UInt8} {w W W3 : World} {pre : List (List UInt8)} {x : List UInt8} (hk : KeepsFrom (w.heap.size + 8) W W3) (hbad : parseT t = .inr (pre.length + 1)) (h0 : Boxed W3 w.heap.size 25 (.slice none 0 0)) (h1 : Boxed W3 (w.heap.size + 1) 3 (.int .i64 0)) (h2 : Boxed W3 (w.heap.size + 2) 26 (.int .i64 0)) (hb : Below w.heap.size w W3) (hs : w.heap.size + 8 ≤ W3.heap.size) :
    KeepsFrom (w.heap.size + 8) W (((W3.setCell ⟨w.heap.size, 0, none⟩ (.slice none 0 0)).setCell ⟨w.heap.size + 1, 0, none⟩ (.int .i64 ((pre.length : Int) + 1))).setCell ⟨w.heap.size + 2, 0, none⟩ (.int .i64 40)).drew ∧
    PX t w (pre ++ [x]) (((W3.setCell ⟨w.heap.size, 0, none⟩ (.slice none 0 0)).setCell ⟨w.heap.size + 1, 0, none⟩ (.int .i64 ((pre.length : Int) + 1))).setCell ⟨w.heap.size + 2, 0, none⟩ (.int .i64 40)).drew := by
  refine ⟨hk.trans ((((KeepsOthers.setCell W3 _ _).trans (KeepsOthers.setCell _ _ _)).trans (KeepsOthers.setCell _ _ _)).trans (KeepsOthers.drew _) |>.from _), ⟨by rw [List.length_append]; exact hbad, ?_, ?_, ?_, ?_, ?_⟩⟩
  · exact ((h0.set (.slice none 0 0)).other (by omega) _).other (by omega) _
  · rw [List.length_append]; exact ((h1.other (by omega) _).set _).other (by omega) _
  · exact ((h2.other (by omega) _).other (by omega) _).set _
  · exact (((hb.setCell (p := ⟨w.heap.size, 0, none⟩) (by simp) _).setCell (p := ⟨w.heap.size + 1, 0, none⟩) (by simp) _).setCell (p := ⟨w.heap.size + 2, 0, none⟩) (by simp) _).drew
  · show _ ≤ (World.heap (World.setCell _ _ _)).size
    simp; omega
/-- all lines read: what is left -/
theorem pi_done {t : List UInt8} {w W : World} {A : Option Addr} {n c D : Nat} {rs : List Raw} (ht : t.length ≤ 4294967296) (h : PI t w (splitB 10 t) W A n c rs) (hD : w.heap.size + 8 ≤ D) (hK : W.heap[D]? = some (.deferred (some []))) :
    (((W.setCell ⟨w.heap.size, 0, none⟩ (.slice A n c)).setCell ⟨w.heap.size + 1, 0, none⟩ (.int .i64 0)).setCell ⟨w.heap.size + 2, 0, none⟩ (.int .i64 0)).heap[D]? = some (.deferred (some [])) ∧
    Hid (Boxed ((((W.setCell ⟨w.heap.size, 0, none⟩ (.slice A n c)).setCell ⟨w.heap.size + 1, 0, none⟩ (.int .i64 0)).setCell ⟨w.heap.size + 2, 0, none⟩ (.int .i64 0)).putObj D (.deferred none)) w.heap.size 25 (.slice A n c) ∧
    Boxed ((((W.setCell ⟨w.heap.size, 0, none⟩ (.slice A n c)).setCell ⟨w.heap.size + 1, 0, none⟩ (.int .i64 0)).setCell ⟨w.heap.size + 2, 0, none⟩ (.int .i64 0)).putObj D (.deferred none)) (w.heap.size + 1) 3 (.int .i64 0) ∧
    Boxed ((((W.setCell ⟨w.heap.size, 0, none⟩ (.slice A n c)).setCell ⟨w.heap.size + 1, 0, none⟩ (.int .i64 0)).setCell ⟨w.heap.size + 2, 0, none⟩ (.int .i64 0)).putObj D (.deferred none)) (w.heap.size + 2) 26 (.int .i64 0) ∧
    ParsePost t w (.returned (.tuple #[.agg #[.slice A n c], .int .i64 0, .int .i64 0])) ((((W.setCell ⟨w.heap.size, 0, none⟩ (.slice A n c)).setCell ⟨w.heap.size + 1, 0, none⟩ (.int .i64 0)).setCell ⟨w.heap.size + 2, 0, none⟩ (.int .i64 0)).putObj D (.deferred none))) := by
  have hK4 : (((W.setCell ⟨w.heap.size, 0, none⟩ (.slice A n c)).setCell ⟨w.heap.size + 1, 0, none⟩ (.int .i64 0)).setCell ⟨w.heap.size + 2, 0, none⟩ (.int .i64 0)).heap[D]? = some (.deferred (some [])) :=
    (((KeepsOthers.setCell W ⟨w.heap.size, 0, none⟩ (.slice A n c)).trans (KeepsOthers.setCell _ ⟨w.heap.size + 1, 0, none⟩ (.int .i64 0))).trans (KeepsOthers.setCell _ ⟨w.heap.size + 2, 0, none⟩ (.int .i64 0))).same D _ hK rfl
  refine ⟨hK4, boxed_put (((h.r0.set _).other (by omega) _).other (by omega) _) hK4 _, boxed_put (((h.r1.other (by omega) _).set _).other (by omega) _) hK4 _, boxed_put (((h.r2.other (by omega) _).other (by omega) _).set _) hK4 _, ?_, .inl ⟨A, n, c, rs, ?_, rfl, ?_, own_cap h.po.row⟩⟩
  · exact (((h.below.setCell (p := ⟨w.heap.size, 0, none⟩) (by simp) _).setCell (p := ⟨w.heap.size + 1, 0, none⟩) (by simp) _).setCell (p := ⟨w.heap.size + 2, 0, none⟩) (by simp) _).trans (below_put (by omega) _)
  · rw [h.so [] (by simp), parseLs]
  · have hp : PO ((((W.setCell ⟨w.heap.size, 0, none⟩ (.slice A n c)).setCell ⟨w.heap.size + 1, 0, none⟩ (.int .i64 0)).setCell ⟨w.heap.size + 2, 0, none⟩ (.int .i64 0)).putObj D (.deferred none)) (w.heap.size + 8) (splitB 10 t).length A n c rs := h.po.keptC fun i h1 h2 ⟨o, ho, hc⟩ => by
      rw [World.putObj_heap_other (by rintro rfl; rw [ho] at hK; injection hK with hK; subst hK; cases hc), Below.heap_setCell _ _ _ i (by simp; omega), Below.heap_setCell _ _ _ i (by simp; omega), Below.heap_setCell _ _ _ i (by simp; omega)]
    refine hp.rdN ?_ (by omega)
    rw [splitB_length]
    have : t.count 10 ≤ t.length := List.count_le_length
    omega

set_option maxRecDepth 100000 in
set_option maxHeartbeats 8000000 in
theorem parse_any (t : List UInt8) (ht : t.length ≤ 4294967296) (w : World) (hE : Env w.heap.size w) : Calls Tryd.prog 5 #[.string (str t)] w (ParsePost t w) := by
  obtain ⟨X, HX⟩ : ∃ X, Hid (X = str t) := ⟨_, rfl⟩
  have HE := Lib.hid hE
  have HT := Lib.hid ht
  rw [← HX.out]
  clear hE ht
  refine (callsIn_wide (n := 9)).1 ?_
  refine callsIn_of_wp_marks Tryd.func5 rfl trivial ?_ rfl
  simp only [Tryd.ntmps5, List.size_toArray, List.length_cons, List.length_nil, Nat.reduceAdd, Nat.reduceSub, Array.replicate_succ, Array.replicate_zero, List.push_toArray, List.append_toArray, List.nil_append, List.cons_append]
  gi_wp2_with (refine ⟨trivial, ?_⟩; gi_at_call 8; refine (callsIn_wide.2 (splitSeq_any X _)).mono ?_; rintro e w2 ⟨rfl, rfl⟩)
  simp only [Nat.add_assoc, Nat.reduceAdd]
  obtain ⟨W0, hW0⟩ : ∃ W0, W0 = ((((((((w.alloc (.cells #[.slice none 0 0] 25)).alloc (.cells #[.int .i64 0] 3)).alloc (.cells #[.int .i64 0] 26)).alloc (.cells #[.slice none 0 0] 25)).alloc (.cells #[.int .i64 0] 3)).alloc (.cells #[.string X] 9)).alloc (.cells #[.string ⟨#[10]⟩] 9)).alloc (.cells #[.int .i64 0] 3)) := ⟨_, rfl⟩
  have hz : W0.heap.size = w.heap.size + 8 := by rw [hW0]; simp
  have hb0 : Below w.heap.size w W0 := by rw [hW0]; exact ((((((((Below.refl _ w).alloc (Nat.le_refl _) _).alloc (by simp) _).alloc (by simp; omega) _).alloc (by simp; omega) _).alloc (by simp; omega) _).alloc (by simp; omega) _).alloc (by simp; omega) _).alloc (by simp; omega) _
  have hb : ∀ (i : Nat) (o : Obj), ([.cells #[.slice none 0 0] 25, .cells #[.int .i64 0] 3, .cells #[.int .i64 0] 26, .cells #[.slice none 0 0] 25, .cells #[.int .i64 0] 3, .cells #[.string X] 9, .cells #[.string ⟨#[10]⟩] 9, .cells #[.int .i64 0] 3] : List Obj)[i]? = some o → W0.heap[w.heap.size + i]? = some o := by
    intro i o h
    have := allocs_at [.cells #[.slice none 0 0] 25, .cells #[.int .i64 0] 3, .cells #[.int .i64 0] 26, .cells #[.slice none 0 0] 25, .cells #[.int .i64 0] 3, .cells #[.string X] 9, .cells #[.string ⟨#[10]⟩] 9, .cells #[.int .i64 0] 3] w i o h
    rw [hW0]
    exact this
  have bS : Boxed W0 (w.heap.size + 5) 9 (.string (str t)) := by rw [← HX.out]; exact hb 5 _ rfl
  have bP : Boxed W0 (w.heap.size + 6) 9 (.string ⟨#[10]⟩) := hb 6 _ rfl
  have bV : Boxed W0 (w.heap.size + 7) 3 (.int .i64 0) := hb 7 _ rfl
  have hw0 : PIx t w [] W0 := ⟨none, 0, 0, [], fun r hr => by rw [List.nil_append] at hr; unfold parseT; rw [hr]; rfl, hb 3 _ rfl, hb 4 _ rfl, hb 0 _ rfl, hb 1 _ rfl, hb 2 _ rfl, PO.nil _ _ _, hb0, by omega⟩
  rw [← hW0]
  clear hW0 hb
  refine range_law (F := Fence.wide) (n := 9) rfl (by omega) (gf := 26) (lb := #[.pointer (some ⟨w.heap.size + 6, 0, none⟩), .pointer (some ⟨w.heap.size + 5, 0, none⟩), .pointer (some ⟨w.heap.size + 7, 0, none⟩)]) rfl trivial (enters_of Tryd.func26 (by kernel_rfl) rfl)
    (enc := fun x : List UInt8 => Value.string (str x)) (B := w.heap.size + 5) (Kp := Kept w.heap.size (w.heap.size + 5) (w.heap.size + 8)) (xs := splitB 10 t)
    (fun W hW => split_gives 8 (by omega) t HT.out (w.heap.size + 5) (w.heap.size + 6) (w.heap.size + 7) w.heap.size (w.heap.size + 5) (w.heap.size + 8) (by omega) (by omega) (by omega) (by omega) (by omega) (by omega) (by omega) (by omega) W (boxed_on bS hW) (boxed_on bP hW) (boxed_on bV hW))
    (fun h k => Kept.trans h k) (fun Z l o o' h1 h2 h3 => Kept.put (B := W0.heap.size) (by omega) Z l o o' h1 h2 h3) rfl
    (PIx t w) (fun c pre W => c = .ret ∧ PX t w pre W)
    (pi_own t w W0.heap.size (by omega)) (fun c s A C row hs hg hr => ⟨hs.1, px_own t w W0.heap.size (by omega) s A C row hs.2 hg hr⟩)
    (fun pre A C hs ht => pi_turn hs ht) (fun c pre A C hs ht => ⟨hs.1, px_turn hs.2 ht⟩) hw0
    (fun x => { tmps := #[.string X, undef, .pointer (some ⟨w.heap.size, 0, none⟩), .pointer (some ⟨w.heap.size + 1, 0, none⟩), .pointer (some ⟨w.heap.size + 2, 0, none⟩), .pointer (some ⟨w.heap.size + 3, 0, none⟩), .pointer (some ⟨w.heap.size + 4, 0, none⟩), .string (str x), .string X, .func (.func 26) #[] #[.pointer (some ⟨w.heap.size + 6, 0, none⟩), .pointer (some ⟨w.heap.size + 5, 0, none⟩), .pointer (some ⟨w.heap.size + 7, 0, none⟩)], .string (str x), undef, undef, undef, undef, undef, undef, undef, undef, undef], defers := [] }) ?assign ?body ?done ?stop
  case assign =>
    intro l x W K hK
    gi_wp2
    exact hK
  case body =>
    rintro l pre x r W hxs ⟨A, n, c, rs, hI⟩
    have HI := Lib.hid hI
    rw [hz]
    have hlen : pre.length ≤ 4294967296 ∧ x.length ≤ 4294967296 := by
      have h1 := splitB_length 10 t
      rw [hxs, List.length_append, List.length_cons] at h1
      have h2 : t.count 10 ≤ t.length := List.count_le_length
      have h3 := (splitB_mem (c := 10) (t := t) (w := x) (by rw [hxs]; simp)).2
      have := HT.out
      exact ⟨by omega, by omega⟩
    obtain ⟨m, hm⟩ : ∃ m, pre.length = m := ⟨_, rfl⟩
    have HM := Lib.hid hm
    have HXS := Lib.hid hxs
    have HLn := Lib.hid hlen.2
    have hml : m ≤ 4294967296 := by omega
    have c4 : W.cell? ⟨w.heap.size + 4, 0, none⟩ = some (.int .i64 m) := by rw [← hm]; exact hI.num.cell
    have f4 : W.frozen? ⟨w.heap.size + 4, 0, none⟩ = false := hI.num.frozen
    obtain ⟨Y, HY⟩ : ∃ Y, Hid (Y = str x) := ⟨_, rfl⟩
    obtain ⟨W1, hW1⟩ : ∃ W1, W1 = W.setCell ⟨w.heap.size + 4, 0, none⟩ (.int .i64 ((m : Int) + 1)) := ⟨_, rfl⟩
    have HW1 : Hid (W1 = W.setCell ⟨w.heap.size + 4, 0, none⟩ (.int .i64 ((pre.length : Int) + 1))) := Lib.hid (by rw [hm]; exact hW1)
    have hb1 : Below w.heap.size w W1 := by rw [hW1]; exact hI.below.setCell (p := ⟨w.heap.size + 4, 0, none⟩) (by simp) _
    have hs1 : W1.heap.size = W.heap.size := by rw [hW1]; simp
    have HB1 := Lib.hid hb1
    have hzW := hI.size
    have hPB : Boxed W1 (w.heap.size + 3) 25 (.slice A n c) := by rw [hW1]; exact (Below.heap_setCell W ⟨w.heap.size + 4, 0, none⟩ _ _ (by simp)).trans hI.prog
    have hPO : PO W1 (w.heap.size + 8) m A n c rs := by rw [hW1, ← hm]; exact hI.po.kept fun i h1 h2 => Below.heap_setCell W ⟨w.heap.size + 4, 0, none⟩ _ i (by simp; omega)
    have HPB := Lib.hid hPB
    have HPO := Lib.hid hPO
    have HWd := Lib.hid (wordsOf_any x hlen.2 W1 (HE.out.at_ hb1 (by omega)))
    simp only [← HY.out] at HWd ⊢
    clear hI hxs hlen hm hb1 hPB hPO hw0 hb0 bS bP bV
    gi_wp2_with (first
      | (refine ⟨trivial, ?_⟩; gi_at_call 10; rw [← hW1]; refine (CallsIn.inRound l (callsIn_wide.2 HWd.out)).mono ?_; rintro e W2 ⟨Aw, k, cw, rfl, hkl, hrow, hb2⟩; refine Hid.out ?_))
    have HB2 : Hid (Below W1.heap.size W1 W2) := Lib.hid hb2
    have hz2 : W1.heap.size ≤ W2.heap.size := hb2.size
    have HC2 := Lib.hid (own_cap hrow)
    have HAd := Lib.hid (addLine_any (w.heap.size + 3) (w.heap.size + 8) m rs A Aw n c cw W2 ((wordsL x).take 6) k hkl (boxed_on HPB.out hb2) (HPO.out.below hb2) hml (by omega) (by omega) (Reads.of_own hrow) (own_cap hrow)
      (fun y hy => by have := (wordsL_mem (List.mem_of_mem_take hy)).2.2; have := HLn.out; omega) (HE.out.at_ (HB1.out.trans (hb2.mono (by omega))) (by omega)))
    clear hkl hrow hb2
    refine Lib.hid ?_
    gi_wp2_with (refine ⟨trivial, ?_⟩; gi_at_call 9; refine (CallsIn.inRound l (callsIn_wide.2 HAd.out)).mono ?_; rintro e W3 ⟨ok, rfl, hk3, hc3⟩; refine Hid.out ?_)
    have hst := pi_step (ok := ok) HXS.out HI.out (by have := HB2.out; rw [HW1.out] at this; exact this) hk3 (by rw [HM.out]; exact hc3)
    rw [HM.out] at hst
    have HST := Lib.hid hst
    clear hst hk3 hc3 c4 f4
    cases ok with
    | true =>
      refine Lib.hid ?_
      gi_wp2
      exact ⟨HST.out.1, HST.out.2.1, HST.out.2.2.1 (by first | rfl | trivial)⟩
    | false =>
      obtain ⟨s1, s2, _, s4, s5, s6, s7, s8, s9, s10⟩ := HST.out
      have e0 := s5.cell
      have e1 := s6.cell
      have e2 := s7.cell
      have e3 := s8.cell
      have g0 := s5.frozen
      have g1 := s6.frozen
      have g2 := s7.frozen
      have hfin := px_bad (x := x) s1 (by rw [HM.out]; exact s4 (by first | rfl | trivial)) s5 s6 s7 s9 s10
      rw [HM.out] at hfin
      have HF := Lib.hid hfin
      have hmx : Tryd.prog.follows .mixedOrders = true := by kernel_rfl
      clear s1 s2 s4 s5 s6 s7 s8 s9 hfin
      refine Lib.hid ?_
      gi_wp2
      gi_region_with_o (fail)
      all_goals
        gi_wp2
        exact ⟨HF.out.1, rfl, HF.out.2⟩
  case done =>
    rintro D W hD ⟨A, n, c, rs, hI⟩ hK
    have c3 := hI.prog.cell
    have e0 := hI.r0.cell
    have e1 := hI.r1.cell
    have e2 := hI.r2.cell
    have g0 := hI.r0.frozen
    have g1 := hI.r1.frozen
    have g2 := hI.r2.frozen
    obtain ⟨hK4, HQ⟩ := pi_done HT.out hI (by omega) hK
    clear hI
    gi_wp2
    refine ⟨by simp, .inl ⟨_, _, rfl, run_takeDeferred hK4, ?_⟩⟩
    obtain ⟨q0, q1, q2, q3⟩ := HQ.out
    have k0 := q0.cell
    have k1 := q1.cell
    have k2 := q2.cell
    exact ⟨.tuple #[.agg #[.slice A n c], .int .i64 0, .int .i64 0], by simp [results, Tryd.f5, go_sem, k0, k1, k2], q3⟩
  case stop =>
    rintro D c pre x r W hD hxs ⟨rfl, hX⟩ hK
    gi_wp2
    refine ⟨by simp, .inl ⟨_, _, rfl, run_takeDeferred hK, ?_⟩⟩
    have k0 := (boxed_put hX.r0 hK (.deferred none)).cell
    have k1 := (boxed_put hX.r1 hK (.deferred none)).cell
    have k2 := (boxed_put hX.r2 hK (.deferred none)).cell
    exact ⟨.tuple #[.agg #[.slice none 0 0], .int .i64 (pre ++ [x]).length, .int .i64 40], by simp only [results, Tryd.f5, go_sem]; simp [go_sem, k0, k1, k2], hX.below.trans (below_put (by omega) _), .inr ⟨_, hX.bad, rfl⟩⟩
end Go.Proofs.YtbpobbadmbafaaaDoor
