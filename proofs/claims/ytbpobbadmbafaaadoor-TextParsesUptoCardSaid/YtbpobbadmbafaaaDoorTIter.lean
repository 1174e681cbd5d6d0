/-
  A range over a function whose iterator keeps a cell of its own between two rounds: what such an iterator owes, and the law for the loop over it.
-/
import Derived.RangeFuncNested
import Derived.RangeFuncBound
import Derived.RangeFuncCalls
import Derived.RangeFuncLeaves
import Derived.Shelf.Abstract
import Derived.Shelf.RegionOpen
import Derived.WalkKit
import Derived.OwnWalkIn
import Derived.TacticsInMore
import Derived.LoopNIn
import Derived.LoopIn
import Derived.Test.YtbpobbadmbafaaaDoorMem
namespace Go.Proofs.YtbpobbadmbafaaaDoor
set_option linter.unusedVariables false
open Go.RowKit

section
variable {F : Fence} {n : Nat} {P : Program}

/-- what an iterator may do between two rounds: new blocks; a store into its own box -/
def Turn (B : Nat) (X Y : World) : Prop := Below X.heap.size X Y ∨ ∃ (t : TypeId) (v u : Value), Boxed X B t v ∧ Y = X.setCell ⟨B, 0, none⟩ u
theorem Turn.keeps {B l : Nat} {X Y : World} {o : Obj} (h : Turn B X Y) (hl : X.heap[l]? = some o) (ho : o.isCells = false) : Y.heap[l]? = some o := by
  rcases h with h | ⟨t, v, u, hb, rfl⟩
  · exact (h.block l (Array.getElem?_eq_some_iff.1 hl).1).trans hl
  · refine (Below.heap_setCell X ⟨B, 0, none⟩ u l ?_).trans hl
    rintro rfl
    unfold Boxed at hb
    rw [hl] at hb
    injection hb with hb
    subst hb
    cases ho

/-- the iterator gives these values, in this order, till a round says 'no more' -/
def Gives {α : Type} (F : Fence) (n : Nat) (P : Program) (g : Nat) (lb : Array Value) (enc : α → Value) (B : Nat) (Kp : World → World → Prop) (xs : List α) (W : World) : Prop :=
  ∀ (l : Nat) (J Jx : List α → World → Prop), (∀ pre X Y, J pre X → Turn B X Y → J pre Y) → (∀ pre X Y, Jx pre X → Turn B X Y → Jx pre Y) →
    (∀ pre x r X, xs = pre ++ x :: r → J pre X → YieldAt F (n - 1) P l #[enc x] X fun e Y =>
      (e = .returned (.bool true) ∧ J (pre ++ [x]) Y ∧ Kp X Y) ∨ (e = .returned (.bool false) ∧ Jx (pre ++ [x]) Y)) →
    J [] W → CallsIn F n P g (#[.func (.yield l) #[] #[]] ++ lb) W fun e Y => (∃ v, e = .returned v) ∧ (J xs Y ∨ ∃ pre x r, xs = pre ++ x :: r ∧ Jx (pre ++ [x]) Y)

/-- the loop's record behind block D, at D the block of the rounds' deferred calls -/
def Rec (D : Nat) (o : Loop) (X : World) : Prop := X.heap[D + 1]? = some (.loop o) ∧ X.heap[D]? = some (.deferred (some []))
theorem Rec.turn {B D : Nat} {o : Loop} {X Y : World} (h : Rec D o X) (ht : Turn B X Y) : Rec D o Y := ⟨ht.keeps h.1 rfl, ht.keeps h.2 rfl⟩
theorem Rec.put {D : Nat} {o : Loop} {X : World} (h : Rec D o X) (o' : Loop) : Rec D o' (X.putObj (D + 1) (.loop o')) :=
  ⟨World.putObj_heap_same (Array.getElem?_eq_some_iff.1 h.1).1, (World.putObj_heap_other (by omega)).trans h.2⟩
theorem Rec.from {D : Nat} {o : Loop} {X Y : World} (h : Rec D o X) (hk : KeepsFrom D X Y) : Rec D o Y := ⟨hk.same _ _ (by omega) h.1 rfl, hk.same _ _ (Nat.le_refl _) h.2 rfl⟩

/-- one round, as the iterator is told of it -/
theorem range_round {α : Type} {D : Nat} {fn : FuncId} {tmps : Array Value} {ps : Array Tmp} {assign body : Code} {enc : α → Value} {Kp : World → World → Prop} {m : Nat} (hfn : F.fn fn)
    (rc : LoopState → Option Code → Loop) (hrc : rc = fun s j => { state := s, pending := j, fn, tmps, params := ps, assign, body, defers := D })
    (hKt : ∀ {X Y Z : World}, Kp X Y → Kp Y Z → Kp X Z) (hKb : ∀ (X : World) (l : Nat) (o o' : Obj), D ≤ l → X.heap[l]? = some o → o.isCells = false → Kp X (X.putObj l o')) (hps : ps.size = 1)
    (I : List α → World → Prop) (Ix : Code → List α → World → Prop) (hI : OwnFrom D I) (hIx : ∀ c, OwnFrom D (Ix c)) (a₁ : α → Act) (pre : List α) (x : α) (X : World) (hx : I pre X) (hr : Rec D (rc .ready none) X)
    (hassign : ∀ (K : Act → World → Prop), K (a₁ x) X →
      assign.wpIn (F.inRound (D + 1)) m P (Exit.then K (fun _ _ _ => False)) { tmps := (ps.zip #[enc x]).foldl (fun t (p, v) => t.setIfInBounds p v) tmps, defers := [] } X)
    (hbody : ∀ W, I pre W → body.wpIn (F.inRound (D + 1)) m P (ownPostG D Kp I Ix (pre ++ [x]) W) (a₁ x) W) :
    YieldAt F m P (D + 1) #[enc x] X fun e Y => (e = .returned (.bool true) ∧ (I (pre ++ [x]) Y ∧ Rec D (rc .ready none) Y) ∧ Kp X Y) ∨ (e = .returned (.bool false) ∧ ∃ c, Ix c (pre ++ [x]) Y ∧ Rec D (rc .done (some c)) Y) := by
  have hst : ∀ s j, (rc s j).state = s ∧ (rc s j).pending = j ∧ (rc s j).params = ps := fun s j => by rw [hrc]; exact ⟨rfl, rfl, rfl⟩
  have hy := run_yield (P := P) (args := #[enc x]) hr.1 (by rw [(hst _ _).2.2, hps]; rfl)
  rw [hrc] at hy
  have hr2 := hr.put { rc .ready none with state := .busy }
  have k2 := hKb X _ _ (.loop { rc .ready none with state := .busy }) (by omega) hr.1 rfl
  have out : ∀ (j : Option Code) (Z : World), KeepsFrom D (X.putObj (D + 1) (.loop { rc .ready none with state := .busy })) Z →
      (Instr.endRound (D + 1) j).run P Z = .ok (.bool j.isNone) (Z.putObj (D + 1) (.loop (rc (if j.isNone then .ready else .done) j))) ∧ Rec D { rc .ready none with state := .busy } Z ∧
      Rec D (rc (if j.isNone then .ready else .done) j) (Z.putObj (D + 1) (.loop (rc (if j.isNone then .ready else .done) j))) := fun j Z hk => by
    have h3 := hr2.from hk
    have h4 := run_endRound (P := P) j h3.1
    refine ⟨?_, h3, h3.put _⟩
    rw [hrc] at h4 ⊢
    exact h4
  refine ⟨fn, _, assign, body, hy, roundIn_of_wpIn hfn (hassign _ ⟨_, run_beginRound hr.1 (hst _ _).1, ?_⟩)⟩
  refine wpIn_mono (hbody _ (hI.putObj _ hx (by omega) hr.1 rfl)) ?_
  rintro e a3 Z hp
  cases e with
  | normal =>
    obtain ⟨hk, hkp, hi⟩ := hp
    obtain ⟨o1, o2, o3⟩ := out none Z hk
    exact ⟨_, _, o1, .inl ⟨rfl, ⟨hI.putObj _ hi (by omega) o2.1 rfl, o3⟩, hKt (hKt k2 hkp) (hKb Z _ _ _ (by omega) o2.1 rfl)⟩⟩
  | ret =>
    obtain ⟨hk, hi⟩ := hp
    obtain ⟨o1, o2, o3⟩ := out (some .ret) Z hk
    exact ⟨_, _, o1, .inr ⟨rfl, .ret, (hIx _).putObj _ hi (by omega) o2.1 rfl, o3⟩⟩
  | exit id =>
    obtain ⟨hk, hi⟩ := hp
    obtain ⟨o1, o2, o3⟩ := out (some (.exit id)) Z hk
    exact ⟨_, _, o1, .inr ⟨rfl, .exit id, (hIx _).putObj _ hi (by omega) o2.1 rfl, o3⟩⟩
  | goto t =>
    obtain ⟨hk, hi⟩ := hp
    obtain ⟨o1, o2, o3⟩ := out (some (.goto t)) Z hk
    exact ⟨_, _, o1, .inr ⟨rfl, .goto t, (hIx _).putObj _ hi (by omega) o2.1 rfl, o3⟩⟩
  | panic ch => exact hp.elim
  | outgrown => exact hp.elim

theorem range_resolve {a : Act} {g : Operand} {gf : Nat} {lb : Array Value} (hg : a.eval g = .func (.func gf) #[] lb) (l : Nat) (W : World) :
    (resolve a.eval (rangeCall g l) 0).run P W = .ok { target := .fn (.func gf) lb, args := #[.func (.yield l) #[] #[]] } W := by
  simp only [resolve, hg]
  simp [go_sem]
theorem range_leads {gf : Nat} {lb : Array Value} {W : World} {args : Array Value} {f' : Nat} (hF : F.fn gf) (h : Target.leads P W (.fn (.func gf) lb) args = some f') : F.fn f' := by
  simp [Target.leads] at h; subst h; exact hF
theorem range_invoke {gf : Nat} (eg : ∀ args w, (callFunc gf args).run P w = .ok (.enter gf args) w) (lb args : Array Value) (W : World) : (invoke (.fn (.func gf) lb) args).run P W = .ok (.enter gf (args ++ lb)) W := by
  simp [invoke, go_sem, eg]

set_option maxHeartbeats 1000000 in
theorem range_law {α : Type} {g : Operand} {ps : Array Tmp} {assign body : Code} {Q : Exit → Act → World → Prop} {a : Act} {w : World} (hro : F.round = none) (h1 : 1 ≤ n) {gf : Nat} {lb : Array Value}
    (hg : a.eval g = .func (.func gf) #[] lb) (hFg : F.fn gf) (eg : ∀ args w, (callFunc gf args).run P w = .ok (.enter gf args) w) {enc : α → Value} {B : Nat} {Kp : World → World → Prop} {xs : List α}
    (hseq : ∀ W, Below w.heap.size w W → Gives F (n - 1) P gf lb enc B Kp xs W)
    (hKt : ∀ {X Y Z : World}, Kp X Y → Kp Y Z → Kp X Z) (hKb : ∀ (X : World) (l : Nat) (o o' : Obj), w.heap.size ≤ l → X.heap[l]? = some o → o.isCells = false → Kp X (X.putObj l o')) (hps : ps.size = 1)
    (I : List α → World → Prop) (Ix : Code → List α → World → Prop) (hI : OwnFrom w.heap.size I) (hIx : ∀ c, OwnFrom w.heap.size (Ix c))
    (hIt : ∀ pre X Y, I pre X → Turn B X Y → I pre Y) (hIxt : ∀ c pre X Y, Ix c pre X → Turn B X Y → Ix c pre Y) (h0 : I [] w) (a₁ : α → Act)
    (hassign : ∀ (l : Nat) (x : α) (W : World) (K : Act → World → Prop), K (a₁ x) W →
      assign.wpIn (F.inRound l) (n - 1 - 1) P (Exit.then K (fun _ _ _ => False)) { tmps := (ps.zip #[enc x]).foldl (fun t (p, v) => t.setIfInBounds p v) a.tmps, defers := [] } W)
    (hbody : ∀ (l : Nat) (pre : List α) (x : α) (r : List α) (W : World), xs = pre ++ x :: r → I pre W → body.wpIn (F.inRound l) (n - 1 - 1) P (ownPostG w.heap.size Kp I Ix (pre ++ [x]) W) (a₁ x) W)
    (hdone : ∀ (D : Nat) (W : World), w.heap.size ≤ D → I xs W → W.heap[D]? = some (.deferred (some [])) → Q .normal { a with defers := { target := .collected D, args := #[] } :: a.defers } W)
    (hstop : ∀ (D : Nat) (c : Code) (pre : List α) (x : α) (r : List α) (W : World), w.heap.size ≤ D → xs = pre ++ x :: r → Ix c (pre ++ [x]) W → W.heap[D]? = some (.deferred (some [])) → c.wpIn F n P Q { a with defers := { target := .collected D, args := #[] } :: a.defers } W) :
    (Code.rangeFunc g ps assign body).wpIn F n P Q a w := by
  refine wpIn_rangeFunc ?_
  intro fn hfn
  rw [hro]
  obtain ⟨rc, hrc⟩ : ∃ rc : LoopState → Option Code → Loop, rc = fun s j => { state := s, pending := j, fn, tmps := a.tmps, params := ps, assign, body, defers := w.heap.size } := ⟨_, rfl⟩
  have hst : ∀ s j, (rc s j).state = s ∧ (rc s j).pending = j ∧ (rc s j).params = ps := fun s j => by rw [hrc]; exact ⟨rfl, rfl, rfl⟩
  obtain ⟨W1, hW1⟩ : ∃ W1, W1 = (w.alloc (.deferred (some []))).alloc (.loop (rc .ready none)) := ⟨_, rfl⟩
  have r1 : Rec w.heap.size (rc .ready none) W1 := by
    rw [hW1]
    refine ⟨?_, (Below.heap_alloc _ _ _ (by simp)).trans (World.alloc_heap_new w _)⟩
    have := World.alloc_heap_new (w.alloc (.deferred (some []))) (.loop (rc .ready none))
    rwa [World.size_alloc] at this
  have b1 : Below w.heap.size w W1 := by rw [hW1]; exact ((Below.refl _ w).alloc (Nat.le_refl _) _).alloc (by simp) _
  have i1 : I [] W1 := by rw [hW1]; exact hI.alloc _ (hI.alloc _ h0)
  have hend := hseq W1 b1 (w.heap.size + 1) (fun pre X => I pre X ∧ Rec w.heap.size (rc .ready none) X) (fun pre X => ∃ c, Ix c pre X ∧ Rec w.heap.size (rc .done (some c)) X)
    (fun pre X Y hx ht => ⟨hIt pre X Y hx.1 ht, hx.2.turn ht⟩) (fun pre X Y ⟨c, hx, hr⟩ ht => ⟨c, hIxt c pre X Y hx ht, hr.turn ht⟩)
    (fun pre x r X hxs hx => range_round (Kp := Kp) hfn rc hrc (fun h k => hKt h k) hKb hps I Ix hI hIx a₁ pre x X hx.1 hx.2 (fun K hK => hassign _ x X K hK) (fun W hW => hbody _ pre x r W hxs hW)) ⟨i1, r1⟩
  have e1 : (Instr.enterLoop fn a.tmps ps assign body none).run P w = .ok (w.heap.size + 1, [{ target := .collected w.heap.size, args := #[] }]) W1 := by rw [hW1, hrc]; exact run_enterLoop_outer _ _ _ _ _
  have e2 : (resolve a.eval (rangeCall g (w.heap.size + 1)) 0).run P W1 = .ok { target := .fn (.func gf) lb, args := #[.func (.yield (w.heap.size + 1)) #[] #[]] } W1 := range_resolve hg _ _
  have e3 : ∀ f', Target.leads P W1 (.fn (.func gf) lb) #[.func (.yield (w.heap.size + 1)) #[] #[]] = some f' → F.fn f' := fun f' hf' => range_leads hFg hf'
  have e4 : (invoke (.fn (.func gf) lb) #[.func (.yield (w.heap.size + 1)) #[] #[]]).run P W1 = .ok (.enter gf (#[.func (.yield (w.heap.size + 1)) #[] #[]] ++ lb)) W1 := range_invoke eg _ _ _
  have e5 : ∀ e Y, ((∃ v, e = Ending.returned v) ∧ ((I xs Y ∧ Rec w.heap.size (rc .ready none) Y) ∨ ∃ pre x r, xs = pre ++ x :: r ∧ ∃ c, Ix c (pre ++ [x]) Y ∧ Rec w.heap.size (rc .done (some c)) Y)) →
      rangePost F n P (w.heap.size + 1) Q { a with defers := [{ target := .collected w.heap.size, args := #[] }] ++ a.defers } e Y := by
    rintro e Y ⟨⟨v, rfl⟩, ⟨hi, hr⟩ | ⟨pre, x, r, hxs, c, hi, hr⟩⟩
    · have h5 := run_endLoop (P := P) hr.1 (by rw [(hst _ _).1]; simp)
      rw [(hst _ _).2.1] at h5
      exact ⟨none, _, h5, hdone _ _ (Nat.le_refl _) (hI.putObj _ hi (by omega) hr.1 rfl) ((World.putObj_heap_other (by omega)).trans hr.2)⟩
    · have h5 := run_endLoop (P := P) hr.1 (by rw [(hst _ _).1]; simp)
      rw [(hst _ _).2.1] at h5
      exact ⟨some c, _, h5, hstop _ c pre x r _ (Nat.le_refl _) hxs ((hIx c).putObj _ hi (by omega) hr.1 rfl) ((World.putObj_heap_other (by omega)).trans hr.2)⟩
  exact ⟨_, _, _, _, _, _, _, _, e1, e2, e3, e4, fun _ => h1, hend.mono e5⟩

/-- the boxes from lo on, up to hi, are kept -/
def KeepC (lo hi : Nat) (X Y : World) : Prop := ∀ b, lo ≤ b → b < hi → ∀ o, X.heap[b]? = some o → o.isCells = true → Y.heap[b]? = some o
theorem KeepC.trans {lo hi : Nat} {X Y Z : World} (h : KeepC lo hi X Y) (k : KeepC lo hi Y Z) : KeepC lo hi X Z := fun b h1 h2 o ho hc => k b h1 h2 o (h b h1 h2 o ho hc) hc
theorem KeepC.put {lo hi : Nat} (X : World) (l : Nat) (o o' : Obj) (hl : X.heap[l]? = some o) (ho : o.isCells = false) : KeepC lo hi X (X.putObj l o') := fun b h1 h2 p hp hc => by
  refine (World.putObj_heap_other ?_).trans hp
  rintro rfl
  rw [hl] at hp
  injection hp with hp
  subst hp
  rw [ho] at hc
  cases hc
theorem KeepC.box {lo hi b : Nat} {X Y : World} {t : TypeId} {v : Value} (h : KeepC lo hi X Y) (h1 : lo ≤ b) (h2 : b < hi) (hb : Boxed X b t v) : Boxed Y b t v := h b h1 h2 _ hb rfl
theorem KeepC.below {lo hi B : Nat} {X Y : World} (h : Below B X Y) (hB : hi ≤ B) : KeepC lo hi X Y := fun b h1 h2 o ho hc => (h.block b (by omega)).trans ho
theorem Turn.size {B : Nat} {X Y : World} (h : Turn B X Y) : X.heap.size ≤ Y.heap.size := by
  rcases h with h | ⟨t, v, u, hb, rfl⟩
  · exact h.size
  · exact ((Below.refl B X).setCell (p := ⟨B, 0, none⟩) (Nat.le_refl _) u).size
theorem Turn.block {B b : Nat} {X Y : World} (h : Turn B X Y) (hb : b < X.heap.size) (hne : b ≠ B) : Y.heap[b]? = X.heap[b]? := by
  rcases h with h | ⟨t, v, u, _, rfl⟩
  · exact h.block b hb
  · exact Below.heap_setCell X ⟨B, 0, none⟩ u b hne
theorem Turn.below {B n0 : Nat} {X Y : World} (h : Turn B X Y) (h1 : n0 ≤ B) (h2 : n0 ≤ X.heap.size) : Below n0 X Y := by
  rcases h with h | ⟨t, v, u, _, rfl⟩
  · exact h.mono h2
  · exact (Below.refl n0 X).setCell (p := ⟨B, 0, none⟩) h1 u
theorem Turn.boxed {B b : Nat} {X Y : World} {t : TypeId} {v : Value} (h : Turn B X Y) (hb : Boxed X b t v) (hne : b ≠ B) : Boxed Y b t v := (h.block hb.lt hne).trans hb
end
end Go.Proofs.YtbpobbadmbafaaaDoor
