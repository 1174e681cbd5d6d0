/-
  A walker's memory: what is reached, the stacks, what waits; what a step leaves of it.
-/
import Derived.Test.YtcgoanfhabjpfaaKTak
namespace Go.Proofs.Ytcgoanfhabjpfaa
set_option linter.unusedVariables false
open Go.ChangeShapes Go.WideShapes Go.ChangeAt Go.RowKit

/-- all old blocks but some are as they were -/
structure Kp (w w' : World) (ex : Nat → Prop) : Prop where
  os : w'.os = w.os
  tape : w'.tape = w.tape
  output : w'.output = w.output
  size : w.heap.size ≤ w'.heap.size
  block : ∀ i, i < w.heap.size → ¬ ex i → w'.heap[i]? = w.heap[i]?
section
variable {w w' w1 w2 : World} {ex ex' : Nat → Prop} {B : Nat}
theorem Kp.refl (w : World) (ex : Nat → Prop) : Kp w w ex := ⟨rfl, rfl, rfl, Nat.le_refl _, fun _ _ _ => rfl⟩
theorem Kp.trans (h : Kp w w1 ex) (k : Kp w1 w2 ex') (he : ∀ i, i < w.heap.size → ex' i → ex i) : Kp w w2 ex :=
  ⟨k.os.trans h.os, k.tape.trans h.tape, k.output.trans h.output, Nat.le_trans h.size k.size, fun i hi hn => (k.block i (Nat.lt_of_lt_of_le hi h.size) fun hx => hn (he i hi hx)).trans (h.block i hi hn)⟩
theorem Kp.of_below (h : Below w.heap.size w w') (ex : Nat → Prop) : Kp w w' ex := ⟨h.os, h.tape, h.output, h.size, fun i hi _ => h.block i hi⟩
theorem Kp.of_grown {row : Option Nat} (h : w.grownBy w' row) (he : ∀ i, row = some i → ex i) : Kp w w' ex := ⟨h.os, h.tape, h.output, h.size, fun i hi hn => h.block i hi fun e => hn (he i e.symm)⟩
theorem Kp.set (w : World) (p : Addr) (v : Value) (hp : ex p.block) : Kp w (w.setCell p v) ex :=
  ⟨rfl, rfl, rfl, by simp [World.setCell], fun i hi hn => Below.heap_setCell w p v i (by rintro rfl; exact hn hp)⟩
theorem Kp.below (h : Kp w w' ex) (hB : B ≤ w.heap.size) (he : ∀ i, ex i → B ≤ i) : Below B w w' :=
  ⟨h.os, h.tape, h.output, h.size, fun i hi => h.block i (by omega) fun hx => by have := he i hx; omega⟩
theorem Kp.wider (h : Kp w w' ex) (he : ∀ i, i < w.heap.size → ex i → ex' i) : Kp w w' ex' := ⟨h.os, h.tape, h.output, h.size, fun i hi hn => h.block i hi fun hx => hn (he i hi hx)⟩
theorem Kp.drew (h : Kp w w' ex) : Kp w w'.drew ex := ⟨h.os, h.tape, h.output, h.size, h.block⟩
theorem Kp.own {base size n : Nat} {e : TypeId} {v : Value} {xs : List Value} (h : Kp w w' ex) (ho : w.ownsRow base e size v n xs) (hn : ∀ i, v.ownBlock = some i → ¬ ex i) : w'.ownsRow base e size v n xs :=
  own_kept ho fun i hi => h.block i (own_lt ho hi).2 (hn i hi)
theorem Kp.blk {g : Nat} {t : TypeId} {cs : Array Value} (h : Kp w w' ex) (hb : Blk w g t cs) (hn : ¬ ex g) : Blk w' g t cs := (h.block g hb.lt hn).trans hb
end

def reachC (l : List (Option Stk)) : List Value := l.map fun x => .bool x.isSome
def Ex (g ra sa : Nat) (wv : Value) (i : Nat) : Prop := i = g ∨ i = ra ∨ i = sa ∨ wv.ownBlock = some i
structure WS (w : World) (B g ra sa : Nat) (A : Option Addr) (n c : Nat) (rs : List Raw) (r : Raw) (m : Nat) (l : List (Option Stk)) (wl : List Nat) (vs : List Value) (WA : Option Addr) (wk wcap : Nat) : Prop where
  wkr : Wk w B g A n c rs r (.slice (some ⟨ra, 0, none⟩) m m) (.slice (some ⟨sa, 0, none⟩) m m) (.slice WA wk wcap)
  len : l.length = m
  clen : r.fn.code.length = m
  small : m ≤ 256
  reached : Blk w ra 4 (reachC l).toArray
  stacks : Blk w sa 43 vs.toArray
  vlen : vs.length = m
  vat : ∀ (j : Nat) x, l[j]? = some x → ∃ a q k, vs[j]? = some (.slice a q k) ∧ q = (x.getD []).length ∧ w.ownsRow B 57 1 (.slice a q k) q (u8c (x.getD []))
  wlen : wl.length = wk
  wait : w.ownsRow B 3 1 (.slice WA wk wcap) wk (intc wl)
  bra : B ≤ ra
  bsa : B ≤ sa
section
variable {w w' w2 w8 : World} {B g ra sa n c m wk wcap b : Nat} {A WA : Option Addr} {rs : List Raw} {r : Raw} {l : List (Option Stk)} {wl : List Nat} {vs : List Value} {s : Stk} {ex : Nat → Prop}
theorem kind_ne {base size q : Nat} {v : Value} {xs : List Value} (h : WS w B g ra sa A n c rs r m l wl vs WA wk wcap) (ho : w.ownsRow base 57 size v q xs) : ∀ i, v.ownBlock = some i → ¬ Ex g ra sa (.slice WA wk wcap) i := by
  rintro i hi (rfl | rfl | rfl | hx)
  · exact own_blk_ne ho h.wkr.blk (by decide) hi
  · exact own_blk_ne ho h.reached (by decide) hi
  · exact own_blk_ne ho h.stacks (by decide) hi
  · rcases h.wait.2 with ⟨he, _⟩ | ⟨g', cap, cur, he, _, hb, _⟩
    · rw [he] at hx; cases hx
    · rw [he] at hx
      obtain rfl : g' = i := by simpa [Value.ownBlock] using hx
      exact own_blk_ne ho (g := g') (t := 3) (cs := cur) hb (by decide) hi
theorem ex_ge (h : WS w B g ra sa A n c rs r m l wl vs WA wk wcap) : ∀ i, Ex g ra sa (.slice WA wk wcap) i → B ≤ i := by
  rintro i (rfl | rfl | rfl | hx)
  · exact h.wkr.bg
  · exact h.bra
  · exact h.bsa
  · exact (own_lt h.wait hx).1
/-- what touches nothing of it -/
theorem WS.kept (h : WS w B g ra sa A n c rs r m l wl vs WA wk wcap) (hk : Kp w w' ex) (hn : ∀ i, ex i → B ≤ i) (hg : ¬ ex g) (hr : ¬ ex ra) (hs : ¬ ex sa) (hwv : ∀ i, (Value.slice WA wk wcap).ownBlock = some i → ¬ ex i)
    (hkd : ∀ (v : Value) (q : Nat) (xs : List Value), w.ownsRow B 57 1 v q xs → ∀ i, v.ownBlock = some i → ¬ ex i) : WS w' B g ra sa A n c rs r m l wl vs WA wk wcap := by
  have hB := hk.below h.wkr.le hn
  refine ⟨⟨hk.blk h.wkr.blk hg, h.wkr.prog.below hB, h.wkr.fn.below hB, h.wkr.wf, by have := hk.size; have := h.wkr.le; omega, h.wkr.ok, h.wkr.okf, h.wkr.bg⟩, h.len, h.clen, h.small, hk.blk h.reached hr, hk.blk h.stacks hs, h.vlen, fun j x hx => ?_, h.wlen, hk.own h.wait hwv, h.bra, h.bsa⟩
  obtain ⟨a, q, k, h1, h2, h3⟩ := h.vat j x hx
  exact ⟨a, q, k, h1, h2, hk.own h3 (hkd _ _ _ h3)⟩
theorem WS.below (h : WS w B g ra sa A n c rs r m l wl vs WA wk wcap) (hb : Below w.heap.size w w') : WS w' B g ra sa A n c rs r m l wl vs WA wk wcap :=
  h.kept (ex := fun _ => False) (Kp.of_below hb _) (fun _ h => h.elim) (fun h => h) (fun h => h) (fun h => h) (fun _ _ h => h) (fun _ _ _ _ _ _ h => h)
/-- one is reached: its flag and its stack -/
theorem WS.put {A2 : Option Addr} {c2 q : Nat} (h : WS w B g ra sa A n c rs r m l wl vs WA wk wcap) (hb : l[b]? = some none) (hb2 : Below w.heap.size (w.setCell ⟨ra, b, none⟩ (.bool true)) w2) (hq : q = s.length) (ho : w2.ownsRow w.heap.size 57 1 (.slice A2 q c2) q (u8c s)) :
    WS (w2.setCell ⟨sa, b, none⟩ (.slice A2 q c2)) B g ra sa A n c rs r m (l.set b (some s)) wl (vs.set b (.slice A2 q c2)) WA wk wcap ∧ Kp w (w2.setCell ⟨sa, b, none⟩ (.slice A2 q c2)) (fun i => i = ra ∨ i = sa) := by
  have hle := h.wkr.le
  have hsz : (w.setCell ⟨ra, b, none⟩ (.bool true)).heap.size = w.heap.size := by simp [World.setCell]
  have hk1 : Kp w (w.setCell ⟨ra, b, none⟩ (.bool true)) (fun i => i = ra ∨ i = sa) := Kp.set w _ _ (.inl rfl)
  have hk2 : Kp (w.setCell ⟨ra, b, none⟩ (.bool true)) w2 (fun i => i = ra ∨ i = sa) := Kp.of_below (by rw [hsz]; exact hb2) _
  have hk12 : Kp w w2 (fun i => i = ra ∨ i = sa) := hk1.trans hk2 fun _ _ h => h
  have hk3 : Kp w2 (w2.setCell ⟨sa, b, none⟩ (.slice A2 q c2)) (fun i => i = sa) := Kp.set w2 _ _ rfl
  have hk : Kp w (w2.setCell ⟨sa, b, none⟩ (.slice A2 q c2)) (fun i => i = ra ∨ i = sa) := hk12.trans hk3 fun _ _ h => .inr h
  have hrs : ra ≠ sa := Blk.ne_ h.reached h.stacks (by decide)
  have hrg : ra ≠ g := Blk.ne_ h.reached h.wkr.blk (by decide)
  have hsg : sa ≠ g := Blk.ne_ h.stacks h.wkr.blk (by decide)
  have hB : Below B w (w2.setCell ⟨sa, b, none⟩ (.slice A2 q c2)) := hk.below hle (by rintro i (rfl | rfl); exact h.bra; exact h.bsa)
  have hst2 : Blk w2 sa 43 vs.toArray := hk2.blk ((Below.heap_setCell w ⟨ra, b, none⟩ _ sa (by simpa using hrs.symm)).trans h.stacks) |> fun f => (hb2.block sa h.stacks.lt).trans ((Below.heap_setCell w ⟨ra, b, none⟩ _ sa (by simpa using hrs.symm)).trans h.stacks)
  have hre2 : Blk w2 ra 4 ((reachC l).toArray.setIfInBounds b (.bool true)) := (hb2.block ra h.reached.lt).trans (h.reached.set_ b (.bool true))
  refine ⟨⟨⟨hk.blk h.wkr.blk (by rintro (rfl | rfl); exact hrg rfl; exact hsg rfl), h.wkr.prog.below hB, h.wkr.fn.below hB, h.wkr.wf, by have := hk.size; omega, h.wkr.ok, h.wkr.okf, h.wkr.bg⟩, by rw [List.length_set]; exact h.len, h.clen, h.small, ?_, ?_, by rw [List.length_set]; exact h.vlen, fun j x hx => ?_, h.wlen, ?_, h.bra, h.bsa⟩, hk⟩
  · have := hre2.far (p := ⟨sa, b, none⟩) hrs (.slice A2 q c2)
    have he : (reachC l).toArray.setIfInBounds b (.bool true) = (reachC (l.set b (some s))).toArray := by
      unfold reachC
      rw [List.setIfInBounds_toArray, List.map_set]; rfl
    rw [he] at this
    exact this
  · have := hst2.set_ b (.slice A2 q c2)
    rw [List.setIfInBounds_toArray] at this
    exact this
  · rw [List.getElem?_set] at hx
    split at hx
    · subst_vars
      split at hx
      · simp at hx
        subst hx
        refine ⟨A2, _, c2, by rw [List.getElem?_set]; simp [h.vlen, ← h.len]; omega, rfl, ?_⟩
        exact own_far (own_more ho hle) hst2 (by decide) _ _
      · cases hx
    · rename_i hne
      obtain ⟨a, q', k', h1, h2, h3⟩ := h.vat j x hx
      refine ⟨a, q', k', by rw [List.getElem?_set_ne hne]; exact h1, h2, hk.own h3 fun i hi hx => ?_⟩
      rcases hx with rfl | rfl
      · exact own_blk_ne h3 h.reached (by decide) hi
      · exact own_blk_ne h3 h.stacks (by decide) hi
  · refine hk.own h.wait fun i hi hx => ?_
    rcases hx with rfl | rfl
    · exact own_blk_ne h.wait h.reached (by decide) hi
    · exact own_blk_ne h.wait h.stacks (by decide) hi
/-- one more waits -/
theorem WS.push {v8 : Value} (h : WS w B g ra sa A n c rs r m l wl vs WA wk wcap) (o : Obj) (hown : w8.ownsRow B 3 1 v8 (wk + 1) (intc wl ++ [.int .i64 (b : Int)])) (hg : (w.alloc o).grownBy w8 (Value.slice WA wk wcap).ownBlock) (hor : v8.ownBlock = (Value.slice WA wk wcap).ownBlock ∨ v8.ownBlock = some (w.alloc o).heap.size) :
    ∃ WA8 c8, v8 = .slice WA8 (wk + 1) c8 ∧ w8.cell? ⟨g, 8, none⟩ = some (.slice WA wk wcap) ∧ w8.frozen? ⟨g, 8, none⟩ = false ∧ WS (w8.setCell ⟨g, 8, none⟩ v8) B g ra sa A n c rs r m l (wl ++ [b]) vs WA8 (wk + 1) c8 ∧ Kp w (w8.setCell ⟨g, 8, none⟩ v8) (Ex g ra sa (.slice WA wk wcap)) ∧
      (v8.ownBlock = (Value.slice WA wk wcap).ownBlock ∨ ∃ j, v8.ownBlock = some j ∧ w.heap.size ≤ j) := by
  obtain ⟨WA8, c8, rfl⟩ := own_slice hown
  have hle := h.wkr.le
  have hka : Kp w (w.alloc o) (Ex g ra sa (.slice WA wk wcap)) := Kp.of_below ((Below.refl _ _).alloc (Nat.le_refl _) o) _
  have hk8 : Kp (w.alloc o) w8 (Ex g ra sa (.slice WA wk wcap)) := Kp.of_grown hg fun i hi => .inr (.inr (.inr hi))
  have hk08 : Kp w w8 (fun i => (Value.slice WA wk wcap).ownBlock = some i) := (Kp.of_below ((Below.refl _ _).alloc (Nat.le_refl _) o) _).trans (Kp.of_grown (ex := fun i => (Value.slice WA wk wcap).ownBlock = some i) hg fun i hi => hi) fun _ _ h => h
  have hb8 : Blk w8 g 78 (WkC A n c r (.slice (some ⟨ra, 0, none⟩) m m) (.slice (some ⟨sa, 0, none⟩) m m) (.slice WA wk wcap)) := hk08.blk h.wkr.blk fun hx => own_blk_ne h.wait h.wkr.blk (by decide) hx
  have hrg : ra ≠ g := Blk.ne_ h.reached h.wkr.blk (by decide)
  have hsg : sa ≠ g := Blk.ne_ h.stacks h.wkr.blk (by decide)
  have hk9 : Kp w8 (w8.setCell ⟨g, 8, none⟩ (.slice WA8 (wk + 1) c8)) (Ex g ra sa (.slice WA wk wcap)) := Kp.set w8 _ _ (.inl rfl)
  have hk : Kp w (w8.setCell ⟨g, 8, none⟩ (.slice WA8 (wk + 1) c8)) (Ex g ra sa (.slice WA wk wcap)) := (hka.trans hk8 fun _ _ h => h).trans hk9 fun _ _ h => h
  have hB : Below B w (w8.setCell ⟨g, 8, none⟩ (.slice WA8 (wk + 1) c8)) := hk.below hle (ex_ge h)
  refine ⟨WA8, c8, rfl, hb8.cell 8, hb8.frozen 8, ⟨⟨hb8.set_ 8 _, h.wkr.prog.below hB, h.wkr.fn.below hB, h.wkr.wf, by have := hk.size; omega, h.wkr.ok, h.wkr.okf, h.wkr.bg⟩, h.len, h.clen, h.small, ?_, ?_, h.vlen, fun j x hx => ?_, by rw [List.length_append, h.wlen]; rfl, ?_, h.bra, h.bsa⟩, hk, ?_⟩
  · exact (hk08.blk h.reached fun hx => own_blk_ne h.wait h.reached (by decide) hx).far (p := ⟨g, 8, none⟩) hrg _
  · exact (hk08.blk h.stacks fun hx => own_blk_ne h.wait h.stacks (by decide) hx).far (p := ⟨g, 8, none⟩) hsg _
  · obtain ⟨a, q, k, h1, h2, h3⟩ := h.vat j x hx
    exact ⟨a, q, k, h1, h2, hk.own h3 (kind_ne h h3)⟩
  · have := own_far hown hb8 (by decide) 8 (.slice WA8 (wk + 1) c8)
    unfold intc at this ⊢
    rw [List.map_append]
    exact this
  · rcases hor with hor | hor
    · exact .inl hor
    · exact .inr ⟨_, hor, by simp⟩
end
end Go.Proofs.Ytcgoanfhabjpfaa
