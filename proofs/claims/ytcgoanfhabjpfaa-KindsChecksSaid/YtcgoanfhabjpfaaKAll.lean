/-
  Package kinds: walkAll: the answers of all functions in memory.
-/
import Derived.Test.YtcgoanfhabjpfaaKWalk
namespace Go.Proofs.Ytcgoanfhabjpfaa
set_option linter.unusedVariables false
open Go.ChangeShapes Go.WideShapes Go.ChangeAt Go.RowKit

theorem Try.info41 : (Try.prog.info? 41).map (fun i => (i.zero, i.size, i.bytes)) = some (some (.slice none 0 0), 1, 24) := by kernel_rfl
theorem Try.info39 : (Try.prog.info? 39).map (fun i => (i.zero, i.size, i.bytes)) = some (some (.slice none 0 0), 1, 24) := by kernel_rfl
theorem step_bools {w : World} {ops : Array Oper} {o : Oper} {a : Act} {K : Act → World → Prop} {Q : Exit → Act → World → Prop} {E : Prop} (hgd : o.guard = none) (s x : Operand)
    (ho : o.op = .call { callee := .builtin .append, args := #[s, x], argTypes := #[35, 35] }) (base : Nat)
    (v : Value) (n : Nat) (xs : List Value) (hs : a.eval s = v) (hown : w.ownsRow base 39 1 v n xs)
    (B : Nat) (A : Option Addr) (m c : Nat) (news : List Value) (hx : a.eval x = .slice A m c) (hr : Reads w B 1 A m news) (h1 : ∀ u ∈ news, u.oneCell' = true)
    (hbytes : (n + m) * 24 ≤ 140737488355328) (hbase : base ≤ w.heap.size)
    (h : ∀ v' w', w'.ownsRow base 39 1 v' (n + m) (xs ++ news) → w.grownBy w' v.ownBlock → (v'.ownBlock = v.ownBlock ∨ v'.ownBlock = some w.heap.size) → K (a.put o.dst v') w') :
    if Region.wanted o (yielded ops a.tmps) = true then Oper.wp Try.prog o a w K Q else E := by
  obtain ⟨i0, hi, hz0, hz1, hz2⟩ := info_parts Try.info39
  exact step_append_any w hgd s x _ ho base 39 i0 (.slice none 0 0) 1 24 Try.underlying35 hi hz0 hz1 hz2 rfl (by decide) v n xs hs hown B A m c news hx hr h1 (by unfold maxLen; omega) hbytes hbase h
theorem step_stks {w : World} {ops : Array Oper} {o : Oper} {a : Act} {K : Act → World → Prop} {Q : Exit → Act → World → Prop} {E : Prop} (hgd : o.guard = none) (s x : Operand)
    (ho : o.op = .call { callee := .builtin .append, args := #[s, x], argTypes := #[36, 36] }) (base : Nat)
    (v : Value) (n : Nat) (xs : List Value) (hs : a.eval s = v) (hown : w.ownsRow base 41 1 v n xs)
    (B : Nat) (A : Option Addr) (m c : Nat) (news : List Value) (hx : a.eval x = .slice A m c) (hr : Reads w B 1 A m news) (h1 : ∀ u ∈ news, u.oneCell' = true)
    (hbytes : (n + m) * 24 ≤ 140737488355328) (hbase : base ≤ w.heap.size)
    (h : ∀ v' w', w'.ownsRow base 41 1 v' (n + m) (xs ++ news) → w.grownBy w' v.ownBlock → (v'.ownBlock = v.ownBlock ∨ v'.ownBlock = some w.heap.size) → K (a.put o.dst v') w') :
    if Region.wanted o (yielded ops a.tmps) = true then Oper.wp Try.prog o a w K Q else E := by
  obtain ⟨i0, hi, hz0, hz1, hz2⟩ := info_parts Try.info41
  exact step_append_any w hgd s x _ ho base 41 i0 (.slice none 0 0) 1 24 Try.underlying36 hi hz0 hz1 hz2 rfl (by decide) v n xs hs hown B A m c news hx hr h1 (by unfold maxLen; omega) hbytes hbase h

theorem FnAt.kept {w w' : World} {B : Nat} {l : List (Option Stk)} {rv sv : Value} {ex : Nat → Prop} (h : FnAt w B l rv sv) (hk : Kp w w' ex) (hb : ∀ g cs, Blk w g 4 cs → ¬ ex g) (hs : ∀ g cs, Blk w g 43 cs → ¬ ex g)
    (ho : ∀ (v : Value) (q : Nat) (xs : List Value), w.ownsRow B 57 1 v q xs → ∀ i, v.ownBlock = some i → ¬ ex i) : FnAt w' B l rv sv := by
  obtain ⟨ra, sa, m, vs, h1, h2, h3, h4, h5, h6, h7, h8, h9, h10⟩ := h.at_
  refine ⟨ra, sa, m, vs, h1, h2, h3, h4, hk.blk h5 (hb _ _ h5), hk.blk h6 (hs _ _ h6), h7, h8, h9, fun j x hx => ?_⟩
  obtain ⟨a, q, k, e1, e2, e3⟩ := h10 j x hx
  exact ⟨a, q, k, e1, e2, hk.own e3 (ho _ _ _ e3)⟩
/-- the two rows of rows -/
structure TJ (w : World) (tb kr ks : Nat) (rvs svs : List Value) (RA : Option Addr) (rc : Nat) (SA : Option Addr) (sc : Nat) (W : World) : Prop where
  blk : Blk W tb 38 #[.slice RA kr rc, .slice SA ks sc]
  rr : W.ownsRow w.heap.size 39 1 (.slice RA kr rc) kr rvs
  ss : W.ownsRow w.heap.size 41 1 (.slice SA ks sc) ks svs
  below : Below w.heap.size w W
  tb_ : w.heap.size ≤ tb
section
variable {w W w8 W' : World} {tb kr ks rc sc : Nat} {rvs svs : List Value} {RA SA : Option Addr} {v8 rv sv : Value}
theorem TJ.on (h : TJ w tb kr ks rvs svs RA rc SA sc W) (hb : Below W.heap.size W W') : TJ w tb kr ks rvs svs RA rc SA sc W' :=
  ⟨h.blk.below hb h.blk.lt, own_kept h.rr (fun i hi => hb.block i (own_lt h.rr hi).2), own_kept h.ss (fun i hi => hb.block i (own_lt h.ss hi).2), h.below.trans (hb.mono h.below.size), h.tb_⟩
def ExT (tb : Nat) (v : Value) (i : Nat) : Prop := i = tb ∨ v.ownBlock = some i
theorem own_ty {base size n g : Nat} {e t : TypeId} {v : Value} {xs : List Value} {cs : Array Value} (h : W.ownsRow base e size v n xs) (hb : Blk W g t cs) (hne : e ≠ t) : v.ownBlock ≠ some g := own_blk_ne h hb hne
theorem own_ty2 {b1 b2 s1 s2 n1 n2 : Nat} {e1 e2 : TypeId} {v1 v2 : Value} {x1 x2 : List Value} (h1 : W.ownsRow b1 e1 s1 v1 n1 x1) (h2 : W.ownsRow b2 e2 s2 v2 n2 x2) (hne : e2 ≠ e1) : ∀ i, v2.ownBlock = some i → v1.ownBlock ≠ some i := by
  intro i hi e
  rcases h1.2 with ⟨rfl, _⟩ | ⟨g, cap, cur, rfl, _, hb, _⟩
  · cases e
  · obtain rfl : g = i := by simpa [Value.ownBlock] using e
    exact own_blk_ne h2 (g := g) (t := e1) (cs := cur) hb hne hi
theorem TJ.pushR (h : TJ w tb kr ks rvs svs RA rc SA sc W) (o : Obj) (hown : w8.ownsRow w.heap.size 39 1 v8 (kr + 1) (rvs ++ [rv])) (hg : (W.alloc o).grownBy w8 (Value.slice RA kr rc).ownBlock) :
    ∃ RA8 c8, v8 = .slice RA8 (kr + 1) c8 ∧ w8.cell? ⟨tb, 0, none⟩ = some (.slice RA kr rc) ∧ w8.cell? ⟨tb, 1, none⟩ = some (.slice SA ks sc) ∧ w8.frozen? ⟨tb, 0, none⟩ = false ∧ TJ w tb (kr + 1) ks (rvs ++ [rv]) svs RA8 c8 SA sc (w8.setCell ⟨tb, 0, none⟩ v8) ∧ Kp W (w8.setCell ⟨tb, 0, none⟩ v8) (ExT tb (.slice RA kr rc)) := by
  obtain ⟨RA8, c8, rfl⟩ := own_slice hown
  have hk8 : Kp W w8 (fun i => (Value.slice RA kr rc).ownBlock = some i) := (Kp.of_below ((Below.refl _ _).alloc (Nat.le_refl _) o) _).trans (Kp.of_grown (ex := fun i => (Value.slice RA kr rc).ownBlock = some i) hg fun i hi => hi) fun _ _ h => h
  have hb8 : Blk w8 tb 38 #[.slice RA kr rc, .slice SA ks sc] := hk8.blk h.blk (own_ty h.rr h.blk (by decide))
  have hk9 : Kp W (w8.setCell ⟨tb, 0, none⟩ (.slice RA8 (kr + 1) c8)) (ExT tb (.slice RA kr rc)) := (hk8.wider fun i _ hx => .inr hx).trans (Kp.set (ex := ExT tb (.slice RA kr rc)) w8 _ _ (.inl rfl)) fun _ _ h => h
  have hs8 : w8.ownsRow w.heap.size 41 1 (.slice SA ks sc) ks svs := hk8.own h.ss (own_ty2 h.rr h.ss (by decide))
  refine ⟨RA8, c8, rfl, hb8.cell 0, hb8.cell 1, hb8.frozen 0, ⟨hb8.set_ 0 _, own_far hown hb8 (by decide) 0 _, own_far hs8 hb8 (by decide) 0 _, ?_, h.tb_⟩, hk9⟩
  exact h.below.trans (hk9.below h.below.size (by
    rintro i (rfl | hx)
    · exact h.tb_
    · exact (own_lt h.rr hx).1))
theorem TJ.pushS (h : TJ w tb kr ks rvs svs RA rc SA sc W) (o : Obj) (hown : w8.ownsRow w.heap.size 41 1 v8 (ks + 1) (svs ++ [sv])) (hg : (W.alloc o).grownBy w8 (Value.slice SA ks sc).ownBlock) :
    ∃ SA8 c8, v8 = .slice SA8 (ks + 1) c8 ∧ w8.cell? ⟨tb, 0, none⟩ = some (.slice RA kr rc) ∧ w8.cell? ⟨tb, 1, none⟩ = some (.slice SA ks sc) ∧ w8.frozen? ⟨tb, 1, none⟩ = false ∧ TJ w tb kr (ks + 1) rvs (svs ++ [sv]) RA rc SA8 c8 (w8.setCell ⟨tb, 1, none⟩ v8) ∧ Kp W (w8.setCell ⟨tb, 1, none⟩ v8) (ExT tb (.slice SA ks sc)) := by
  obtain ⟨SA8, c8, rfl⟩ := own_slice hown
  have hk8 : Kp W w8 (fun i => (Value.slice SA ks sc).ownBlock = some i) := (Kp.of_below ((Below.refl _ _).alloc (Nat.le_refl _) o) _).trans (Kp.of_grown (ex := fun i => (Value.slice SA ks sc).ownBlock = some i) hg fun i hi => hi) fun _ _ h => h
  have hb8 : Blk w8 tb 38 #[.slice RA kr rc, .slice SA ks sc] := hk8.blk h.blk (own_ty h.ss h.blk (by decide))
  have hk9 : Kp W (w8.setCell ⟨tb, 1, none⟩ (.slice SA8 (ks + 1) c8)) (ExT tb (.slice SA ks sc)) := (hk8.wider fun i _ hx => .inr hx).trans (Kp.set (ex := ExT tb (.slice SA ks sc)) w8 _ _ (.inl rfl)) fun _ _ h => h
  have hr8 : w8.ownsRow w.heap.size 39 1 (.slice RA kr rc) kr rvs := hk8.own h.rr (own_ty2 h.ss h.rr (by decide))
  refine ⟨SA8, c8, rfl, hb8.cell 0, hb8.cell 1, hb8.frozen 1, ⟨hb8.set_ 1 _, own_far hr8 hb8 (by decide) 1 _, own_far hown hb8 (by decide) 1 _, ?_, h.tb_⟩, hk9⟩
  exact h.below.trans (hk9.below h.below.size (by
    rintro i (rfl | hx)
    · exact h.tb_
    · exact (own_lt h.ss hx).1))
/-- what the two rows' growing leaves of the answers -/
theorem FnAt.past {B : Nat} {l : List (Option Stk)} {v : Value} {e : TypeId} {size n : Nat} {xs : List Value} {cs : Array Value} (h : FnAt W B l rv sv) (hk : Kp W W' (ExT tb v)) (hb : Blk W tb 38 cs) (ho : W.ownsRow w.heap.size e size v n xs) (he : e = 39 ∨ e = 41) : FnAt W' B l rv sv := by
  refine h.kept hk (fun g cs' hg => ?_) (fun g cs' hg => ?_) (fun v' q xs' hv i hi => ?_)
  · rintro (rfl | hx)
    · exact Blk.ne_ hg hb (by decide) rfl
    · exact own_ty ho hg (by rcases he with rfl | rfl <;> decide) hx
  · rintro (rfl | hx)
    · exact Blk.ne_ hg hb (by decide) rfl
    · exact own_ty ho hg (by rcases he with rfl | rfl <;> decide) hx
  · rintro (rfl | hx)
    · exact own_ty hv hb (by decide) hi
    · exact own_ty2 ho hv (by rcases he with rfl | rfl <;> decide) i hi hx
end
/-- all functions' answers, so far -/
structure TI (w : World) (B tb : Nat) (rs : List Raw) (k : Nat) (ls : List (List (Option Stk))) (rvs svs : List Value) (RA : Option Addr) (rc : Nat) (SA : Option Addr) (sc : Nat) (W : World) : Prop where
  tj : TJ w tb k k rvs svs RA rc SA sc W
  len : ls.length = k
  lr : rvs.length = k
  lsv : svs.length = k
  each : ∀ (j : Nat) l, ls[j]? = some l → ∃ rv sv, rvs[j]? = some rv ∧ svs[j]? = some sv ∧ FnAt W B l rv sv
  sols : ∀ (j : Nat) f, j < k → (fns rs)[j]? = some f → ∃ l, ls[j]? = some l ∧ Sol (fns rs) f l
end Go.Proofs.Ytcgoanfhabjpfaa
