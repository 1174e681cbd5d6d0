/-
  Words for memory: a slice that reads as a list, a block known whole, an append onto a row of the call's own (the guide's extra-words, copied as its page says).
-/
import Derived.Test.YtedmcfaghfgpoaaVMath
import Derived.Test.YtedmcfaghfgpoaaChecked
import Derived.WalkKit
import Derived.ProofKit
import Derived.Below
import Derived.Laws.OwnMore
import Derived.Deep.AppendLies
import Derived.Deep.Draws
import Derived.Laws.Rows
import Derived.Maps.AppendAt
import Derived.Maps.OwnSet
import Derived.Maps.OwnOps
import Derived.OneCell
import Derived.RegionTactic
import Derived.OwnWalk
import Derived.Lib.Hide
import Derived.Deep.QuietTactic
import Derived.BigQuiet
import Derived.Laws.StructEq
import Derived.LoopTactic
import Derived.Outline
import Derived.WalkSpells
import Derived.WalkLawsBesides
namespace Go.Proofs.Ytedmcfaghfgpoaa
set_option linter.unusedVariables false
open Go.ChangeShapes Go.WideShapes Go.ChangeAt Go.RowKit

theorem block_of_add (a : Addr) (n : Nat) : (a.add n).block = a.block := by unfold Addr.add; split <;> rfl
theorem add_of_add (a : Addr) (i j : Nat) : (a.add i).add j = a.add (i + j) := by
  unfold Addr.add
  by_cases hi : i = 0 <;> by_cases hj : j = 0 <;> simp [hi, hj, Nat.add_assoc]

def Reads (w : World) (B size : Nat) (A : Option Addr) (n : Nat) (xs : List Value) : Prop :=
  xs.length = n * size ∧ (0 < n → ∃ ad, A = some ad ∧ ad.block < B ∧ ∀ j u, xs[j]? = some u → w.cell? (ad.add j) = some u)

section
variable {w w' : World} {B B' size n : Nat} {A : Option Addr} {xs : List Value}
theorem Reads.none_ : Reads w B size A 0 [] := ⟨by simp, fun h => absurd h (by omega)⟩
theorem Reads.at_ {k : Nat} (h : Reads w B 1 A n xs) (hk : k < n) : ∃ ad u, A = some ad ∧ ad.block < B ∧ xs[k]? = some u ∧ w.cell? (ad.add k) = some u := by
  obtain ⟨ad, e, hb, hc⟩ := h.2 (by omega)
  have hl : k < xs.length := by have := h.1; omega
  exact ⟨ad, xs[k], e, hb, List.getElem?_eq_getElem hl, hc k _ (List.getElem?_eq_getElem hl)⟩
theorem Reads.keep (h : Reads w B size A n xs) (hk : ∀ p : Addr, p.block < B → w'.cell? p = w.cell? p) : Reads w' B size A n xs :=
  ⟨h.1, fun hn => by
    obtain ⟨ad, e, hb, hc⟩ := h.2 hn
    exact ⟨ad, e, hb, fun j u hu => (hk _ (by rw [block_of_add]; exact hb)).trans (hc j u hu)⟩⟩
theorem Reads.more (h : Reads w B size A n xs) (hB : B ≤ B') : Reads w B' size A n xs :=
  ⟨h.1, fun hn => by
    obtain ⟨ad, e, hb, hc⟩ := h.2 hn
    exact ⟨ad, e, by omega, hc⟩⟩
theorem Reads.below (h : Reads w B size A n xs) (hb : Below B w w') : Reads w' B size A n xs := h.keep fun _ hp => hb.cell hp
theorem Reads.drew (h : Reads w B size A n xs) : Reads w.drew B size A n xs := h
theorem Reads.drewN (h : Reads w B size A n xs) (k : Nat) : Reads (w.drewN k) B size A n xs := h
theorem Reads.alloc (h : Reads w B size A n xs) (hB : B ≤ w.heap.size) (o : Obj) : Reads (w.alloc o) B size A n xs := h.keep fun p hp => World.cell?_alloc_lt w o p (by omega)
theorem Reads.setCell (h : Reads w B size A n xs) {p : Addr} (hB : B ≤ p.block) (u : Value) : Reads (w.setCell p u) B size A n xs :=
  h.keep fun q hq => World.cell?_setCell_other w p q u (fun e => by subst e; omega)
theorem Reads.grown (h : Reads w B size A n xs) {row : Option Nat} (hg : w.grownBy w' row) (hB : B ≤ w.heap.size) (hr : ∀ g, row = some g → B ≤ g) : Reads w' B size A n xs :=
  h.keep fun p hp => World.cell?_of_block (hg.block p.block (by omega) (fun e => by have := hr _ e.symm; omega))
theorem Reads.cut (h : Reads w B size A n xs) {k cap : Nat} (hk : k ≤ n) (hc : n ≤ cap) :
    Reads w B size (if cap = k then A else A.map (·.add (k * size))) (n - k) (xs.drop (k * size)) := by
  refine ⟨by rw [List.length_drop, h.1, Nat.sub_mul], fun hn => ?_⟩
  obtain ⟨ad, rfl, hb, hcell⟩ := h.2 (by omega)
  rw [if_neg (by omega)]
  refine ⟨ad.add (k * size), rfl, by rw [block_of_add]; exact hb, fun j u hu => ?_⟩
  rw [add_of_add]
  exact hcell _ u (by rw [← hu, List.getElem?_drop])
theorem Reads.of_own {base : Nat} {e : TypeId} {c : Nat} (h : w.ownsRow base e size (.slice A n c) n xs) : Reads w w.heap.size size A n xs := by
  refine ⟨h.1, fun hn => ?_⟩
  obtain ⟨g, cap, hv, _, hlt⟩ := h.form hn
  have hA : A = some ⟨g, 0, none⟩ := by injection hv
  subst hA
  exact ⟨_, rfl, hlt, h.cells (g := g) rfl⟩
end

def Blk (w : World) (g : Nat) (t : TypeId) (cs : Array Value) : Prop := w.heap[g]? = some (.cells cs t (0, 0))

section
variable {w w' : World} {g : Nat} {t : TypeId} {cs : Array Value}
theorem Blk.lt (h : Blk w g t cs) : g < w.heap.size := by
  rcases Nat.lt_or_ge g w.heap.size with hlt | hge
  · exact hlt
  · unfold Blk at h; rw [Array.getElem?_eq_none hge] at h; cases h
theorem Blk.cell (h : Blk w g t cs) (i : Nat) : w.cell? ⟨g, i, none⟩ = cs[i]? := cell_of_row w g i cs t (0, 0) h
theorem Blk.frozen (h : Blk w g t cs) (i : Nat) : w.frozen? ⟨g, i, none⟩ = false := by
  unfold Blk at h
  simp [World.frozen?, h]
theorem Blk.new (w : World) (t : TypeId) (cs : Array Value) : Blk (w.alloc (.cells cs t)) w.heap.size t cs := heap_alloc_new w _
theorem Blk.drew (h : Blk w g t cs) : Blk w.drew g t cs := h
theorem Blk.drewN (h : Blk w g t cs) (n : Nat) : Blk (w.drewN n) g t cs := h
theorem Blk.alloc (h : Blk w g t cs) (o : Obj) : Blk (w.alloc o) g t cs := (Below.heap_alloc w o g h.lt).trans h
theorem Blk.set_ (h : Blk w g t cs) (i : Nat) (u : Value) : Blk (w.setCell ⟨g, i, none⟩ u) g t (cs.setIfInBounds i u) := by
  unfold Blk at h ⊢
  simp [World.setCell, Array.getElem?_modify, h]
theorem Blk.far (h : Blk w g t cs) {p : Addr} (hp : g ≠ p.block) (u : Value) : Blk (w.setCell p u) g t cs := (Below.heap_setCell w p u g hp).trans h
theorem Blk.below {B : Nat} (h : Blk w g t cs) (hb : Below B w w') (hg : g < B) : Blk w' g t cs := (hb.block g hg).trans h
theorem Blk.grown {row : Option Nat} (h : Blk w g t cs) (hb : w.grownBy w' row) (hg : some g ≠ row) : Blk w' g t cs := (hb.block g h.lt hg).trans h
theorem Blk.ne_ {g' : Nat} {t' : TypeId} {cs' : Array Value} (h : Blk w g t cs) (h' : Blk w g' t' cs') (hne : t ≠ t') : g ≠ g' := by
  rintro rfl
  unfold Blk at h h'
  rw [h] at h'
  injection h' with h'
  injection h' with _ ht
  exact hne ht
theorem own_blk_ne {base : Nat} {e : TypeId} {size n : Nat} {v : Value} {xs : List Value} (h : w.ownsRow base e size v n xs) (hg : Blk w g t cs) (hne : e ≠ t) : v.ownBlock ≠ some g := by
  rcases h.2 with ⟨rfl, _⟩ | ⟨g', cap, cur, rfl, _, hh, _⟩
  · simp [Value.ownBlock]
  · intro he
    have : g' = g := by simpa [Value.ownBlock] using he
    subst this
    exact Blk.ne_ (t := e) hh hg hne rfl
end

section
variable {P : Program} (w : World)

theorem run_append_of_nil (base : Nat) (t ty e : TypeId) (i : TypeInfo) (size : Nat) (ht : P.underlying t = some (.slice e)) (hi : P.info? e = some i)
    (v : Value) (n : Nat) (xs : List Value) (hown : w.ownsRow base e size v n xs) (c : Nat) : (Builtin.append_ #[t, t] ty #[v, .slice none 0 c]).run P w = .ok v w := by
  rcases hown.2 with ⟨rfl, rfl⟩ | ⟨g, cap, cur, rfl, _, _, hnc, _⟩
  · simp [Builtin.append_, run_underlying ht, sizeOf, typeInfo, hi, Builtin.lenOf, Builtin.firstCells]
  · simp [Builtin.append_, run_underlying ht, sizeOf, typeInfo, hi, Builtin.lenOf, Builtin.firstCells, hnc, storeCells]

theorem run_append_any (base : Nat) (t ty e : TypeId) (i : TypeInfo) (z : Value) (size bytes : Nat) (ht : P.underlying t = some (.slice e)) (hi : P.info? e = some i) (hz : i.zero = some z)
    (hsize : i.size = size) (hby : i.bytes = bytes) (hzs : z.cells.size = size) (hsz : 0 < size)
    (v : Value) (n : Nat) (xs : List Value) (hown : w.ownsRow base e size v n xs)
    (B : Nat) (A : Option Addr) (m c : Nat) (news : List Value) (hr : Reads w B size A m news) (h1 : ∀ u ∈ news, u.oneCell' = true)
    (h63 : n + m ≤ maxLen) (hbytes : (n + m) * bytes ≤ 140737488355328) (hbase : base ≤ w.heap.size) :
    ∃ v' w', (Builtin.append_ #[t, t] ty #[v, .slice A m c]).run P w = .ok v' w' ∧ w'.ownsRow base e size v' (n + m) (xs ++ news) ∧ w.grownBy w' v.ownBlock ∧
      (v'.ownBlock = v.ownBlock ∨ v'.ownBlock = some w.heap.size) := by
  rcases A with _ | ad
  · have hm : m = 0 := by
      rcases Nat.eq_zero_or_pos m with h0 | h0
      · exact h0
      · obtain ⟨ad, h, _⟩ := hr.2 h0
        cases h
    subst hm
    have hn : news = [] := List.eq_nil_of_length_eq_zero (by simpa using hr.1)
    subst hn
    exact ⟨v, w, run_append_of_nil w base t ty e i size ht hi v n xs hown c, by simpa using hown, World.grownBy.refl w _, .inl rfl⟩
  · have hcells : ∀ j u, news[j]? = some u → w.cell? (ad.add j) = some u := by
      intro j u hu
      rcases Nat.eq_zero_or_pos m with h0 | h0
      · subst h0
        have hn : news = [] := List.eq_nil_of_length_eq_zero (by simpa using hr.1)
        subst hn
        simp at hu
      · obtain ⟨ad', h, _, hc⟩ := hr.2 h0
        injection h with h
        subst h
        exact hc j u hu
    obtain ⟨v', w', hrun, h2, h3, _, h5⟩ := run_append_own_at (P := P) w base t ty e i z size bytes ht hi hz hsize hby hzs hsz v n xs hown ad m c news hr.1 hcells h1 h63 hbytes hbase
    exact ⟨v', w', hrun, h2, h3, h5⟩

theorem wp_append_any {o : Oper} {a : Act} {K : Act → World → Prop} {Q : Exit → Act → World → Prop} (s x : Operand) (t : TypeId)
    (ho : o.op = .call { callee := .builtin .append, args := #[s, x], argTypes := #[t, t] })
    (base : Nat) (e : TypeId) (i : TypeInfo) (z : Value) (size bytes : Nat) (ht : P.underlying t = some (.slice e)) (hi : P.info? e = some i) (hz : i.zero = some z)
    (hsize : i.size = size) (hby : i.bytes = bytes) (hzs : z.cells.size = size) (hsz : 0 < size)
    (v : Value) (n : Nat) (xs : List Value) (hs : a.eval s = v) (hown : w.ownsRow base e size v n xs)
    (B : Nat) (A : Option Addr) (m c : Nat) (news : List Value) (hx : a.eval x = .slice A m c) (hr : Reads w B size A m news) (h1 : ∀ u ∈ news, u.oneCell' = true)
    (h63 : n + m ≤ maxLen) (hbytes : (n + m) * bytes ≤ 140737488355328) (hbase : base ≤ w.heap.size)
    (h : ∀ v' w', w'.ownsRow base e size v' (n + m) (xs ++ news) → w.grownBy w' v.ownBlock → (v'.ownBlock = v.ownBlock ∨ v'.ownBlock = some w.heap.size) → K (a.put o.dst v') w') : o.wp P a w K Q := by
  obtain ⟨v', w', hrun, h2, h3, h4⟩ := run_append_any (P := P) w base t o.type e i z size bytes ht hi hz hsize hby hzs hsz v n xs hown B A m c news hr h1 h63 hbytes hbase
  unfold Oper.wp execOp
  simp only [ho, resolve, invoke, builtin, Sem.run_bind, Sem.run_pure, Result.andThen_ok, List.map_toArray, List.map_cons, List.map_nil, hs, hx, hrun]
  exact h v' w' h2 h3 h4

theorem wpList_append_any {ops : Array Oper} {rest : List Oper} {o : Oper} {a : Act} {Q : Exit → Act → World → Prop} (hgd : o.guard = none) (s x : Operand) (t : TypeId)
    (ho : o.op = .call { callee := .builtin .append, args := #[s, x], argTypes := #[t, t] })
    (base : Nat) (e : TypeId) (i : TypeInfo) (z : Value) (size bytes : Nat) (ht : P.underlying t = some (.slice e)) (hi : P.info? e = some i) (hz : i.zero = some z)
    (hsize : i.size = size) (hby : i.bytes = bytes) (hzs : z.cells.size = size) (hsz : 0 < size)
    (v : Value) (n : Nat) (xs : List Value) (hs : a.eval s = v) (hown : w.ownsRow base e size v n xs)
    (B : Nat) (A : Option Addr) (m c : Nat) (news : List Value) (hx : a.eval x = .slice A m c) (hr : Reads w B size A m news) (h1 : ∀ u ∈ news, u.oneCell' = true)
    (h63 : n + m ≤ maxLen) (hbytes : (n + m) * bytes ≤ 140737488355328) (hbase : base ≤ w.heap.size)
    (h : ∀ v' w', w'.ownsRow base e size v' (n + m) (xs ++ news) → w.grownBy w' v.ownBlock → (v'.ownBlock = v.ownBlock ∨ v'.ownBlock = some w.heap.size) → wpList P ops Q rest (a.put o.dst v') w') : wpList P ops Q (o :: rest) a w :=
  wpList_plain hgd fun _ hK => wp_append_any w s x t ho base e i z size bytes ht hi hz hsize hby hzs hsz v n xs hs hown B A m c news hx hr h1 h63 hbytes hbase fun v' w' h2 h3 h4 => hK _ _ (h v' w' h2 h3 h4)

theorem step_append_any {ops : Array Oper} {o : Oper} {a : Act} {K : Act → World → Prop} {Q : Exit → Act → World → Prop} {E : Prop} (hgd : o.guard = none) (s x : Operand) (t : TypeId)
    (ho : o.op = .call { callee := .builtin .append, args := #[s, x], argTypes := #[t, t] })
    (base : Nat) (e : TypeId) (i : TypeInfo) (z : Value) (size bytes : Nat) (ht : P.underlying t = some (.slice e)) (hi : P.info? e = some i) (hz : i.zero = some z)
    (hsize : i.size = size) (hby : i.bytes = bytes) (hzs : z.cells.size = size) (hsz : 0 < size)
    (v : Value) (n : Nat) (xs : List Value) (hs : a.eval s = v) (hown : w.ownsRow base e size v n xs)
    (B : Nat) (A : Option Addr) (m c : Nat) (news : List Value) (hx : a.eval x = .slice A m c) (hr : Reads w B size A m news) (h1 : ∀ u ∈ news, u.oneCell' = true)
    (h63 : n + m ≤ maxLen) (hbytes : (n + m) * bytes ≤ 140737488355328) (hbase : base ≤ w.heap.size)
    (h : ∀ v' w', w'.ownsRow base e size v' (n + m) (xs ++ news) → w.grownBy w' v.ownBlock → (v'.ownBlock = v.ownBlock ∨ v'.ownBlock = some w.heap.size) → K (a.put o.dst v') w') :
    if Region.wanted o (yielded ops a.tmps) = true then Oper.wp P o a w K Q else E := by
  have hw : Region.wanted o (yielded ops a.tmps) = true := by simp [Region.wanted, hgd]
  rw [if_pos hw]
  exact wp_append_any w s x t ho base e i z size bytes ht hi hz hsize hby hzs hsz v n xs hs hown B A m c news hx hr h1 h63 hbytes hbase h
end

theorem below_drewN {B : Nat} {a w : World} (h : Below B a w) (n : Nat) : Below B a (w.drewN n) := ⟨h.os, h.tape, h.output, h.size, h.block⟩

/-- A slice's address written out: where there is an element, there is a block and a place in it. -/
theorem Reads.lit {w : World} {B size n : Nat} {A : Option Addr} {xs : List Value} (h : Reads w B size A n xs) (hn : 0 < n) (hs : 0 < size) :
    ∃ b off, A = some ⟨b, off, none⟩ ∧ b < B ∧ ∀ j u, xs[j]? = some u → w.cell? ⟨b, off + j, none⟩ = some u := by
  obtain ⟨ad, rfl, hb, hc⟩ := h.2 hn
  obtain ⟨b, off, spot⟩ := ad
  have hl : 0 < xs.length := by rw [h.1]; exact Nat.mul_pos hn hs
  have h0 := hc 0 _ (List.getElem?_eq_getElem hl)
  have hspot : spot = none := by simpa [Addr.add] using World.cell?_spot h0
  subst hspot
  refine ⟨b, off, rfl, hb, fun j u hj => ?_⟩
  have ea : (⟨b, off, none⟩ : Addr).add j = ⟨b, off + j, none⟩ := by simp [Addr.add]
  rw [← ea]; exact hc j u hj
theorem own_slice {w : World} {base size n : Nat} {e : TypeId} {v : Value} {xs : List Value} (h : w.ownsRow base e size v n xs) : ∃ A c, v = .slice A n c := by
  rcases h.2 with ⟨rfl, rfl⟩ | ⟨g, cap, cur, rfl, _⟩
  · exact ⟨_, _, rfl⟩
  · exact ⟨_, _, rfl⟩
theorem own_kept {w w' : World} {base size n : Nat} {e : TypeId} {v : Value} {xs : List Value} (h : w.ownsRow base e size v n xs) (hk : ∀ i, v.ownBlock = some i → w'.heap[i]? = w.heap[i]?) : w'.ownsRow base e size v n xs := by
  obtain ⟨h1, h2⟩ := h
  refine ⟨h1, ?_⟩
  rcases h2 with h2 | ⟨g, cap, cur, rfl, hg, hb, hr⟩
  · exact .inl h2
  · exact .inr ⟨g, cap, cur, rfl, hg, (hk g rfl).trans hb, hr⟩
theorem own_block_le {w : World} {base size n : Nat} {e : TypeId} {v : Value} {xs : List Value} (h : w.ownsRow base e size v n xs) {i : Nat} (hi : v.ownBlock = some i) : base ≤ i ∧ i < w.heap.size := by
  rcases h.2 with ⟨rfl, _⟩ | ⟨g, cap, cur, rfl, hg, hb, _⟩
  · simp [Value.ownBlock] at hi
  · simp [Value.ownBlock] at hi
    subst hi
    exact ⟨hg, Blk.lt (t := e) (cs := cur) hb⟩
theorem own_cap {w : World} {base size n c : Nat} {A : Option Addr} {e : TypeId} {xs : List Value} (h : w.ownsRow base e size (.slice A n c) n xs) : n ≤ c := by
  rcases h.2 with ⟨he, rfl⟩ | ⟨g, cap, cur, he, _, _, hnc, _⟩
  · omega
  · injection he with _ _ he; subst he; exact hnc
theorem own_none (w : World) (B : Nat) (e : TypeId) (size : Nat) : w.ownsRow B e size (.slice none 0 0) 0 [] := ⟨by simp, .inl ⟨rfl, rfl⟩⟩
theorem own_more {w : World} {base base' size n : Nat} {e : TypeId} {v : Value} {xs : List Value} (h : w.ownsRow base e size v n xs) (hb : base' ≤ base) : w.ownsRow base' e size v n xs := by
  obtain ⟨h1, h2⟩ := h
  refine ⟨h1, ?_⟩
  rcases h2 with h2 | ⟨g, cap, cur, rfl, hg, hr⟩
  · exact .inl h2
  · exact .inr ⟨g, cap, cur, rfl, by omega, hr⟩
/-- only block g and what is new has turned -/
theorem grown_refl (w : World) (row : Option Nat) : w.grownBy w row := World.grownBy.refl w row
theorem grown_trans' {a b c : World} {g : Nat} (h : a.grownBy b (some g)) (k : b.grownBy c (some g)) : a.grownBy c (some g) :=
  ⟨k.os.trans h.os, k.tape.trans h.tape, k.output.trans h.output, Nat.le_trans h.size k.size, fun i hi hn => (k.block i (Nat.lt_of_lt_of_le hi h.size) hn).trans (h.block i hi hn)⟩
theorem only_drewN {a w : World} {row : Option Nat} (h : a.grownBy w row) (n : Nat) : a.grownBy (w.drewN n) row := ⟨h.os, h.tape, h.output, h.size, h.block⟩
theorem only_drew {a w : World} {row : Option Nat} (h : a.grownBy w row) : a.grownBy w.drew row := ⟨h.os, h.tape, h.output, h.size, h.block⟩
theorem only_alloc {a w : World} {row : Option Nat} (h : a.grownBy w row) (o : Obj) : a.grownBy (w.alloc o) row :=
  ⟨h.os, h.tape, h.output, Nat.le_trans h.size (by simp), fun i hi hne => (Below.heap_alloc w o i (Nat.lt_of_lt_of_le hi h.size)).trans (h.block i hi hne)⟩
theorem only_setCell {a w : World} {g : Nat} (h : a.grownBy w (some g)) {p : Addr} (hp : p.block = g ∨ a.heap.size ≤ p.block) (u : Value) : a.grownBy (w.setCell p u) (some g) :=
  ⟨h.os, h.tape, h.output, by simpa [World.setCell] using h.size, fun i hi hne => (Below.heap_setCell w p u i (by
    rintro rfl
    rcases hp with hp | hp
    · exact hne (by rw [hp])
    · omega)).trans (h.block i hi hne)⟩
theorem only_of_below {a w : World} (h : Below a.heap.size a w) (row : Option Nat) : a.grownBy w row := ⟨h.os, h.tape, h.output, h.size, fun i hi _ => h.block i hi⟩
/-- a row of the call's own has grown: beside block g nothing old has turned -/
theorem only_grown {a w w' : World} {g : Nat} {row : Option Nat} (h : a.grownBy w (some g)) (k : w.grownBy w' row) (hr : ∀ i, row = some i → a.heap.size ≤ i) : a.grownBy w' (some g) :=
  ⟨k.os.trans h.os, k.tape.trans h.tape, k.output.trans h.output, Nat.le_trans h.size k.size, fun i hi hn => (k.block i (Nat.lt_of_lt_of_le hi h.size) (fun e => by have := hr i e.symm; omega)).trans (h.block i hi hn)⟩
theorem below_grown {w w' : World} {B g : Nat} (h : w.grownBy w' (some g)) (hg : B ≤ g) (hB : B ≤ w.heap.size) : Below B w w' :=
  (Below.refl B w).grown h hB (by intro k hk; injection hk with hk; omega)
theorem below_old {a b : World} {g : Nat} (h : a.grownBy b (some g)) : ∀ p : Addr, p.block < a.heap.size → p.block ≠ g → b.cell? p = a.cell? p :=
  fun p hp hn => World.cell?_of_block (h.block p.block hp (fun e => hn (by injection e)))
theorem Reads.only {w w' : World} {B size n g : Nat} {A : Option Addr} {xs : List Value} (h : Reads w B size A n xs) (hg : w.grownBy w' (some g)) (hB : B ≤ w.heap.size) (hr : B ≤ g) : Reads w' B size A n xs :=
  h.grown hg hB fun i hi => by injection hi with hi; omega
/-- cells of bytes and of kinds -/
def u8c (l : List Int) : List Value := l.map (Value.int .u8)
theorem length_u8c (l : List Int) : (u8c l).length = l.length := by simp [u8c]
theorem u8c_append (a b : List Int) : u8c (a ++ b) = u8c a ++ u8c b := by simp [u8c]
theorem u8c_at {l : List Int} {k : Nat} {x : Int} (h : l[k]? = some x) : (u8c l)[k]? = some (.int .u8 x) := by simp [u8c, h]
theorem u8c_one (l : List Int) : ∀ u ∈ u8c l, u.oneCell' = true := by
  intro u hu
  simp [u8c] at hu
  obtain ⟨x, _, rfl⟩ := hu
  rfl
/-- cells of ints -/
def i64c (l : List Int) : List Value := l.map (Value.int .i64)
theorem length_i64c (l : List Int) : (i64c l).length = l.length := by simp [i64c]
theorem i64c_append (a b : List Int) : i64c (a ++ b) = i64c a ++ i64c b := by simp [i64c]
theorem i64c_at {l : List Int} {k : Nat} {x : Int} (h : l[k]? = some x) : (i64c l)[k]? = some (.int .i64 x) := by simp [i64c, h]
theorem i64c_one (l : List Int) : ∀ u ∈ i64c l, u.oneCell' = true := by
  intro u hu
  simp [i64c] at hu
  obtain ⟨x, _, rfl⟩ := hu
  rfl
/-- cells of rows of m: where the k-th row's j-th cell lies -/
theorem flat_at {α : Type} (f : α → List Value) (m : Nat) (hf : ∀ x, (f x).length = m) (l : List α) (k j : Nat) (x : α) (hk : l[k]? = some x) (hj : j < m) : (l.flatMap f)[k * m + j]? = (f x)[j]? := by
  induction l generalizing k with
  | nil => simp at hk
  | cons y l ih =>
    rw [List.flatMap_cons]
    cases k with
    | zero =>
      simp at hk
      subst hk
      rw [Nat.zero_mul, Nat.zero_add, List.getElem?_append_left (by rw [hf]; exact hj)]
    | succ k =>
      rw [List.getElem?_append_right (by rw [hf, Nat.succ_mul]; omega), hf, show (k + 1) * m + j - m = k * m + j by rw [Nat.succ_mul]; omega]
      exact ih k (by simpa using hk)
theorem Reads.byte {w : World} {B n : Nat} {A : Option Addr} {l : List Int} (h : Reads w B 1 A n (u8c l)) {k : Nat} (hk : k < n) :
    ∃ b off x, A = some ⟨b, off, none⟩ ∧ b < B ∧ Hid (l[k]? = some x) ∧ w.cell? ⟨b, off + k, none⟩ = some (.int .u8 x) := by
  obtain ⟨b, off, rfl, hb, hc⟩ := h.lit (by omega) (by omega)
  have hl : k < l.length := by have := h.1; rw [length_u8c] at this; omega
  exact ⟨b, off, l[k], rfl, hb, List.getElem?_eq_getElem hl, hc _ _ (u8c_at (List.getElem?_eq_getElem hl))⟩
theorem Reads.int {w : World} {B n : Nat} {A : Option Addr} {l : List Int} (h : Reads w B 1 A n (i64c l)) {k : Nat} (hk : k < n) :
    ∃ b off x, A = some ⟨b, off, none⟩ ∧ b < B ∧ Hid (l[k]? = some x) ∧ w.cell? ⟨b, off + k, none⟩ = some (.int .i64 x) := by
  obtain ⟨b, off, rfl, hb, hc⟩ := h.lit (by omega) (by omega)
  have hl : k < l.length := by have := h.1; rw [length_i64c] at this; omega
  exact ⟨b, off, l[k], rfl, hb, List.getElem?_eq_getElem hl, hc _ _ (i64c_at (List.getElem?_eq_getElem hl))⟩
/-- all are ints -/
def I64 (x : Int) : Prop := -9223372036854775808 ≤ x ∧ x ≤ 9223372036854775807

/-! ### pairs of places as cells -/
def mvOne (m : Mv) : List Value := [.int .i64 m.1, .int .i64 m.2]
def mvc (l : List Mv) : List Value := l.flatMap mvOne
theorem length_mvc (l : List Mv) : (mvc l).length = l.length * 2 := by
  induction l with
  | nil => rfl
  | cons x l ih => rw [mvc, List.flatMap_cons, List.length_append, ← mvc, ih]; simp [mvOne]; omega
theorem mvc_append (a b : List Mv) : mvc (a ++ b) = mvc a ++ mvc b := by simp [mvc]
theorem mvc_one (l : List Mv) : ∀ u ∈ mvc l, u.oneCell' = true := by
  intro u hu
  simp [mvc, mvOne] at hu
  obtain ⟨x, y, _, h⟩ := hu
  rcases h with rfl | rfl <;> rfl
theorem mvc_at {l : List Mv} {k : Nat} {m : Mv} (h : l[k]? = some m) : (mvc l)[k * 2]? = some (.int .i64 m.1) ∧ (mvc l)[k * 2 + 1]? = some (.int .i64 m.2) :=
  ⟨flat_at mvOne 2 (fun _ => rfl) l k 0 m h (by decide), flat_at mvOne 2 (fun _ => rfl) l k 1 m h (by decide)⟩

/-! ### maps of the call's own -/
open Go.Maps
theorem int_law : Keyed Try.prog 3 := int_keyed Try.underlying3
theorem int_zero (w : World) : (zeroValue 3).run Try.prog w = .ok (.int .i64 0) w := by kernel_rfl
theorem i64_wf {x : Int} (h : I64 x) : (Lit.int .i64 x).wf = true := WalkArith.wf_i64 (by unfold I64 at h; omega)

/-- block b is a map that holds at each place how often it stands in vs -/
def CntM (w : World) (b n : Nat) (vs : List Int) : Prop :=
  ∃ D : DataW Unit, w.ownsMap Try.prog 3 (plainElem Try.prog 3) b n D ∧ ∀ a, D.atKey (.int .i64 a) (.lit (.int .i64 0)) = .lit (.int .i64 (vs.count a : Nat))
/-- block b is a map that holds for each place that waits where its word comes from -/
def FroM (w : World) (b n : Nat) (fs : List Mv) : Prop :=
  ∃ D : DataW Unit, w.ownsMap Try.prog 3 (plainElem Try.prog 3) b n D ∧ ∀ a, Maps.has D (.int .i64 a) = (lookL fs a).isSome ∧ D.atKey (.int .i64 a) (.lit (.int .i64 0)) = .lit (.int .i64 ((lookL fs a).getD 0))

section
variable {w w' : World} {b n : Nat} {vs : List Int} {fs : List Mv}
theorem CntM.kept {row : Option Nat} (h : CntM w b n vs) (hg : w.grownBy w' row) (hne : some b ≠ row) : CntM w' b n vs := by
  obtain ⟨D, h1, h2⟩ := h; exact ⟨D, h1.kept hg hne, h2⟩
theorem FroM.kept {row : Option Nat} (h : FroM w b n fs) (hg : w.grownBy w' row) (hne : some b ≠ row) : FroM w' b n fs := by
  obtain ⟨D, h1, h2⟩ := h; exact ⟨D, h1.kept hg hne, h2⟩
theorem CntM.set_ (h : CntM w b n vs) {a : Addr} (ha : b ≠ a.block) (u : Value) : CntM (w.setCell a u) b n vs := by
  obtain ⟨D, h1, h2⟩ := h; exact ⟨D, h1.setCell ha u, h2⟩
theorem FroM.set_ (h : FroM w b n fs) {a : Addr} (ha : b ≠ a.block) (u : Value) : FroM (w.setCell a u) b n fs := by
  obtain ⟨D, h1, h2⟩ := h; exact ⟨D, h1.setCell ha u, h2⟩
theorem CntM.alloc (h : CntM w b n vs) (o : Obj) : CntM (w.alloc o) b n vs := h.kept (World.grownBy_alloc w o none) (by simp)
theorem FroM.alloc (h : FroM w b n fs) (o : Obj) : FroM (w.alloc o) b n fs := h.kept (World.grownBy_alloc w o none) (by simp)
theorem CntM.mono (h : CntM w b n vs) {n' : Nat} (hn : n ≤ n') : CntM w b n' vs := by
  obtain ⟨D, h1, h2⟩ := h; exact ⟨D, h1.mono hn, h2⟩
theorem FroM.mono (h : FroM w b n fs) {n' : Nat} (hn : n ≤ n') : FroM w b n' fs := by
  obtain ⟨D, h1, h2⟩ := h; exact ⟨D, h1.mono hn, h2⟩
theorem CntM.same (h : CntM w b n vs) {vs' : List Int} (hc : ∀ a, vs'.count a = vs.count a) : CntM w b n vs' := by
  obtain ⟨D, h1, h2⟩ := h; exact ⟨D, h1, fun a => by rw [h2, hc]⟩
theorem CntM.lt (h : CntM w b n vs) : b < w.heap.size := by obtain ⟨D, h1, _⟩ := h; exact h1.lt
theorem FroM.lt (h : FroM w b n fs) : b < w.heap.size := by obtain ⟨D, h1, _⟩ := h; exact h1.lt
theorem CntM.made (w : World) : CntM (w.alloc (.map #[] 0)) w.heap.size 0 [] := ⟨_, World.ownsMap_made w _ _ _, fun a => rfl⟩
theorem FroM.made (w : World) : FroM (w.alloc (.map #[] 0)) w.heap.size 0 [] := ⟨_, World.ownsMap_made w _ _ _, fun a => ⟨rfl, rfl⟩⟩
end

section
variable (w : World) {ops : Array Oper} {rest : List Oper} {o : Oper} {a : Act} {Q : Exit → Act → World → Prop}
theorem wpList_cnt_look (hg : o.guard = none) (m x : Operand) (hop : o.op = Op.lookup 34 m x false) (b n : Nat) (vs : List Int) (hm : a.eval m = .map (some b)) (H : CntM w b n vs) (k : Int) (hx : a.eval x = .int .i64 k) (hk : I64 k)
    (hK : wpList Try.prog ops Q rest (a.put o.dst (.int .i64 (vs.count k : Nat))) w) : wpList Try.prog ops Q (o :: rest) a w := by
  obtain ⟨D, h1, h2⟩ := H
  refine wpList_lookup_own_int w hg m x _ hop 3 3 .i64 int_law Try.underlying34 Try.underlying3 (int_zero _) b n D hm h1 _ _ hx (keyOf_int_mk Try.underlying3 (i64_wf hk)) ?_
  intro c hat _
  rw [h2] at hat
  injection hat with hat
  injection hat with _ hat
  rw [← hat]
  exact hK
theorem wpList_cnt_put (hg : o.guard = none) (m x v : Operand) (hop : o.op = Op.mapUpdate 34 m x v) (b n : Nat) (vs : List Int) (hm : a.eval m = .map (some b)) (H : CntM w b n vs) (hn : n < maxLen) (k z : Int) (hx : a.eval x = .int .i64 k) (hv : a.eval v = .int .i64 z) (hk : I64 k) (hz : I64 z)
    (vs' : List Int) (hc : ∀ y, ((vs'.count y : Nat) : Int) = if y = k then z else (vs.count y : Nat))
    (hK : ∀ w', CntM w' b (n + 1) vs' → w.grownBy w' (some b) → wpList Try.prog ops Q rest (a.put o.dst undef) w') : wpList Try.prog ops Q (o :: rest) a w := by
  obtain ⟨D, h1, h2⟩ := H
  refine wpList_mapUpdate_in w hg m x v _ hop 3 3 int_law Try.underlying34 _ b n D hm h1 hn _ _ _ hx hv (keyOf_int_mk Try.underlying3 (i64_wf hk)) _ [] (plainElem_int Try.underlying3 (i64_wf hz)) ?_
  intro w' o1 t1
  refine hK w' ⟨_, o1, fun y => ?_⟩ t1.grown
  rw [hc y]
  by_cases e : y = k
  · rw [if_pos e, e, atKey_put_same h1.isMap (int_law.key (keyOf_int_mk Try.underlying3 (i64_wf hk)))]
  · rw [if_neg e, atKey_put_other (by intro e2; injection e2 with _ e2; exact e e2), h2]
theorem wpList_fro_look (hg : o.guard = none) (m x : Operand) (hop : o.op = Op.lookup 34 m x true) (b n : Nat) (fs : List Mv) (hm : a.eval m = .map (some b)) (H : FroM w b n fs) (k : Int) (hx : a.eval x = .int .i64 k) (hk : I64 k) (r : Option Int) (hr : lookL fs k = r)
    (hK : wpList Try.prog ops Q rest (a.put o.dst (.tuple #[.int .i64 (r.getD 0), .bool r.isSome])) w) : wpList Try.prog ops Q (o :: rest) a w := by
  obtain ⟨D, h1, h2⟩ := H
  refine wpList_lookup_own_ok_int w hg m x _ hop 3 3 .i64 int_law Try.underlying34 Try.underlying3 (int_zero _) b n D hm h1 _ _ hx (keyOf_int_mk Try.underlying3 (i64_wf hk)) ?_
  intro c hat _
  rw [(h2 k).2, hr] at hat
  injection hat with hat
  injection hat with _ hat
  rw [← hat, (h2 k).1, hr]
  exact hK
theorem wpList_fro_put (hg : o.guard = none) (m x v : Operand) (hop : o.op = Op.mapUpdate 34 m x v) (b n : Nat) (fs : List Mv) (hm : a.eval m = .map (some b)) (H : FroM w b n fs) (hn : n < maxLen) (k z : Int) (hx : a.eval x = .int .i64 k) (hv : a.eval v = .int .i64 z) (hk : I64 k) (hz : I64 z)
    (hK : ∀ w', FroM w' b (n + 1) (waitM fs k z) → w.grownBy w' (some b) → wpList Try.prog ops Q rest (a.put o.dst undef) w') : wpList Try.prog ops Q (o :: rest) a w := by
  obtain ⟨D, h1, h2⟩ := H
  refine wpList_mapUpdate_in w hg m x v _ hop 3 3 int_law Try.underlying34 _ b n D hm h1 hn _ _ _ hx hv (keyOf_int_mk Try.underlying3 (i64_wf hk)) _ [] (plainElem_int Try.underlying3 (i64_wf hz)) ?_
  intro w' o1 t1
  refine hK w' ⟨_, o1, fun y => ?_⟩ t1.grown
  unfold waitM
  rw [look_cons, look_del]
  by_cases e : k = y
  · rw [if_pos e, ← e, atKey_put_same h1.isMap (int_law.key (keyOf_int_mk Try.underlying3 (i64_wf hk))), has_put_same h1.isMap (int_law.key (keyOf_int_mk Try.underlying3 (i64_wf hk)))]
    exact ⟨rfl, rfl⟩
  · have e3 : (Lit.int .i64 y) ≠ Lit.int .i64 k := by intro e2; injection e2 with _ e2; exact e e2.symm
    rw [if_neg e, if_neg e, atKey_put_other e3, has_put_other e3]
    exact h2 y
theorem wpList_fro_del (hg : o.guard = none) (m x : Operand) (hop : o.op = Op.call { callee := Callee.builtin Builtin.delete, args := #[m, x], argTypes := #[34, 3] }) (b n : Nat) (fs : List Mv) (hm : a.eval m = .map (some b)) (H : FroM w b n fs) (k : Int) (hx : a.eval x = .int .i64 k) (hk : I64 k)
    (hK : ∀ w', FroM w' b n (delL fs k) → w.grownBy w' (some b) → wpList Try.prog ops Q rest (a.put o.dst (.tuple #[])) w') : wpList Try.prog ops Q (o :: rest) a w := by
  obtain ⟨D, h1, h2⟩ := H
  refine wpList_delete_own w hg m x _ _ hop 3 int_law Try.underlying34 _ b n D hm h1 _ _ hx (keyOf_int_mk Try.underlying3 (i64_wf hk)) ?_
  intro w' o1 t1
  refine hK w' ⟨_, o1, fun y => ?_⟩ t1.grown
  rw [look_del]
  by_cases e : k = y
  · rw [if_pos e, ← e, atKey_del_same, has_del_same]
    exact ⟨rfl, rfl⟩
  · have e3 : (Lit.int .i64 y) ≠ Lit.int .i64 k := by intro e2; injection e2 with _ e2; exact e e2.symm
    rw [if_neg e, atKey_del_other e3, has_del_other e3]
    exact h2 y
end

/-! ### what a line in the making is in memory -/
/-- pL: the box of the line, mF and pF: the map of what waits and its box, mR and pR: the map of the counts and its box; rows of the line's own from nb on -/
structure StV (w0 w : World) (pL mF pF mR pR : Nat) (ln fs : List Mv) (vs : List Int) (nF nR : Nat) : Prop where
  ord : pL < mF ∧ mF < pF ∧ pF < mR ∧ mR < pR
  box : ∃ A c, Blk w pL 24 #[.slice A ln.length c] ∧ w.ownsRow (pR + 1) 26 2 (.slice A ln.length c) ln.length (mvc ln)
  fb : Blk w pF 34 #[.map (some mF)]
  rb : Blk w pR 34 #[.map (some mR)]
  fm : FroM w mF nF fs
  rm : CntM w mR nR vs
  bel : Below pL w0 w
section
variable {w0 w w' : World} {pL mF pF mR pR nF nR : Nat} {ln fs : List Mv} {vs : List Int}
theorem StV.sz (h : StV w0 w pL mF pF mR pR ln fs vs nF nR) : pR < w.heap.size := h.rb.lt
theorem StV.alloc (h : StV w0 w pL mF pF mR pR ln fs vs nF nR) (o : Obj) : StV w0 (w.alloc o) pL mF pF mR pR ln fs vs nF nR := by
  obtain ⟨A, c, h1, h2⟩ := h.box
  exact ⟨h.ord, ⟨A, c, h1.alloc o, h2.alloc o⟩, h.fb.alloc o, h.rb.alloc o, h.fm.alloc o, h.rm.alloc o, h.bel.alloc (by have := h.sz; have := h.ord; omega) o⟩
theorem StV.far (h : StV w0 w pL mF pF mR pR ln fs vs nF nR) {g : Nat} {cs : Array Value} (hb : Blk w g 26 cs) (hg : pR < g) (hown : ∀ A c, Blk w pL 24 #[.slice A ln.length c] → (Value.slice A ln.length c).ownBlock ≠ some g) (i : Nat) (u : Value) : StV w0 (w.setCell ⟨g, i, none⟩ u) pL mF pF mR pR ln fs vs nF nR := by
  obtain ⟨A, c, h1, h2⟩ := h.box
  have ho := h.ord
  exact ⟨ho, ⟨A, c, h1.far (by simp; omega) u, ownsRow_setCell_other h2 (hown A c h1) u⟩, h.fb.far (by simp; omega) u, h.rb.far (by simp; omega) u, h.fm.set_ (by simp; omega) u, h.rm.set_ (by simp; omega) u, h.bel.setCell (by simp; omega) u⟩
theorem StV.fro (h : StV w0 w pL mF pF mR pR ln fs vs nF nR) {fs' : List Mv} {nF' : Nat} (hg : w.grownBy w' (some mF)) (hf : FroM w' mF nF' fs') : StV w0 w' pL mF pF mR pR ln fs' vs nF' nR := by
  obtain ⟨A, c, h1, h2⟩ := h.box
  have ho := h.ord
  refine ⟨ho, ⟨A, c, h1.grown hg (by simp; omega), own_kept h2 (fun i hi => hg.block i (own_block_le h2 hi).2 (by have := (own_block_le h2 hi).1; simp; omega))⟩, h.fb.grown hg (by simp; omega), h.rb.grown hg (by simp; omega), hf, h.rm.kept hg (by simp; omega), h.bel.grown hg (by have := h.sz; omega) (fun k hk => by cases hk; omega)⟩
theorem StV.cnt (h : StV w0 w pL mF pF mR pR ln fs vs nF nR) {vs' : List Int} {nR' : Nat} (hg : w.grownBy w' (some mR)) (hf : CntM w' mR nR' vs') : StV w0 w' pL mF pF mR pR ln fs vs' nF nR' := by
  obtain ⟨A, c, h1, h2⟩ := h.box
  have ho := h.ord
  refine ⟨ho, ⟨A, c, h1.grown hg (by simp; omega), own_kept h2 (fun i hi => hg.block i (own_block_le h2 hi).2 (by have := (own_block_le h2 hi).1; simp; omega))⟩, h.fb.grown hg (by simp; omega), h.rb.grown hg (by simp; omega), h.fm.kept hg (by simp; omega), hf, h.bel.grown hg (by have := h.sz; omega) (fun k hk => by cases hk; omega)⟩
/-- the line has grown, and its box says so -/
theorem StV.app (h : StV w0 w pL mF pF mR pR ln fs vs nF nR) {A : Option Addr} {c : Nat} {m : Mv} (hb : Blk w pL 24 #[.slice A ln.length c]) (h2 : w.ownsRow (pR + 1) 26 2 (.slice A ln.length c) ln.length (mvc ln)) {A' : Option Addr} {c' : Nat} (hg : w.grownBy w' (Value.slice A ln.length c).ownBlock)
    (ho' : w'.ownsRow (pR + 1) 26 2 (.slice A' (ln.length + 1) c') (ln.length + 1) (mvc ln ++ mvOne m)) : StV w0 (w'.setCell ⟨pL, 0, none⟩ (.slice A' (ln.length + 1) c')) pL mF pF mR pR (ln ++ [m]) fs vs nF nR := by
  have ho := h.ord
  have hne : ∀ g, g ≤ pR → some g ≠ (Value.slice A ln.length c).ownBlock := fun g hgl e => by have := (own_block_le h2 e.symm).1; omega
  have hne' : (Value.slice A' (ln.length + 1) c').ownBlock ≠ some pL := fun e => by have := (own_block_le ho' e).1; omega
  have e1 : mvc (ln ++ [m]) = mvc ln ++ mvOne m := by rw [mvc_append]; simp [mvc]
  refine ⟨ho, ⟨A', c', ?_, ?_⟩, (h.fb.grown hg (hne _ (by omega))).far (by simp; omega) _, (h.rb.grown hg (hne _ (by omega))).far (by simp; omega) _, (h.fm.kept hg (hne _ (by omega))).set_ (by simp; omega) _, (h.rm.kept hg (hne _ (by omega))).set_ (by simp; omega) _, ?_⟩
  · rw [List.length_append]
    exact (hb.grown hg (hne _ (by omega))).set_ 0 _
  · rw [List.length_append, e1]
    exact ownsRow_setCell_other ho' hne' _
  · exact (h.bel.grown hg (by have := h.sz; omega) (fun k hk => by have := (own_block_le h2 hk).1; omega)).setCell (by simp) _
end
theorem one_reads (w : World) (t : TypeId) (cs : List Value) (size : Nat) (hs : cs.length = size) : Reads (w.alloc (.cells cs.toArray t)) (w.heap.size + 1) size (some ⟨w.heap.size, 0, none⟩) 1 cs :=
  ⟨by omega, fun _ => ⟨_, rfl, by simp, fun j u hj => by
    have ea : (⟨w.heap.size, 0, none⟩ : Addr).add j = ⟨w.heap.size, j, none⟩ := by simp [Addr.add]; exact Eq.symm
    rw [ea, (Blk.new w t _).cell]
    simpa using hj⟩⟩
theorem info_mv : (Try.prog.info? 26).map (fun i => (i.zero, i.size, i.bytes)) = some (some (.agg #[.int .i64 0, .int .i64 0]), 2, 16) := by kernel_rfl
theorem app_mv {w : World} {ops : Array Oper} {rest : List Oper} {o : Oper} {a : Act} {Q : Exit → Act → World → Prop} (hgd : o.guard = none) (s x : Operand)
    (ho : o.op = .call { callee := .builtin .append, args := #[s, x], argTypes := #[24, 24] }) (base : Nat)
    (v : Value) (n : Nat) (xs : List Value) (hs : a.eval s = v) (hown : w.ownsRow base 26 2 v n xs)
    (B : Nat) (A : Option Addr) (m c : Nat) (news : List Value) (hx : a.eval x = .slice A m c) (hr : Reads w B 2 A m news) (h1 : ∀ u ∈ news, u.oneCell' = true)
    (hbytes : (n + m) * 16 ≤ 140737488355328) (hbase : base ≤ w.heap.size)
    (h : ∀ v' w', w'.ownsRow base 26 2 v' (n + m) (xs ++ news) → w.grownBy w' v.ownBlock → (v'.ownBlock = v.ownBlock ∨ v'.ownBlock = some w.heap.size) → wpList Try.prog ops Q rest (a.put o.dst v') w') : wpList Try.prog ops Q (o :: rest) a w := by
  obtain ⟨i0, hi, hz0, hz1, hz2⟩ := info_parts info_mv
  exact wpList_append_any w hgd s x _ ho base 26 i0 (.agg #[.int .i64 0, .int .i64 0]) 2 16 Try.underlying24 hi hz0 hz1 hz2 rfl (by decide) v n xs hs hown B A m c news hx hr h1 (by unfold maxLen; omega) hbytes hbase h
theorem mvOne_one (x : Mv) : ∀ u ∈ mvOne x, u.oneCell' = true := by
  intro u hu
  simp [mvOne] at hu
  rcases hu with rfl | rfl <;> rfl
end Go.Proofs.Ytedmcfaghfgpoaa
