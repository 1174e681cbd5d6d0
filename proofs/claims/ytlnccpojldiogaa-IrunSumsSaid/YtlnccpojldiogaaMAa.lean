/-
  Texts of one seat, one behind the other: Lang, Mem, App, Own, SWord, SRole, Pl, Rw, Open, SOpen.
-/
import Derived.Test.YtlnccpojldiogaaRows
import Derived.WalkKit
import Derived.ProofKit
import Derived.Below
import Derived.Laws.OwnMore
import Derived.Deep.AppendLies
import Derived.Deep.Draws
import Derived.Laws.Rows
import Derived.Maps.AppendAt
import Derived.RegionTactic
import Derived.OwnWalk
import Derived.Lib.Hide
import Derived.Deep.QuietTactic
import Derived.BigQuiet
import Derived.Laws.StructEq
import Derived.LoopTactic
import Derived.Outline
import Derived.WalkSpells
import Derived.WalkLawsBesides
import Derived.OpenShut
import Derived.Laws.BitsAllLaws
import Derived.Laws.Shifts
import Derived.Deep.OwnRows
import Derived.Maps.OwnSet
import Derived.Deep.Slices
import Derived.Deep.Fields
import Derived.ChangeSame
import Derived.Lib.SmallJoins
import Derived.ShutString
import Derived.SizedLaws

/-
  Graphs as plain data: what nodes read, write and go on to, which graphs are right. Nothing here speaks of the code.
-/
namespace Go.Proofs.Ytlnccpojldiogaa
set_option linter.unusedVariables false

/-- a node -/
structure Nd where
  op : Int
  bop : Int
  d : Int
  e : Int
  a : Int
  b : Int
  f : Int
  cell : Int
  imm : Int
  args : List Int
  next : Int
  els : Int
/-- a graph -/
structure Gr where
  params : List Int
  kinds : List Int
  cells : Int
  init : List Int
  result : Bool
  keep : Int
  nodes : List Nd
  entry : Int
instance : DecidableEq Nd := fun x y => decidable_of_iff (x.op = y.op ∧ x.bop = y.bop ∧ x.d = y.d ∧ x.e = y.e ∧ x.a = y.a ∧ x.b = y.b ∧ x.f = y.f ∧ x.cell = y.cell ∧ x.imm = y.imm ∧ x.args = y.args ∧ x.next = y.next ∧ x.els = y.els)
  ⟨fun h => by cases x; cases y; simp only [Nd.mk.injEq]; exact h, fun h => by subst h; exact ⟨rfl, rfl, rfl, rfl, rfl, rfl, rfl, rfl, rfl, rfl, rfl, rfl⟩⟩
instance : DecidableEq Gr := fun x y => decidable_of_iff (x.params = y.params ∧ x.kinds = y.kinds ∧ x.cells = y.cells ∧ x.init = y.init ∧ x.result = y.result ∧ x.keep = y.keep ∧ x.nodes = y.nodes ∧ x.entry = y.entry)
  ⟨fun h => by cases x; cases y; simp only [Gr.mk.injEq]; exact h, fun h => by subst h; exact ⟨rfl, rfl, rfl, rfl, rfl, rfl, rfl, rfl⟩⟩

/-- all are bytes -/
def Byt (l : List Int) : Prop := ∀ x ∈ l, 0 ≤ x ∧ x ≤ 255
theorem Byt.nil : Byt [] := fun _ h => by cases h
/-- one number more, if it is none of them and not negative -/
def add1 (l : List Int) (x : Int) : List Int := if 0 ≤ x ∧ x ∉ l then l ++ [x] else l
def addL (l more : List Int) : List Int := more.foldl add1 l
theorem addL_nil (l : List Int) : addL l [] = l := rfl
theorem addL_snoc (l more : List Int) (x : Int) : addL l (more ++ [x]) = add1 (addL l more) x := by simp [addL]
theorem addL_len (l more : List Int) : (addL l more).length ≤ l.length + more.length := by
  unfold addL
  induction more generalizing l with
  | nil => simp
  | cons x r ih =>
    rw [List.foldl_cons]
    have := ih (add1 l x)
    have h1 : (add1 l x).length ≤ l.length + 1 := by unfold add1; split <;> simp
    simp only [List.length_cons]
    omega
/-- the fields that a node reads, writes -/
def readF (n : Nd) : List Int :=
  if n.op = 2 ∨ n.op = 5 ∨ n.op = 7 ∨ n.op = 9 ∨ n.op = 12 ∨ n.op = 14 ∨ n.op = 17 ∨ n.op = 18 then [n.a]
  else if n.op = 3 ∨ n.op = 8 then [n.a, n.b] else if n.op = 11 ∨ n.op = 13 then n.args else []
def writeF (n : Nd) : List Int :=
  if n.op = 1 ∨ n.op = 2 ∨ n.op = 3 ∨ n.op = 4 ∨ n.op = 6 ∨ n.op = 7 ∨ n.op = 11 ∨ n.op = 16 then [n.d] else if n.op = 15 then [n.d, n.e] else []
def readsOf (n : Nd) : List Int := addL [] (readF n)
def writesOf (n : Nd) : List Int := addL [] (writeF n)
def nextsOf (n : Nd) : List Int :=
  if n.op < 1 ∨ 18 < n.op ∨ n.op = 12 ∨ n.op = 14 ∨ n.op = 18 then []
  else if n.op = 9 ∧ n.els ≠ n.next then [n.next, n.els] else [n.next]
/-- one of n things -/
def isOne (i n : Int) : Prop := 0 ≤ i ∧ i < n
instance (i n : Int) : Decidable (isOne i n) := inferInstanceAs (Decidable (_ ∧ _))
def kindAt (ks : List Int) (p : Int) : Int := ks.getD p.toNat 0
/-- a place is there, of the kind (if kinds are asked) -/
def fits (ks : List Int) (bd : Bool) (p k : Int) : Prop := isOne p ks.length ∧ (bd = true ∨ kindAt ks p = k)
instance (ks : List Int) (bd : Bool) (p k : Int) : Decidable (fits ks bd p k) := inferInstanceAs (Decidable (_ ∧ _))
/-- numbers in their order -/
def inOrder (l : List Int) : Prop := ∀ i, i < l.length → l.getD i 0 = i
instance (l : List Int) : Decidable (inOrder l) := inferInstanceAs (Decidable (∀ i, i < l.length → l.getD i 0 = (i : Int)))
def kindsHold (ks : List Int) (bd : Bool) : Prop := ks.length ≤ 1024 ∧ (bd = true → 16 ≤ ks.length) ∧ ∀ k ∈ ks, k = 0 ∨ k = 1
instance (ks : List Int) (bd : Bool) : Decidable (kindsHold ks bd) := inferInstanceAs (Decidable (_ ∧ _ ∧ _))
def paramsHold (ps ks : List Int) (bd : Bool) : Prop := ps.length ≤ 4 ∧ if bd = true then inOrder ps else ∀ i, i < ps.length → isOne (ps.getD i 0) ks.length ∧ ps.getD i 0 ∉ ps.take i
instance (ps ks : List Int) (bd : Bool) : Decidable (paramsHold ps ks bd) := inferInstanceAs (Decidable (_ ∧ _))
def initHolds (ps ks is : List Int) (cells : Int) (bd : Bool) : Prop := is.length = ps.length ∧ ∀ i, i < is.length → is.getD i 0 = -1 ∨ isOne (is.getD i 0) cells ∧ (bd = true ∨ kindAt ks (ps.getD i 0) = 0)
instance (ps ks is : List Int) (cells : Int) (bd : Bool) : Decidable (initHolds ps ks is cells bd) := inferInstanceAs (Decidable (_ ∧ _))
/-- all of a graph but its nodes -/
def headHolds (g : Gr) (bd : Bool) : Prop := kindsHold g.kinds bd ∧ 0 ≤ g.cells ∧ g.cells ≤ 64 ∧ paramsHold g.params g.kinds bd ∧ initHolds g.params g.kinds g.init g.cells bd ∧ (g.keep = -1 ∨ isOne g.keep g.cells) ∧ g.nodes.length ≤ 4096 ∧ isOne g.entry g.nodes.length
instance (g : Gr) (bd : Bool) : Decidable (headHolds g bd) := inferInstanceAs (Decidable (_ ∧ _ ∧ _ ∧ _ ∧ _ ∧ _ ∧ _ ∧ _))
def grAt (gs : List Gr) (k : Int) : Gr := gs.getD k.toNat ⟨[], [], 0, [], false, 0, [], 0⟩
/-- arguments for a function that is there -/
def hands (gs : List Gr) (g : Gr) (bd : Bool) (f : Int) (xs : List Int) : Prop :=
  isOne f gs.length ∧ xs.length = (grAt gs f).params.length ∧ if bd = true then inOrder xs else ∀ i, i < xs.length → fits g.kinds false (xs.getD i 0) (kindAt (grAt gs f).kinds ((grAt gs f).params.getD i 0))
instance (gs : List Gr) (g : Gr) (bd : Bool) (f : Int) (xs : List Int) : Decidable (hands gs g bd f xs) := inferInstanceAs (Decidable (_ ∧ _ ∧ _))
def gets (gs : List Gr) (g : Gr) (bd : Bool) (f d : Int) : Prop := d = -1 ∨ (grAt gs f).result = true ∧ fits g.kinds bd d 0 ∧ (bd = false ∨ d = 0)
instance (gs : List Gr) (g : Gr) (bd : Bool) (f d : Int) : Decidable (gets gs g bd f d) := inferInstanceAs (Decidable (_ ∨ _ ∧ _ ∧ _))
/-- what a node uses, but for the nodes behind it -/
def uses (gs : List Gr) (g : Gr) (bd : Bool) (n : Nd) : Prop :=
  if n.op = 1 ∨ n.op = 16 then fits g.kinds bd n.d 0
  else if n.op = 2 then isOne n.a g.kinds.length ∧ fits g.kinds bd n.d (kindAt g.kinds n.a)
  else if n.op = 3 then (7 ≤ n.bop ∧ n.bop ≤ 20) ∧ fits g.kinds bd n.d 0 ∧ fits g.kinds bd n.a 0 ∧ fits g.kinds bd n.b 0
  else if n.op = 4 then isOne n.cell g.cells ∧ fits g.kinds bd n.d 0
  else if n.op = 5 then isOne n.cell g.cells ∧ fits g.kinds bd n.a 0
  else if n.op = 6 then isOne n.cell g.cells ∧ fits g.kinds bd n.d 1
  else if n.op = 7 then fits g.kinds bd n.d 0 ∧ fits g.kinds bd n.a 1
  else if n.op = 8 then fits g.kinds bd n.a 1 ∧ fits g.kinds bd n.b 0
  else if n.op = 9 ∨ n.op = 14 ∨ n.op = 18 ∨ n.op = 17 then fits g.kinds bd n.a 0
  else if n.op = 10 then True
  else if n.op = 11 then hands gs g bd n.f n.args ∧ gets gs g bd n.f n.d
  else if n.op = 12 then (if g.result = true then fits g.kinds bd n.a 0 else n.a = -1)
  else if n.op = 13 then hands gs g bd n.f n.args
  else if n.op = 15 then n.d ≠ n.e ∧ fits g.kinds bd n.d 0 ∧ fits g.kinds bd n.e 0
  else False
instance (gs : List Gr) (g : Gr) (bd : Bool) (n : Nd) : Decidable (uses gs g bd n) := by unfold uses; infer_instance
def nodeHolds (gs : List Gr) (g : Gr) (bd : Bool) (n : Nd) : Prop := uses gs g bd n ∧ ∀ x ∈ nextsOf n, isOne x g.nodes.length
instance (gs : List Gr) (g : Gr) (bd : Bool) (n : Nd) : Decidable (nodeHolds gs g bd n) := inferInstanceAs (Decidable (_ ∧ _))
def valid (gs : List Gr) (bd : Bool) : Prop := (1 ≤ gs.length ∧ gs.length ≤ 16) ∧ ((grAt gs 0).params.length = 0 ∧ (grAt gs 0).result = false) ∧ (∀ g ∈ gs, headHolds g bd) ∧ ∀ g ∈ gs, ∀ n ∈ g.nodes, nodeHolds gs g bd n
instance (gs : List Gr) (bd : Bool) : Decidable (valid gs bd) := inferInstanceAs (Decidable (_ ∧ _ ∧ _ ∧ _))
end Go.Proofs.Ytlnccpojldiogaa

/-
  Words for memory: a slice that reads as a list, a block known whole, an append onto a row of the call's own (the guide's extra-words, copied as its page says).
-/
namespace Go.Proofs.Ytlnccpojldiogaa
set_option linter.unusedVariables false
open Go.ChangeShapes Go.WideShapes Go.ChangeAt Go.RowKit

theorem block_of_add (a : Addr) (n : Nat) : (a.add n).block = a.block := by unfold Addr.add; split <;> rfl
theorem add_of_add (a : Addr) (i j : Nat) : (a.add i).add j = a.add (i + j) := by
  unfold Addr.add
  by_cases hi : i = 0 <;> by_cases hj : j = 0 <;> simp [hi, hj, Nat.add_assoc]

def Reads (w : World) (B size : Nat) (A : Option Addr) (n : Nat) (xs : List Value) : Prop :=
  xs.length = n * size ∧ (0 < n → ∃ ad, A = some ad ∧ ad.block < B ∧ ∀ j u, xs[j]? = some u → w.cell? (ad.add j) = some u)

section
variable {w w' : World} {B B' size n : Nat} {A : Option Addr} {xs : List Value}
theorem Reads.none_ : Reads w B size A 0 [] := ⟨by simp, fun h => absurd h (by omega)⟩
theorem Reads.at_ {k : Nat} (h : Reads w B 1 A n xs) (hk : k < n) : ∃ ad u, A = some ad ∧ ad.block < B ∧ xs[k]? = some u ∧ w.cell? (ad.add k) = some u := by
  obtain ⟨ad, e, hb, hc⟩ := h.2 (by omega)
  have hl : k < xs.length := by have := h.1; omega
  exact ⟨ad, xs[k], e, hb, List.getElem?_eq_getElem hl, hc k _ (List.getElem?_eq_getElem hl)⟩
theorem Reads.keep (h : Reads w B size A n xs) (hk : ∀ p : Addr, p.block < B → w'.cell? p = w.cell? p) : Reads w' B size A n xs :=
  ⟨h.1, fun hn => by
    obtain ⟨ad, e, hb, hc⟩ := h.2 hn
    exact ⟨ad, e, hb, fun j u hu => (hk _ (by rw [block_of_add]; exact hb)).trans (hc j u hu)⟩⟩
theorem Reads.more (h : Reads w B size A n xs) (hB : B ≤ B') : Reads w B' size A n xs :=
  ⟨h.1, fun hn => by
    obtain ⟨ad, e, hb, hc⟩ := h.2 hn
    exact ⟨ad, e, by omega, hc⟩⟩
theorem Reads.below (h : Reads w B size A n xs) (hb : Below B w w') : Reads w' B size A n xs := h.keep fun _ hp => hb.cell hp
theorem Reads.drew (h : Reads w B size A n xs) : Reads w.drew B size A n xs := h
theorem Reads.drewN (h : Reads w B size A n xs) (k : Nat) : Reads (w.drewN k) B size A n xs := h
theorem Reads.alloc (h : Reads w B size A n xs) (hB : B ≤ w.heap.size) (o : Obj) : Reads (w.alloc o) B size A n xs := h.keep fun p hp => World.cell?_alloc_lt w o p (by omega)
theorem Reads.setCell (h : Reads w B size A n xs) {p : Addr} (hB : B ≤ p.block) (u : Value) : Reads (w.setCell p u) B size A n xs :=
  h.keep fun q hq => World.cell?_setCell_other w p q u (fun e => by subst e; omega)
theorem Reads.grown (h : Reads w B size A n xs) {row : Option Nat} (hg : w.grownBy w' row) (hB : B ≤ w.heap.size) (hr : ∀ g, row = some g → B ≤ g) : Reads w' B size A n xs :=
  h.keep fun p hp => World.cell?_of_block (hg.block p.block (by omega) (fun e => by have := hr _ e.symm; omega))
theorem Reads.cut (h : Reads w B size A n xs) {k cap : Nat} (hk : k ≤ n) (hc : n ≤ cap) :
    Reads w B size (if cap = k then A else A.map (·.add (k * size))) (n - k) (xs.drop (k * size)) := by
  refine ⟨by rw [List.length_drop, h.1, Nat.sub_mul], fun hn => ?_⟩
  obtain ⟨ad, rfl, hb, hcell⟩ := h.2 (by omega)
  rw [if_neg (by omega)]
  refine ⟨ad.add (k * size), rfl, by rw [block_of_add]; exact hb, fun j u hu => ?_⟩
  rw [add_of_add]
  exact hcell _ u (by rw [← hu, List.getElem?_drop])
theorem Reads.of_own {base : Nat} {e : TypeId} {c : Nat} (h : w.ownsRow base e size (.slice A n c) n xs) : Reads w w.heap.size size A n xs := by
  refine ⟨h.1, fun hn => ?_⟩
  obtain ⟨g, cap, hv, _, hlt⟩ := h.form hn
  have hA : A = some ⟨g, 0, none⟩ := by injection hv
  subst hA
  exact ⟨_, rfl, hlt, h.cells (g := g) rfl⟩
end

def Blk (w : World) (g : Nat) (t : TypeId) (cs : Array Value) : Prop := w.heap[g]? = some (.cells cs t (0, 0))

section
variable {w w' : World} {g : Nat} {t : TypeId} {cs : Array Value}
theorem Blk.lt (h : Blk w g t cs) : g < w.heap.size := by
  rcases Nat.lt_or_ge g w.heap.size with hlt | hge
  · exact hlt
  · unfold Blk at h; rw [Array.getElem?_eq_none hge] at h; cases h
theorem Blk.cell (h : Blk w g t cs) (i : Nat) : w.cell? ⟨g, i, none⟩ = cs[i]? := cell_of_row w g i cs t (0, 0) h
theorem Blk.frozen (h : Blk w g t cs) (i : Nat) : w.frozen? ⟨g, i, none⟩ = false := by
  unfold Blk at h
  simp [World.frozen?, h]
theorem Blk.new (w : World) (t : TypeId) (cs : Array Value) : Blk (w.alloc (.cells cs t)) w.heap.size t cs := heap_alloc_new w _
theorem Blk.drew (h : Blk w g t cs) : Blk w.drew g t cs := h
theorem Blk.drewN (h : Blk w g t cs) (n : Nat) : Blk (w.drewN n) g t cs := h
theorem Blk.alloc (h : Blk w g t cs) (o : Obj) : Blk (w.alloc o) g t cs := (Below.heap_alloc w o g h.lt).trans h
theorem Blk.set_ (h : Blk w g t cs) (i : Nat) (u : Value) : Blk (w.setCell ⟨g, i, none⟩ u) g t (cs.setIfInBounds i u) := by
  unfold Blk at h ⊢
  simp [World.setCell, Array.getElem?_modify, h]
theorem Blk.far (h : Blk w g t cs) {p : Addr} (hp : g ≠ p.block) (u : Value) : Blk (w.setCell p u) g t cs := (Below.heap_setCell w p u g hp).trans h
theorem Blk.below {B : Nat} (h : Blk w g t cs) (hb : Below B w w') (hg : g < B) : Blk w' g t cs := (hb.block g hg).trans h
theorem Blk.grown {row : Option Nat} (h : Blk w g t cs) (hb : w.grownBy w' row) (hg : some g ≠ row) : Blk w' g t cs := (hb.block g h.lt hg).trans h
theorem Blk.ne_ {g' : Nat} {t' : TypeId} {cs' : Array Value} (h : Blk w g t cs) (h' : Blk w g' t' cs') (hne : t ≠ t') : g ≠ g' := by
  rintro rfl
  unfold Blk at h h'
  rw [h] at h'
  injection h' with h'
  injection h' with _ ht
  exact hne ht
theorem own_blk_ne {base : Nat} {e : TypeId} {size n : Nat} {v : Value} {xs : List Value} (h : w.ownsRow base e size v n xs) (hg : Blk w g t cs) (hne : e ≠ t) : v.ownBlock ≠ some g := by
  rcases h.2 with ⟨rfl, _⟩ | ⟨g', cap, cur, rfl, _, hh, _⟩
  · simp [Value.ownBlock]
  · intro he
    have : g' = g := by simpa [Value.ownBlock] using he
    subst this
    exact Blk.ne_ (t := e) hh hg hne rfl
end

section
variable {P : Program} (w : World)

theorem run_append_of_nil (base : Nat) (t ty e : TypeId) (i : TypeInfo) (size : Nat) (ht : P.underlying t = some (.slice e)) (hi : P.info? e = some i)
    (v : Value) (n : Nat) (xs : List Value) (hown : w.ownsRow base e size v n xs) (c : Nat) : (Builtin.append_ #[t, t] ty #[v, .slice none 0 c]).run P w = .ok v w := by
  rcases hown.2 with ⟨rfl, rfl⟩ | ⟨g, cap, cur, rfl, _, _, hnc, _⟩
  · simp [Builtin.append_, run_underlying ht, sizeOf, typeInfo, hi, Builtin.lenOf, Builtin.firstCells]
  · simp [Builtin.append_, run_underlying ht, sizeOf, typeInfo, hi, Builtin.lenOf, Builtin.firstCells, hnc, storeCells]

theorem run_append_any (base : Nat) (t ty e : TypeId) (i : TypeInfo) (z : Value) (size bytes : Nat) (ht : P.underlying t = some (.slice e)) (hi : P.info? e = some i) (hz : i.zero = some z)
    (hsize : i.size = size) (hby : i.bytes = bytes) (hzs : z.cells.size = size) (hsz : 0 < size)
    (v : Value) (n : Nat) (xs : List Value) (hown : w.ownsRow base e size v n xs)
    (B : Nat) (A : Option Addr) (m c : Nat) (news : List Value) (hr : Reads w B size A m news) (h1 : ∀ u ∈ news, u.oneCell' = true)
    (h63 : n + m ≤ maxLen) (hbytes : (n + m) * bytes ≤ 140737488355328) (hbase : base ≤ w.heap.size) :
    ∃ v' w', (Builtin.append_ #[t, t] ty #[v, .slice A m c]).run P w = .ok v' w' ∧ w'.ownsRow base e size v' (n + m) (xs ++ news) ∧ w.grownBy w' v.ownBlock ∧
      (v'.ownBlock = v.ownBlock ∨ v'.ownBlock = some w.heap.size) := by
  rcases A with _ | ad
  · have hm : m = 0 := by
      rcases Nat.eq_zero_or_pos m with h0 | h0
      · exact h0
      · obtain ⟨ad, h, _⟩ := hr.2 h0
        cases h
    subst hm
    have hn : news = [] := List.eq_nil_of_length_eq_zero (by simpa using hr.1)
    subst hn
    exact ⟨v, w, run_append_of_nil w base t ty e i size ht hi v n xs hown c, by simpa using hown, World.grownBy.refl w _, .inl rfl⟩
  · have hcells : ∀ j u, news[j]? = some u → w.cell? (ad.add j) = some u := by
      intro j u hu
      rcases Nat.eq_zero_or_pos m with h0 | h0
      · subst h0
        have hn : news = [] := List.eq_nil_of_length_eq_zero (by simpa using hr.1)
        subst hn
        simp at hu
      · obtain ⟨ad', h, _, hc⟩ := hr.2 h0
        injection h with h
        subst h
        exact hc j u hu
    obtain ⟨v', w', hrun, h2, h3, _, h5⟩ := run_append_own_at (P := P) w base t ty e i z size bytes ht hi hz hsize hby hzs hsz v n xs hown ad m c news hr.1 hcells h1 h63 hbytes hbase
    exact ⟨v', w', hrun, h2, h3, h5⟩

theorem wp_append_any {o : Oper} {a : Act} {K : Act → World → Prop} {Q : Exit → Act → World → Prop} (s x : Operand) (t : TypeId)
    (ho : o.op = .call { callee := .builtin .append, args := #[s, x], argTypes := #[t, t] })
    (base : Nat) (e : TypeId) (i : TypeInfo) (z : Value) (size bytes : Nat) (ht : P.underlying t = some (.slice e)) (hi : P.info? e = some i) (hz : i.zero = some z)
    (hsize : i.size = size) (hby : i.bytes = bytes) (hzs : z.cells.size = size) (hsz : 0 < size)
    (v : Value) (n : Nat) (xs : List Value) (hs : a.eval s = v) (hown : w.ownsRow base e size v n xs)
    (B : Nat) (A : Option Addr) (m c : Nat) (news : List Value) (hx : a.eval x = .slice A m c) (hr : Reads w B size A m news) (h1 : ∀ u ∈ news, u.oneCell' = true)
    (h63 : n + m ≤ maxLen) (hbytes : (n + m) * bytes ≤ 140737488355328) (hbase : base ≤ w.heap.size)
    (h : ∀ v' w', w'.ownsRow base e size v' (n + m) (xs ++ news) → w.grownBy w' v.ownBlock → (v'.ownBlock = v.ownBlock ∨ v'.ownBlock = some w.heap.size) → K (a.put o.dst v') w') : o.wp P a w K Q := by
  obtain ⟨v', w', hrun, h2, h3, h4⟩ := run_append_any (P := P) w base t o.type e i z size bytes ht hi hz hsize hby hzs hsz v n xs hown B A m c news hr h1 h63 hbytes hbase
  unfold Oper.wp execOp
  simp only [ho, resolve, invoke, builtin, Sem.run_bind, Sem.run_pure, Result.andThen_ok, List.map_toArray, List.map_cons, List.map_nil, hs, hx, hrun]
  exact h v' w' h2 h3 h4

theorem wpList_append_any {ops : Array Oper} {rest : List Oper} {o : Oper} {a : Act} {Q : Exit → Act → World → Prop} (hgd : o.guard = none) (s x : Operand) (t : TypeId)
    (ho : o.op = .call { callee := .builtin .append, args := #[s, x], argTypes := #[t, t] })
    (base : Nat) (e : TypeId) (i : TypeInfo) (z : Value) (size bytes : Nat) (ht : P.underlying t = some (.slice e)) (hi : P.info? e = some i) (hz : i.zero = some z)
    (hsize : i.size = size) (hby : i.bytes = bytes) (hzs : z.cells.size = size) (hsz : 0 < size)
    (v : Value) (n : Nat) (xs : List Value) (hs : a.eval s = v) (hown : w.ownsRow base e size v n xs)
    (B : Nat) (A : Option Addr) (m c : Nat) (news : List Value) (hx : a.eval x = .slice A m c) (hr : Reads w B size A m news) (h1 : ∀ u ∈ news, u.oneCell' = true)
    (h63 : n + m ≤ maxLen) (hbytes : (n + m) * bytes ≤ 140737488355328) (hbase : base ≤ w.heap.size)
    (h : ∀ v' w', w'.ownsRow base e size v' (n + m) (xs ++ news) → w.grownBy w' v.ownBlock → (v'.ownBlock = v.ownBlock ∨ v'.ownBlock = some w.heap.size) → wpList P ops Q rest (a.put o.dst v') w') : wpList P ops Q (o :: rest) a w :=
  wpList_plain hgd fun _ hK => wp_append_any w s x t ho base e i z size bytes ht hi hz hsize hby hzs hsz v n xs hs hown B A m c news hx hr h1 h63 hbytes hbase fun v' w' h2 h3 h4 => hK _ _ (h v' w' h2 h3 h4)

theorem step_append_any {ops : Array Oper} {o : Oper} {a : Act} {K : Act → World → Prop} {Q : Exit → Act → World → Prop} {E : Prop} (hgd : o.guard = none) (s x : Operand) (t : TypeId)
    (ho : o.op = .call { callee := .builtin .append, args := #[s, x], argTypes := #[t, t] })
    (base : Nat) (e : TypeId) (i : TypeInfo) (z : Value) (size bytes : Nat) (ht : P.underlying t = some (.slice e)) (hi : P.info? e = some i) (hz : i.zero = some z)
    (hsize : i.size = size) (hby : i.bytes = bytes) (hzs : z.cells.size = size) (hsz : 0 < size)
    (v : Value) (n : Nat) (xs : List Value) (hs : a.eval s = v) (hown : w.ownsRow base e size v n xs)
    (B : Nat) (A : Option Addr) (m c : Nat) (news : List Value) (hx : a.eval x = .slice A m c) (hr : Reads w B size A m news) (h1 : ∀ u ∈ news, u.oneCell' = true)
    (h63 : n + m ≤ maxLen) (hbytes : (n + m) * bytes ≤ 140737488355328) (hbase : base ≤ w.heap.size)
    (h : ∀ v' w', w'.ownsRow base e size v' (n + m) (xs ++ news) → w.grownBy w' v.ownBlock → (v'.ownBlock = v.ownBlock ∨ v'.ownBlock = some w.heap.size) → K (a.put o.dst v') w') :
    if Region.wanted o (yielded ops a.tmps) = true then Oper.wp P o a w K Q else E := by
  have hw : Region.wanted o (yielded ops a.tmps) = true := by simp [Region.wanted, hgd]
  rw [if_pos hw]
  exact wp_append_any w s x t ho base e i z size bytes ht hi hz hsize hby hzs hsz v n xs hs hown B A m c news hx hr h1 h63 hbytes hbase h
end

theorem below_drewN {B : Nat} {a w : World} (h : Below B a w) (n : Nat) : Below B a (w.drewN n) := ⟨h.os, h.tape, h.output, h.size, h.block⟩

/-- A slice's address written out: where there is an element, there is a block and a place in it. -/
theorem Reads.lit {w : World} {B size n : Nat} {A : Option Addr} {xs : List Value} (h : Reads w B size A n xs) (hn : 0 < n) (hs : 0 < size) :
    ∃ b off, A = some ⟨b, off, none⟩ ∧ b < B ∧ ∀ j u, xs[j]? = some u → w.cell? ⟨b, off + j, none⟩ = some u := by
  obtain ⟨ad, rfl, hb, hc⟩ := h.2 hn
  obtain ⟨b, off, spot⟩ := ad
  have hl : 0 < xs.length := by rw [h.1]; exact Nat.mul_pos hn hs
  have h0 := hc 0 _ (List.getElem?_eq_getElem hl)
  have hspot : spot = none := by simpa [Addr.add] using World.cell?_spot h0
  subst hspot
  refine ⟨b, off, rfl, hb, fun j u hj => ?_⟩
  have ea : (⟨b, off, none⟩ : Addr).add j = ⟨b, off + j, none⟩ := by simp [Addr.add]
  rw [← ea]; exact hc j u hj
theorem own_slice {w : World} {base size n : Nat} {e : TypeId} {v : Value} {xs : List Value} (h : w.ownsRow base e size v n xs) : ∃ A c, v = .slice A n c := by
  rcases h.2 with ⟨rfl, rfl⟩ | ⟨g, cap, cur, rfl, _⟩
  · exact ⟨_, _, rfl⟩
  · exact ⟨_, _, rfl⟩
theorem own_kept {w w' : World} {base size n : Nat} {e : TypeId} {v : Value} {xs : List Value} (h : w.ownsRow base e size v n xs) (hk : ∀ i, v.ownBlock = some i → w'.heap[i]? = w.heap[i]?) : w'.ownsRow base e size v n xs := by
  obtain ⟨h1, h2⟩ := h
  refine ⟨h1, ?_⟩
  rcases h2 with h2 | ⟨g, cap, cur, rfl, hg, hb, hr⟩
  · exact .inl h2
  · exact .inr ⟨g, cap, cur, rfl, hg, (hk g rfl).trans hb, hr⟩
theorem own_block_le {w : World} {base size n : Nat} {e : TypeId} {v : Value} {xs : List Value} (h : w.ownsRow base e size v n xs) {i : Nat} (hi : v.ownBlock = some i) : base ≤ i ∧ i < w.heap.size := by
  rcases h.2 with ⟨rfl, _⟩ | ⟨g, cap, cur, rfl, hg, hb, _⟩
  · simp [Value.ownBlock] at hi
  · simp [Value.ownBlock] at hi
    subst hi
    exact ⟨hg, Blk.lt (t := e) (cs := cur) hb⟩
theorem own_cap {w : World} {base size n c : Nat} {A : Option Addr} {e : TypeId} {xs : List Value} (h : w.ownsRow base e size (.slice A n c) n xs) : n ≤ c := by
  rcases h.2 with ⟨he, rfl⟩ | ⟨g, cap, cur, he, _, _, hnc, _⟩
  · omega
  · injection he with _ _ he; subst he; exact hnc
theorem own_none (w : World) (B : Nat) (e : TypeId) (size : Nat) : w.ownsRow B e size (.slice none 0 0) 0 [] := ⟨by simp, .inl ⟨rfl, rfl⟩⟩
theorem own_more {w : World} {base base' size n : Nat} {e : TypeId} {v : Value} {xs : List Value} (h : w.ownsRow base e size v n xs) (hb : base' ≤ base) : w.ownsRow base' e size v n xs := by
  obtain ⟨h1, h2⟩ := h
  refine ⟨h1, ?_⟩
  rcases h2 with h2 | ⟨g, cap, cur, rfl, hg, hr⟩
  · exact .inl h2
  · exact .inr ⟨g, cap, cur, rfl, by omega, hr⟩
/-- only block g and what is new has turned -/
theorem grown_refl (w : World) (row : Option Nat) : w.grownBy w row := World.grownBy.refl w row
theorem grown_trans' {a b c : World} {g : Nat} (h : a.grownBy b (some g)) (k : b.grownBy c (some g)) : a.grownBy c (some g) :=
  ⟨k.os.trans h.os, k.tape.trans h.tape, k.output.trans h.output, Nat.le_trans h.size k.size, fun i hi hn => (k.block i (Nat.lt_of_lt_of_le hi h.size) hn).trans (h.block i hi hn)⟩
theorem only_drewN {a w : World} {row : Option Nat} (h : a.grownBy w row) (n : Nat) : a.grownBy (w.drewN n) row := ⟨h.os, h.tape, h.output, h.size, h.block⟩
theorem only_drew {a w : World} {row : Option Nat} (h : a.grownBy w row) : a.grownBy w.drew row := ⟨h.os, h.tape, h.output, h.size, h.block⟩
theorem only_alloc {a w : World} {row : Option Nat} (h : a.grownBy w row) (o : Obj) : a.grownBy (w.alloc o) row :=
  ⟨h.os, h.tape, h.output, Nat.le_trans h.size (by simp), fun i hi hne => (Below.heap_alloc w o i (Nat.lt_of_lt_of_le hi h.size)).trans (h.block i hi hne)⟩
theorem only_setCell {a w : World} {g : Nat} (h : a.grownBy w (some g)) {p : Addr} (hp : p.block = g ∨ a.heap.size ≤ p.block) (u : Value) : a.grownBy (w.setCell p u) (some g) :=
  ⟨h.os, h.tape, h.output, by simpa [World.setCell] using h.size, fun i hi hne => (Below.heap_setCell w p u i (by
    rintro rfl
    rcases hp with hp | hp
    · exact hne (by rw [hp])
    · omega)).trans (h.block i hi hne)⟩
theorem only_of_below {a w : World} (h : Below a.heap.size a w) (row : Option Nat) : a.grownBy w row := ⟨h.os, h.tape, h.output, h.size, fun i hi _ => h.block i hi⟩
/-- a row of the call's own has grown: beside block g nothing old has turned -/
theorem only_grown {a w w' : World} {g : Nat} {row : Option Nat} (h : a.grownBy w (some g)) (k : w.grownBy w' row) (hr : ∀ i, row = some i → a.heap.size ≤ i) : a.grownBy w' (some g) :=
  ⟨k.os.trans h.os, k.tape.trans h.tape, k.output.trans h.output, Nat.le_trans h.size k.size, fun i hi hn => (k.block i (Nat.lt_of_lt_of_le hi h.size) (fun e => by have := hr i e.symm; omega)).trans (h.block i hi hn)⟩
theorem below_grown {w w' : World} {B g : Nat} (h : w.grownBy w' (some g)) (hg : B ≤ g) (hB : B ≤ w.heap.size) : Below B w w' :=
  (Below.refl B w).grown h hB (by intro k hk; injection hk with hk; omega)
theorem below_old {a b : World} {g : Nat} (h : a.grownBy b (some g)) : ∀ p : Addr, p.block < a.heap.size → p.block ≠ g → b.cell? p = a.cell? p :=
  fun p hp hn => World.cell?_of_block (h.block p.block hp (fun e => hn (by injection e)))
theorem Reads.only {w w' : World} {B size n g : Nat} {A : Option Addr} {xs : List Value} (h : Reads w B size A n xs) (hg : w.grownBy w' (some g)) (hB : B ≤ w.heap.size) (hr : B ≤ g) : Reads w' B size A n xs :=
  h.grown hg hB fun i hi => by injection hi with hi; omega
/-- cells of bytes and of kinds -/
def u8c (l : List Int) : List Value := l.map (Value.int .u8)
theorem length_u8c (l : List Int) : (u8c l).length = l.length := by simp [u8c]
theorem u8c_append (a b : List Int) : u8c (a ++ b) = u8c a ++ u8c b := by simp [u8c]
theorem u8c_at {l : List Int} {k : Nat} {x : Int} (h : l[k]? = some x) : (u8c l)[k]? = some (.int .u8 x) := by simp [u8c, h]
theorem u8c_one (l : List Int) : ∀ u ∈ u8c l, u.oneCell' = true := by
  intro u hu
  simp [u8c] at hu
  obtain ⟨x, _, rfl⟩ := hu
  rfl
/-- cells of ints -/
def i64c (l : List Int) : List Value := l.map (Value.int .i64)
theorem length_i64c (l : List Int) : (i64c l).length = l.length := by simp [i64c]
theorem i64c_append (a b : List Int) : i64c (a ++ b) = i64c a ++ i64c b := by simp [i64c]
theorem i64c_at {l : List Int} {k : Nat} {x : Int} (h : l[k]? = some x) : (i64c l)[k]? = some (.int .i64 x) := by simp [i64c, h]
theorem i64c_one (l : List Int) : ∀ u ∈ i64c l, u.oneCell' = true := by
  intro u hu
  simp [i64c] at hu
  obtain ⟨x, _, rfl⟩ := hu
  rfl
/-- cells of rows of m: where the k-th row's j-th cell lies -/
theorem flat_at {α : Type} (f : α → List Value) (m : Nat) (hf : ∀ x, (f x).length = m) (l : List α) (k j : Nat) (x : α) (hk : l[k]? = some x) (hj : j < m) : (l.flatMap f)[k * m + j]? = (f x)[j]? := by
  induction l generalizing k with
  | nil => simp at hk
  | cons y l ih =>
    rw [List.flatMap_cons]
    cases k with
    | zero =>
      simp at hk
      subst hk
      rw [Nat.zero_mul, Nat.zero_add, List.getElem?_append_left (by rw [hf]; exact hj)]
    | succ k =>
      rw [List.getElem?_append_right (by rw [hf, Nat.succ_mul]; omega), hf, show (k + 1) * m + j - m = k * m + j by rw [Nat.succ_mul]; omega]
      exact ih k (by simpa using hk)
theorem Reads.byte {w : World} {B n : Nat} {A : Option Addr} {l : List Int} (h : Reads w B 1 A n (u8c l)) {k : Nat} (hk : k < n) :
    ∃ b off x, A = some ⟨b, off, none⟩ ∧ b < B ∧ Hid (l[k]? = some x) ∧ w.cell? ⟨b, off + k, none⟩ = some (.int .u8 x) := by
  obtain ⟨b, off, rfl, hb, hc⟩ := h.lit (by omega) (by omega)
  have hl : k < l.length := by have := h.1; rw [length_u8c] at this; omega
  exact ⟨b, off, l[k], rfl, hb, List.getElem?_eq_getElem hl, hc _ _ (u8c_at (List.getElem?_eq_getElem hl))⟩
theorem Reads.int {w : World} {B n : Nat} {A : Option Addr} {l : List Int} (h : Reads w B 1 A n (i64c l)) {k : Nat} (hk : k < n) :
    ∃ b off x, A = some ⟨b, off, none⟩ ∧ b < B ∧ Hid (l[k]? = some x) ∧ w.cell? ⟨b, off + k, none⟩ = some (.int .i64 x) := by
  obtain ⟨b, off, rfl, hb, hc⟩ := h.lit (by omega) (by omega)
  have hl : k < l.length := by have := h.1; rw [length_i64c] at this; omega
  exact ⟨b, off, l[k], rfl, hb, List.getElem?_eq_getElem hl, hc _ _ (i64c_at (List.getElem?_eq_getElem hl))⟩
/-- all are ints -/
def I64 (x : Int) : Prop := -9223372036854775808 ≤ x ∧ x ≤ 9223372036854775807
/-- A node in memory: its data, and where its arguments lie. -/
structure RN where
  nd : Nd
  ao : Option Addr
  ac : Nat
def rnOne (i : RN) : List Value := [.int .u8 i.nd.op, .int .u8 i.nd.bop, .int .i64 i.nd.d, .int .i64 i.nd.e, .int .i64 i.nd.a, .int .i64 i.nd.b, .int .i64 i.nd.f, .int .i64 i.nd.cell, .int .u64 i.nd.imm, .slice i.ao i.nd.args.length i.ac, .int .i64 i.nd.next, .int .i64 i.nd.els]
def rnc (l : List RN) : List Value := l.flatMap rnOne
theorem length_rnc (l : List RN) : (rnc l).length = l.length * 12 := by
  induction l with
  | nil => rfl
  | cons p l ih => unfold rnc at *; rw [List.flatMap_cons, List.length_append, ih]; simp [rnOne]; omega
theorem rnc_append (a b : List RN) : rnc (a ++ b) = rnc a ++ rnc b := by simp [rnc]
theorem rnOne_one (x : RN) : ∀ u ∈ rnOne x, u.oneCell' = true := by
  intro u hu
  simp [rnOne] at hu
  rcases hu with rfl | rfl | rfl | rfl | rfl | rfl | rfl | rfl | rfl | rfl | rfl | rfl <;> rfl
theorem rnc_one (l : List RN) : ∀ u ∈ rnc l, u.oneCell' = true := by
  intro u hu
  simp only [rnc, List.mem_flatMap] at hu
  obtain ⟨p, _, hu⟩ := hu
  exact rnOne_one p u hu
theorem rnc_at {l : List RN} {k : Nat} {i : RN} (h : l[k]? = some i) : (rnc l)[k * 12]? = some (.int .u8 i.nd.op) ∧ (rnc l)[k * 12 + 1]? = some (.int .u8 i.nd.bop) ∧ (rnc l)[k * 12 + 2]? = some (.int .i64 i.nd.d) ∧ (rnc l)[k * 12 + 3]? = some (.int .i64 i.nd.e) ∧ (rnc l)[k * 12 + 4]? = some (.int .i64 i.nd.a) ∧ (rnc l)[k * 12 + 5]? = some (.int .i64 i.nd.b) ∧ (rnc l)[k * 12 + 6]? = some (.int .i64 i.nd.f) ∧ (rnc l)[k * 12 + 7]? = some (.int .i64 i.nd.cell) ∧ (rnc l)[k * 12 + 8]? = some (.int .u64 i.nd.imm) ∧ (rnc l)[k * 12 + 9]? = some (.slice i.ao i.nd.args.length i.ac) ∧ (rnc l)[k * 12 + 10]? = some (.int .i64 i.nd.next) ∧ (rnc l)[k * 12 + 11]? = some (.int .i64 i.nd.els) := by
  refine ⟨?_, ?_, ?_, ?_, ?_, ?_, ?_, ?_, ?_, ?_, ?_, ?_⟩
  · exact flat_at rnOne 12 (fun _ => rfl) l k 0 i h (by omega)
  · exact flat_at rnOne 12 (fun _ => rfl) l k 1 i h (by omega)
  · exact flat_at rnOne 12 (fun _ => rfl) l k 2 i h (by omega)
  · exact flat_at rnOne 12 (fun _ => rfl) l k 3 i h (by omega)
  · exact flat_at rnOne 12 (fun _ => rfl) l k 4 i h (by omega)
  · exact flat_at rnOne 12 (fun _ => rfl) l k 5 i h (by omega)
  · exact flat_at rnOne 12 (fun _ => rfl) l k 6 i h (by omega)
  · exact flat_at rnOne 12 (fun _ => rfl) l k 7 i h (by omega)
  · exact flat_at rnOne 12 (fun _ => rfl) l k 8 i h (by omega)
  · exact flat_at rnOne 12 (fun _ => rfl) l k 9 i h (by omega)
  · exact flat_at rnOne 12 (fun _ => rfl) l k 10 i h (by omega)
  · exact flat_at rnOne 12 (fun _ => rfl) l k 11 i h (by omega)
/-- what a node's numbers may be, and how many its arguments -/
structure WfN (i : Nd) : Prop where
  o0 : 0 ≤ i.op
  o1 : i.op ≤ 255
  q0 : 0 ≤ i.bop
  q1 : i.bop ≤ 255
  d : I64 i.d
  e : I64 i.e
  a : I64 i.a
  b : I64 i.b
  f : I64 i.f
  cell : I64 i.cell
  m0 : 0 ≤ i.imm
  m1 : i.imm ≤ 18446744073709551615
  args : ∀ x ∈ i.args, I64 x
  next : I64 i.next
  els : I64 i.els
  al : i.args.length * 8 ≤ 140737488351232
/-- a node's arguments read as its data -/
structure RdN (w : World) (B : Nat) (i : RN) : Prop where
  args : Reads w B 1 i.ao i.nd.args.length (i64c i.nd.args)
  cap : i.nd.args.length ≤ i.ac
/-- Nodes in memory: n of them at A. -/
structure RdNs (w : World) (B : Nat) (A : Option Addr) (n : Nat) (ns : List RN) : Prop where
  row : Reads w B 12 A n (rnc ns)
  len : ns.length = n
  each : ∀ i ∈ ns, RdN w B i
  wf : ∀ i ∈ ns, WfN i.nd
def nds (ns : List RN) : List Nd := ns.map RN.nd
theorem nds_append (a b : List RN) : nds (a ++ b) = nds a ++ nds b := by simp [nds]
theorem length_nds (ns : List RN) : (nds ns).length = ns.length := by simp [nds]
section
variable {w w' : World} {B B' n : Nat} {A : Option Addr} {ns : List RN} {i : RN}
theorem RdN.keep (h : RdN w B i) (hk : ∀ p : Addr, p.block < B → w'.cell? p = w.cell? p) : RdN w' B i := ⟨h.args.keep hk, h.cap⟩
theorem RdN.more (h : RdN w B i) (hB : B ≤ B') : RdN w B' i := ⟨h.args.more hB, h.cap⟩
theorem RdN.below (h : RdN w B i) (hb : Below B w w') : RdN w' B i := h.keep fun _ hp => hb.cell hp
theorem RdNs.keep (h : RdNs w B A n ns) (hk : ∀ p : Addr, p.block < B → w'.cell? p = w.cell? p) : RdNs w' B A n ns := ⟨h.row.keep hk, h.len, fun r hr => (h.each r hr).keep hk, h.wf⟩
theorem RdNs.more (h : RdNs w B A n ns) (hB : B ≤ B') : RdNs w B' A n ns := ⟨h.row.more hB, h.len, fun r hr => (h.each r hr).more hB, h.wf⟩
theorem RdNs.below (h : RdNs w B A n ns) (hb : Below B w w') : RdNs w' B A n ns := h.keep fun _ hp => hb.cell hp
/-- the k-th node: where its cells lie -/
theorem RdNs.nd (h : RdNs w B A n ns) {k : Nat} (hk : k < n) :
    ∃ b off i, A = some ⟨b, off, none⟩ ∧ b < B ∧ Hid (ns[k]? = some i) ∧ Hid (RdN w B i) ∧ Hid (WfN i.nd) ∧ w.cell? ⟨b, off + k * 12, none⟩ = some (.int .u8 i.nd.op) ∧ w.cell? ⟨b, off + k * 12 + 1, none⟩ = some (.int .u8 i.nd.bop) ∧ w.cell? ⟨b, off + k * 12 + 2, none⟩ = some (.int .i64 i.nd.d) ∧ w.cell? ⟨b, off + k * 12 + 3, none⟩ = some (.int .i64 i.nd.e) ∧ w.cell? ⟨b, off + k * 12 + 4, none⟩ = some (.int .i64 i.nd.a) ∧ w.cell? ⟨b, off + k * 12 + 5, none⟩ = some (.int .i64 i.nd.b) ∧ w.cell? ⟨b, off + k * 12 + 6, none⟩ = some (.int .i64 i.nd.f) ∧ w.cell? ⟨b, off + k * 12 + 7, none⟩ = some (.int .i64 i.nd.cell) ∧ w.cell? ⟨b, off + k * 12 + 8, none⟩ = some (.int .u64 i.nd.imm) ∧ w.cell? ⟨b, off + k * 12 + 9, none⟩ = some (.slice i.ao i.nd.args.length i.ac) ∧ w.cell? ⟨b, off + k * 12 + 10, none⟩ = some (.int .i64 i.nd.next) ∧ w.cell? ⟨b, off + k * 12 + 11, none⟩ = some (.int .i64 i.nd.els) := by
  obtain ⟨b, off, rfl, hb, hc⟩ := h.row.lit (by omega) (by omega)
  have hl : k < ns.length := by have := h.len; omega
  have hm := List.getElem_mem hl
  obtain ⟨h0, h1, h2, h3, h4, h5, h6, h7, h8, h9, h10, h11⟩ := rnc_at (List.getElem?_eq_getElem hl)
  exact ⟨b, off, ns[k], rfl, hb, List.getElem?_eq_getElem hl, h.each _ hm, h.wf _ hm, hc _ _ h0, by rw [Nat.add_assoc]; exact hc _ _ h1, by rw [Nat.add_assoc]; exact hc _ _ h2, by rw [Nat.add_assoc]; exact hc _ _ h3, by rw [Nat.add_assoc]; exact hc _ _ h4, by rw [Nat.add_assoc]; exact hc _ _ h5, by rw [Nat.add_assoc]; exact hc _ _ h6, by rw [Nat.add_assoc]; exact hc _ _ h7, by rw [Nat.add_assoc]; exact hc _ _ h8, by rw [Nat.add_assoc]; exact hc _ _ h9, by rw [Nat.add_assoc]; exact hc _ _ h10, by rw [Nat.add_assoc]; exact hc _ _ h11⟩
end
/-- A graph in memory: its data, where its rows lie. -/
structure RG where
  gr : Gr
  po : Option Addr
  pc : Nat
  ko : Option Addr
  kc : Nat
  io : Option Addr
  ic : Nat
  no : Option Addr
  nc : Nat
  ns : List RN
def rgOne (r : RG) : List Value := [.slice r.po r.gr.params.length r.pc, .slice r.ko r.gr.kinds.length r.kc, .int .i64 r.gr.cells, .slice r.io r.gr.init.length r.ic, .bool r.gr.result, .int .i64 r.gr.keep, .slice r.no r.gr.nodes.length r.nc, .int .i64 r.gr.entry]
def rgc (l : List RG) : List Value := l.flatMap rgOne
theorem length_rgc (l : List RG) : (rgc l).length = l.length * 8 := by
  induction l with
  | nil => rfl
  | cons p l ih => unfold rgc at *; rw [List.flatMap_cons, List.length_append, ih]; simp [rgOne]; omega
theorem rgc_append (a b : List RG) : rgc (a ++ b) = rgc a ++ rgc b := by simp [rgc]
theorem rgOne_one (x : RG) : ∀ u ∈ rgOne x, u.oneCell' = true := by
  intro u hu
  simp [rgOne] at hu
  rcases hu with rfl | rfl | rfl | rfl | rfl | rfl | rfl | rfl <;> rfl
theorem rgc_one (l : List RG) : ∀ u ∈ rgc l, u.oneCell' = true := by
  intro u hu
  simp only [rgc, List.mem_flatMap] at hu
  obtain ⟨p, _, hu⟩ := hu
  exact rgOne_one p u hu
theorem rgc_at {l : List RG} {k : Nat} {r : RG} (h : l[k]? = some r) : (rgc l)[k * 8]? = some (.slice r.po r.gr.params.length r.pc) ∧ (rgc l)[k * 8 + 1]? = some (.slice r.ko r.gr.kinds.length r.kc) ∧ (rgc l)[k * 8 + 2]? = some (.int .i64 r.gr.cells) ∧ (rgc l)[k * 8 + 3]? = some (.slice r.io r.gr.init.length r.ic) ∧ (rgc l)[k * 8 + 4]? = some (.bool r.gr.result) ∧ (rgc l)[k * 8 + 5]? = some (.int .i64 r.gr.keep) ∧ (rgc l)[k * 8 + 6]? = some (.slice r.no r.gr.nodes.length r.nc) ∧ (rgc l)[k * 8 + 7]? = some (.int .i64 r.gr.entry) := by
  refine ⟨?_, ?_, ?_, ?_, ?_, ?_, ?_, ?_⟩
  · exact flat_at rgOne 8 (fun _ => rfl) l k 0 r h (by omega)
  · exact flat_at rgOne 8 (fun _ => rfl) l k 1 r h (by omega)
  · exact flat_at rgOne 8 (fun _ => rfl) l k 2 r h (by omega)
  · exact flat_at rgOne 8 (fun _ => rfl) l k 3 r h (by omega)
  · exact flat_at rgOne 8 (fun _ => rfl) l k 4 r h (by omega)
  · exact flat_at rgOne 8 (fun _ => rfl) l k 5 r h (by omega)
  · exact flat_at rgOne 8 (fun _ => rfl) l k 6 r h (by omega)
  · exact flat_at rgOne 8 (fun _ => rfl) l k 7 r h (by omega)
/-- what a graph's numbers may be, how long its rows -/
structure WfG (g : Gr) : Prop where
  params : ∀ x ∈ g.params, I64 x
  kinds : Byt g.kinds
  cells : I64 g.cells
  init : ∀ x ∈ g.init, I64 x
  keep : I64 g.keep
  nodes : ∀ i ∈ g.nodes, WfN i
  entry : I64 g.entry
  pl : g.params.length * 8 ≤ 140737488351232
  kl : g.kinds.length ≤ 140737488351232
  il : g.init.length * 8 ≤ 140737488351232
  nl : g.nodes.length * 104 ≤ 140737488351232
/-- a graph's rows read as its data -/
structure RdG (w : World) (B : Nat) (r : RG) : Prop where
  params : Reads w B 1 r.po r.gr.params.length (i64c r.gr.params)
  kinds : Reads w B 1 r.ko r.gr.kinds.length (u8c r.gr.kinds)
  init : Reads w B 1 r.io r.gr.init.length (i64c r.gr.init)
  nodes : RdNs w B r.no r.gr.nodes.length r.ns
  nd : nds r.ns = r.gr.nodes
  pcap : r.gr.params.length ≤ r.pc
/-- Graphs in memory: n of them at A. -/
structure RdP (w : World) (B : Nat) (A : Option Addr) (n : Nat) (rs : List RG) : Prop where
  row : Reads w B 8 A n (rgc rs)
  len : rs.length = n
  each : ∀ r ∈ rs, RdG w B r
  wf : ∀ r ∈ rs, WfG r.gr
  sz : n * 128 ≤ 140737488351232
def grs (rs : List RG) : List Gr := rs.map RG.gr
theorem grs_append (a b : List RG) : grs (a ++ b) = grs a ++ grs b := by simp [grs]
theorem length_grs (rs : List RG) : (grs rs).length = rs.length := by simp [grs]
section
variable {w w' : World} {B B' n : Nat} {A : Option Addr} {rs : List RG} {r : RG}
theorem RdG.keep (h : RdG w B r) (hk : ∀ p : Addr, p.block < B → w'.cell? p = w.cell? p) : RdG w' B r := ⟨h.params.keep hk, h.kinds.keep hk, h.init.keep hk, h.nodes.keep hk, h.nd, h.pcap⟩
theorem RdG.more (h : RdG w B r) (hB : B ≤ B') : RdG w B' r := ⟨h.params.more hB, h.kinds.more hB, h.init.more hB, h.nodes.more hB, h.nd, h.pcap⟩
theorem RdG.below (h : RdG w B r) (hb : Below B w w') : RdG w' B r := h.keep fun _ hp => hb.cell hp
theorem RdP.keep (h : RdP w B A n rs) (hk : ∀ p : Addr, p.block < B → w'.cell? p = w.cell? p) : RdP w' B A n rs := ⟨h.row.keep hk, h.len, fun r hr => (h.each r hr).keep hk, h.wf, h.sz⟩
theorem RdP.more (h : RdP w B A n rs) (hB : B ≤ B') : RdP w B' A n rs := ⟨h.row.more hB, h.len, fun r hr => (h.each r hr).more hB, h.wf, h.sz⟩
theorem RdP.below (h : RdP w B A n rs) (hb : Below B w w') : RdP w' B A n rs := h.keep fun _ hp => hb.cell hp
theorem RdP.drewN (h : RdP w B A n rs) (k : Nat) : RdP (w.drewN k) B A n rs := h.keep fun _ _ => rfl
theorem RdP.alloc (h : RdP w B A n rs) (hB : B ≤ w.heap.size) (o : Obj) : RdP (w.alloc o) B A n rs := h.keep fun p hp => World.cell?_alloc_lt w o p (by omega)
/-- the k-th graph: where its cells lie -/
theorem RdP.gr (h : RdP w B A n rs) {k : Nat} (hk : k < n) :
    ∃ b off r, A = some ⟨b, off, none⟩ ∧ b < B ∧ Hid (rs[k]? = some r) ∧ Hid (RdG w B r) ∧ Hid (WfG r.gr) ∧ w.cell? ⟨b, off + k * 8, none⟩ = some (.slice r.po r.gr.params.length r.pc) ∧ w.cell? ⟨b, off + k * 8 + 1, none⟩ = some (.slice r.ko r.gr.kinds.length r.kc) ∧ w.cell? ⟨b, off + k * 8 + 2, none⟩ = some (.int .i64 r.gr.cells) ∧ w.cell? ⟨b, off + k * 8 + 3, none⟩ = some (.slice r.io r.gr.init.length r.ic) ∧ w.cell? ⟨b, off + k * 8 + 4, none⟩ = some (.bool r.gr.result) ∧ w.cell? ⟨b, off + k * 8 + 5, none⟩ = some (.int .i64 r.gr.keep) ∧ w.cell? ⟨b, off + k * 8 + 6, none⟩ = some (.slice r.no r.gr.nodes.length r.nc) ∧ w.cell? ⟨b, off + k * 8 + 7, none⟩ = some (.int .i64 r.gr.entry) := by
  obtain ⟨b, off, rfl, hb, hc⟩ := h.row.lit (by omega) (by omega)
  have hl : k < rs.length := by have := h.len; omega
  have hm := List.getElem_mem hl
  obtain ⟨h0, h1, h2, h3, h4, h5, h6, h7⟩ := rgc_at (List.getElem?_eq_getElem hl)
  exact ⟨b, off, rs[k], rfl, hb, List.getElem?_eq_getElem hl, h.each _ hm, h.wf _ hm, hc _ _ h0, by rw [Nat.add_assoc]; exact hc _ _ h1, by rw [Nat.add_assoc]; exact hc _ _ h2, by rw [Nat.add_assoc]; exact hc _ _ h3, by rw [Nat.add_assoc]; exact hc _ _ h4, by rw [Nat.add_assoc]; exact hc _ _ h5, by rw [Nat.add_assoc]; exact hc _ _ h6, by rw [Nat.add_assoc]; exact hc _ _ h7⟩
end
end Go.Proofs.Ytlnccpojldiogaa

/-
  Append at the types of the graphs's slices.
-/
namespace Go.Proofs.Ytlnccpojldiogaa
set_option linter.unusedVariables false
open Go.ChangeShapes Go.WideShapes Go.ChangeAt Go.RowKit

theorem Try.info67 : (Try.prog.info? 67).map (fun i => (i.zero, i.size, i.bytes)) = some (some (.int .u8 0), 1, 1) := by kernel_rfl
theorem Try.info3 : (Try.prog.info? 3).map (fun i => (i.zero, i.size, i.bytes)) = some (some (.int .i64 0), 1, 8) := by kernel_rfl
theorem Try.info45 : (Try.prog.info? 45).map (fun i => (i.zero, i.size, i.bytes)) = some (some (.agg #[.int .u8 0, .int .u8 0, .int .i64 0, .int .i64 0, .int .i64 0, .int .i64 0, .int .i64 0, .int .i64 0, .int .u64 0, .slice none 0 0, .int .i64 0, .int .i64 0]), 12, 104) := by kernel_rfl
theorem Try.info48 : (Try.prog.info? 48).map (fun i => (i.zero, i.size, i.bytes)) = some (some (.agg #[.slice none 0 0, .slice none 0 0, .int .i64 0, .slice none 0 0, .bool false, .int .i64 0, .slice none 0 0, .int .i64 0]), 8, 128) := by kernel_rfl

theorem one_reads (w : World) (t : TypeId) (cs : List Value) (size : Nat) (hs : cs.length = size) : Reads (w.alloc (.cells cs.toArray t)) (w.heap.size + 1) size (some ⟨w.heap.size, 0, none⟩) 1 cs :=
  ⟨by omega, fun _ => ⟨_, rfl, by simp, fun j u hj => by
    have ea : (⟨w.heap.size, 0, none⟩ : Addr).add j = ⟨w.heap.size, j, none⟩ := by simp [Addr.add]; exact Eq.symm
    rw [ea, (Blk.new w t _).cell]
    simpa using hj⟩⟩

theorem app_kind {w : World} {ops : Array Oper} {rest : List Oper} {o : Oper} {a : Act} {Q : Exit → Act → World → Prop} (hgd : o.guard = none) (s x : Operand)
    (ho : o.op = .call { callee := .builtin .append, args := #[s, x], argTypes := #[40, 40] }) (base : Nat)
    (v : Value) (n : Nat) (xs : List Value) (hs : a.eval s = v) (hown : w.ownsRow base 67 1 v n xs)
    (B : Nat) (A : Option Addr) (m c : Nat) (news : List Value) (hx : a.eval x = .slice A m c) (hr : Reads w B 1 A m news) (h1 : ∀ u ∈ news, u.oneCell' = true)
    (hbytes : (n + m) * 1 ≤ 140737488355328) (hbase : base ≤ w.heap.size)
    (h : ∀ v' w', w'.ownsRow base 67 1 v' (n + m) (xs ++ news) → w.grownBy w' v.ownBlock → (v'.ownBlock = v.ownBlock ∨ v'.ownBlock = some w.heap.size) → wpList Try.prog ops Q rest (a.put o.dst v') w') : wpList Try.prog ops Q (o :: rest) a w := by
  obtain ⟨i0, hi, hz0, hz1, hz2⟩ := info_parts Try.info67
  exact wpList_append_any w hgd s x _ ho base 67 i0 (.int .u8 0) 1 1 Try.underlying40 hi hz0 hz1 hz2 rfl (by decide) v n xs hs hown B A m c news hx hr h1 (by unfold maxLen; omega) hbytes hbase h
theorem step_kind {w : World} {ops : Array Oper} {o : Oper} {a : Act} {K : Act → World → Prop} {Q : Exit → Act → World → Prop} {E : Prop} (hgd : o.guard = none) (s x : Operand)
    (ho : o.op = .call { callee := .builtin .append, args := #[s, x], argTypes := #[40, 40] }) (base : Nat)
    (v : Value) (n : Nat) (xs : List Value) (hs : a.eval s = v) (hown : w.ownsRow base 67 1 v n xs)
    (B : Nat) (A : Option Addr) (m c : Nat) (news : List Value) (hx : a.eval x = .slice A m c) (hr : Reads w B 1 A m news) (h1 : ∀ u ∈ news, u.oneCell' = true)
    (hbytes : (n + m) * 1 ≤ 140737488355328) (hbase : base ≤ w.heap.size)
    (h : ∀ v' w', w'.ownsRow base 67 1 v' (n + m) (xs ++ news) → w.grownBy w' v.ownBlock → (v'.ownBlock = v.ownBlock ∨ v'.ownBlock = some w.heap.size) → K (a.put o.dst v') w') :
    if Region.wanted o (yielded ops a.tmps) = true then Oper.wp Try.prog o a w K Q else E := by
  obtain ⟨i0, hi, hz0, hz1, hz2⟩ := info_parts Try.info67
  exact step_append_any w hgd s x _ ho base 67 i0 (.int .u8 0) 1 1 Try.underlying40 hi hz0 hz1 hz2 rfl (by decide) v n xs hs hown B A m c news hx hr h1 (by unfold maxLen; omega) hbytes hbase h
theorem app_int {w : World} {ops : Array Oper} {rest : List Oper} {o : Oper} {a : Act} {Q : Exit → Act → World → Prop} (hgd : o.guard = none) (s x : Operand)
    (ho : o.op = .call { callee := .builtin .append, args := #[s, x], argTypes := #[43, 43] }) (base : Nat)
    (v : Value) (n : Nat) (xs : List Value) (hs : a.eval s = v) (hown : w.ownsRow base 3 1 v n xs)
    (B : Nat) (A : Option Addr) (m c : Nat) (news : List Value) (hx : a.eval x = .slice A m c) (hr : Reads w B 1 A m news) (h1 : ∀ u ∈ news, u.oneCell' = true)
    (hbytes : (n + m) * 8 ≤ 140737488355328) (hbase : base ≤ w.heap.size)
    (h : ∀ v' w', w'.ownsRow base 3 1 v' (n + m) (xs ++ news) → w.grownBy w' v.ownBlock → (v'.ownBlock = v.ownBlock ∨ v'.ownBlock = some w.heap.size) → wpList Try.prog ops Q rest (a.put o.dst v') w') : wpList Try.prog ops Q (o :: rest) a w := by
  obtain ⟨i0, hi, hz0, hz1, hz2⟩ := info_parts Try.info3
  exact wpList_append_any w hgd s x _ ho base 3 i0 (.int .i64 0) 1 8 Try.underlying43 hi hz0 hz1 hz2 rfl (by decide) v n xs hs hown B A m c news hx hr h1 (by unfold maxLen; omega) hbytes hbase h
theorem step_int {w : World} {ops : Array Oper} {o : Oper} {a : Act} {K : Act → World → Prop} {Q : Exit → Act → World → Prop} {E : Prop} (hgd : o.guard = none) (s x : Operand)
    (ho : o.op = .call { callee := .builtin .append, args := #[s, x], argTypes := #[43, 43] }) (base : Nat)
    (v : Value) (n : Nat) (xs : List Value) (hs : a.eval s = v) (hown : w.ownsRow base 3 1 v n xs)
    (B : Nat) (A : Option Addr) (m c : Nat) (news : List Value) (hx : a.eval x = .slice A m c) (hr : Reads w B 1 A m news) (h1 : ∀ u ∈ news, u.oneCell' = true)
    (hbytes : (n + m) * 8 ≤ 140737488355328) (hbase : base ≤ w.heap.size)
    (h : ∀ v' w', w'.ownsRow base 3 1 v' (n + m) (xs ++ news) → w.grownBy w' v.ownBlock → (v'.ownBlock = v.ownBlock ∨ v'.ownBlock = some w.heap.size) → K (a.put o.dst v') w') :
    if Region.wanted o (yielded ops a.tmps) = true then Oper.wp Try.prog o a w K Q else E := by
  obtain ⟨i0, hi, hz0, hz1, hz2⟩ := info_parts Try.info3
  exact step_append_any w hgd s x _ ho base 3 i0 (.int .i64 0) 1 8 Try.underlying43 hi hz0 hz1 hz2 rfl (by decide) v n xs hs hown B A m c news hx hr h1 (by unfold maxLen; omega) hbytes hbase h
theorem app_node {w : World} {ops : Array Oper} {rest : List Oper} {o : Oper} {a : Act} {Q : Exit → Act → World → Prop} (hgd : o.guard = none) (s x : Operand)
    (ho : o.op = .call { callee := .builtin .append, args := #[s, x], argTypes := #[46, 46] }) (base : Nat)
    (v : Value) (n : Nat) (xs : List Value) (hs : a.eval s = v) (hown : w.ownsRow base 45 12 v n xs)
    (B : Nat) (A : Option Addr) (m c : Nat) (news : List Value) (hx : a.eval x = .slice A m c) (hr : Reads w B 12 A m news) (h1 : ∀ u ∈ news, u.oneCell' = true)
    (hbytes : (n + m) * 104 ≤ 140737488355328) (hbase : base ≤ w.heap.size)
    (h : ∀ v' w', w'.ownsRow base 45 12 v' (n + m) (xs ++ news) → w.grownBy w' v.ownBlock → (v'.ownBlock = v.ownBlock ∨ v'.ownBlock = some w.heap.size) → wpList Try.prog ops Q rest (a.put o.dst v') w') : wpList Try.prog ops Q (o :: rest) a w := by
  obtain ⟨i0, hi, hz0, hz1, hz2⟩ := info_parts Try.info45
  exact wpList_append_any w hgd s x _ ho base 45 i0 (.agg #[.int .u8 0, .int .u8 0, .int .i64 0, .int .i64 0, .int .i64 0, .int .i64 0, .int .i64 0, .int .i64 0, .int .u64 0, .slice none 0 0, .int .i64 0, .int .i64 0]) 12 104 Try.underlying46 hi hz0 hz1 hz2 rfl (by decide) v n xs hs hown B A m c news hx hr h1 (by unfold maxLen; omega) hbytes hbase h
theorem step_node {w : World} {ops : Array Oper} {o : Oper} {a : Act} {K : Act → World → Prop} {Q : Exit → Act → World → Prop} {E : Prop} (hgd : o.guard = none) (s x : Operand)
    (ho : o.op = .call { callee := .builtin .append, args := #[s, x], argTypes := #[46, 46] }) (base : Nat)
    (v : Value) (n : Nat) (xs : List Value) (hs : a.eval s = v) (hown : w.ownsRow base 45 12 v n xs)
    (B : Nat) (A : Option Addr) (m c : Nat) (news : List Value) (hx : a.eval x = .slice A m c) (hr : Reads w B 12 A m news) (h1 : ∀ u ∈ news, u.oneCell' = true)
    (hbytes : (n + m) * 104 ≤ 140737488355328) (hbase : base ≤ w.heap.size)
    (h : ∀ v' w', w'.ownsRow base 45 12 v' (n + m) (xs ++ news) → w.grownBy w' v.ownBlock → (v'.ownBlock = v.ownBlock ∨ v'.ownBlock = some w.heap.size) → K (a.put o.dst v') w') :
    if Region.wanted o (yielded ops a.tmps) = true then Oper.wp Try.prog o a w K Q else E := by
  obtain ⟨i0, hi, hz0, hz1, hz2⟩ := info_parts Try.info45
  exact step_append_any w hgd s x _ ho base 45 i0 (.agg #[.int .u8 0, .int .u8 0, .int .i64 0, .int .i64 0, .int .i64 0, .int .i64 0, .int .i64 0, .int .i64 0, .int .u64 0, .slice none 0 0, .int .i64 0, .int .i64 0]) 12 104 Try.underlying46 hi hz0 hz1 hz2 rfl (by decide) v n xs hs hown B A m c news hx hr h1 (by unfold maxLen; omega) hbytes hbase h
theorem app_graph {w : World} {ops : Array Oper} {rest : List Oper} {o : Oper} {a : Act} {Q : Exit → Act → World → Prop} (hgd : o.guard = none) (s x : Operand)
    (ho : o.op = .call { callee := .builtin .append, args := #[s, x], argTypes := #[22, 22] }) (base : Nat)
    (v : Value) (n : Nat) (xs : List Value) (hs : a.eval s = v) (hown : w.ownsRow base 48 8 v n xs)
    (B : Nat) (A : Option Addr) (m c : Nat) (news : List Value) (hx : a.eval x = .slice A m c) (hr : Reads w B 8 A m news) (h1 : ∀ u ∈ news, u.oneCell' = true)
    (hbytes : (n + m) * 128 ≤ 140737488355328) (hbase : base ≤ w.heap.size)
    (h : ∀ v' w', w'.ownsRow base 48 8 v' (n + m) (xs ++ news) → w.grownBy w' v.ownBlock → (v'.ownBlock = v.ownBlock ∨ v'.ownBlock = some w.heap.size) → wpList Try.prog ops Q rest (a.put o.dst v') w') : wpList Try.prog ops Q (o :: rest) a w := by
  obtain ⟨i0, hi, hz0, hz1, hz2⟩ := info_parts Try.info48
  exact wpList_append_any w hgd s x _ ho base 48 i0 (.agg #[.slice none 0 0, .slice none 0 0, .int .i64 0, .slice none 0 0, .bool false, .int .i64 0, .slice none 0 0, .int .i64 0]) 8 128 Try.underlying22 hi hz0 hz1 hz2 rfl (by decide) v n xs hs hown B A m c news hx hr h1 (by unfold maxLen; omega) hbytes hbase h
theorem step_graph {w : World} {ops : Array Oper} {o : Oper} {a : Act} {K : Act → World → Prop} {Q : Exit → Act → World → Prop} {E : Prop} (hgd : o.guard = none) (s x : Operand)
    (ho : o.op = .call { callee := .builtin .append, args := #[s, x], argTypes := #[22, 22] }) (base : Nat)
    (v : Value) (n : Nat) (xs : List Value) (hs : a.eval s = v) (hown : w.ownsRow base 48 8 v n xs)
    (B : Nat) (A : Option Addr) (m c : Nat) (news : List Value) (hx : a.eval x = .slice A m c) (hr : Reads w B 8 A m news) (h1 : ∀ u ∈ news, u.oneCell' = true)
    (hbytes : (n + m) * 128 ≤ 140737488355328) (hbase : base ≤ w.heap.size)
    (h : ∀ v' w', w'.ownsRow base 48 8 v' (n + m) (xs ++ news) → w.grownBy w' v.ownBlock → (v'.ownBlock = v.ownBlock ∨ v'.ownBlock = some w.heap.size) → K (a.put o.dst v') w') :
    if Region.wanted o (yielded ops a.tmps) = true then Oper.wp Try.prog o a w K Q else E := by
  obtain ⟨i0, hi, hz0, hz1, hz2⟩ := info_parts Try.info48
  exact step_append_any w hgd s x _ ho base 48 i0 (.agg #[.slice none 0 0, .slice none 0 0, .int .i64 0, .slice none 0 0, .bool false, .int .i64 0, .slice none 0 0, .int .i64 0]) 8 128 Try.underlying22 hi hz0 hz1 hz2 rfl (by decide) v n xs hs hown B A m c news hx hr h1 (by unfold maxLen; omega) hbytes hbase h
/-- what an append onto a row of the call's own leaves of any other row of the call's own, of other elements -/
theorem own_grown {w w' : World} {b1 b2 s1 s2 n1 n2 : Nat} {e1 e2 : TypeId} {v1 v2 : Value} {x1 x2 : List Value} (h1 : w.ownsRow b1 e1 s1 v1 n1 x1) (h2 : w.ownsRow b2 e2 s2 v2 n2 x2) (hg : w.grownBy w' v1.ownBlock) (hne : e2 ≠ e1) : w'.ownsRow b2 e2 s2 v2 n2 x2 := by
  refine own_kept h2 fun i hi => hg.block i (own_block_le h2 hi).2 fun e => ?_
  rcases h1.2 with ⟨rfl, _⟩ | ⟨g, cap, cur, rfl, _, hb, _⟩
  · simp [Value.ownBlock] at e
  · have : i = g := by simpa [Value.ownBlock] using e
    subst this
    exact own_blk_ne h2 (t := e1) (cs := cur) hb hne hi
theorem fits_app {n m b : Nat} (h : n + m ≤ 1048576) (hb : b ≤ 72) : (n + m) * b ≤ 140737488355328 :=
  Nat.le_trans (Nat.mul_le_mul h hb) (by omega)
end Go.Proofs.Ytlnccpojldiogaa

/-
  Rows of the call's own beside other blocks.
-/
namespace Go.Proofs.Ytlnccpojldiogaa
set_option linter.unusedVariables false
open Go.ChangeShapes Go.WideShapes Go.ChangeAt Go.RowKit

theorem own_far {w : World} {base size n p : Nat} {e t : TypeId} {v : Value} {xs : List Value} {cs : Array Value} (h : w.ownsRow base e size v n xs) (hb : Blk w p t cs) (hne : e ≠ t) (i : Nat) (u : Value) : (w.setCell ⟨p, i, none⟩ u).ownsRow base e size v n xs :=
  own_kept h fun j hj => Below.heap_setCell _ _ _ _ fun hij => own_blk_ne h hb hne (by rw [hj, hij])
theorem own_alloc {w : World} {base size n : Nat} {e : TypeId} {v : Value} {xs : List Value} (h : w.ownsRow base e size v n xs) (o : Obj) : (w.alloc o).ownsRow base e size v n xs := h.alloc o
theorem blk_grown {w w' : World} {base size n p : Nat} {e t : TypeId} {v : Value} {xs : List Value} {cs : Array Value} (hb : Blk w p t cs) (h : w.ownsRow base e size v n xs) (hg : w.grownBy w' v.ownBlock) (hne : e ≠ t) : Blk w' p t cs :=
  hb.grown hg fun e' => own_blk_ne h hb hne e'.symm

end Go.Proofs.Ytlnccpojldiogaa

/-
  Words, and what package word makes of them: the error, the value.
-/
namespace Go.Proofs.Ytlnccpojldiogaa
set_option linter.unusedVariables false
open Go.ChangeShapes Go.WideShapes Go.ChangeAt Go.RowKit

/-- a word: an integer from 0 to 2^64 - 1 -/
def isW (a : Int) : Prop := 0 ≤ a ∧ a < 18446744073709551616
def wadd (a b : Int) : Int := IntKind.u64.wrap (a + b)
def wsub (a b : Int) : Int := IntKind.u64.wrap (a - b)
def wmul (a b : Int) : Int := IntKind.u64.wrap (a * b)
def wand (a b : Int) : Int := bits BinOp.and IntKind.u64 a b
def wor (a b : Int) : Int := bits BinOp.or IntKind.u64 a b
def wxor (a b : Int) : Int := bits BinOp.xor IntKind.u64 a b
def wdiv (a b : Int) : Int := IntKind.u64.wrap (wrap64 ((wrap64 a).tdiv (wrap64 b)))
def wrem (a b : Int) : Int := IntKind.u64.wrap ((wrap64 a).tmod (wrap64 b))
def wshl (a b : Int) : Int := IntKind.u64.wrap (a * 2 ^ min b.toNat 64)
def wshr (a b : Int) : Int := a / 2 ^ min b.toNat 64
def wsar (a b : Int) : Int := IntKind.u64.wrap (wrap64 a / 2 ^ min b.toNat 64)
def wbit (b : Bool) : Int := if b then 1 else 0
def weq (a b : Int) : Int := wbit (a == b)
def wlt (a b : Int) : Int := wbit (decide (wrap64 a < wrap64 b))
def wbe (a b : Int) : Int := wbit (decide (a < b))

theorem wrap_u64_eq (n : Int) : IntKind.u64.wrap n = n % 18446744073709551616 := IntKind.wrap_u64 n
theorem wrap64_eq (n : Int) : wrap64 n = (n + 9223372036854775808) % 18446744073709551616 - 9223372036854775808 := by unfold wrap64; rfl

/-! ### Bits -/
theorem wrap64_ne {b : Int} (hb : isW b) (h : ¬ b = 0) : ¬ wrap64 b = 0 := by
  unfold isW at hb
  rw [wrap64_eq]
  omega
/-- the ending with a word and an error -/
def wend (v : Int) (e : Int) : Ending := .returned (.tuple #[.int .u64 v, .int .i64 e])

theorem do_add (a b : Int) (w : World) : Calls Try.prog 121 #[.int .u8 7, .int .u64 a, .int .u64 b] w fun e w' => e = wend (wadd a b) 0 ∧ w = w' := by
  go_enter Try.func121, Try.ntmps121
  go_wp2
  go_ret2
  exact ⟨rfl, rfl⟩
theorem do_sub (a b : Int) (w : World) : Calls Try.prog 121 #[.int .u8 8, .int .u64 a, .int .u64 b] w fun e w' => e = wend (wsub a b) 0 ∧ w = w' := by
  go_enter Try.func121, Try.ntmps121
  go_wp2
  go_ret2
  exact ⟨rfl, rfl⟩
theorem do_mul (a b : Int) (w : World) : Calls Try.prog 121 #[.int .u8 9, .int .u64 a, .int .u64 b] w fun e w' => e = wend (wmul a b) 0 ∧ w = w' := by
  go_enter Try.func121, Try.ntmps121
  go_wp2
  go_ret2
  exact ⟨rfl, rfl⟩
theorem do_and (a b : Int) (w : World) : Calls Try.prog 121 #[.int .u8 12, .int .u64 a, .int .u64 b] w fun e w' => e = wend (wand a b) 0 ∧ w = w' := by
  go_enter Try.func121, Try.ntmps121
  go_wp2
  go_ret2
  exact ⟨rfl, rfl⟩
theorem do_or (a b : Int) (w : World) : Calls Try.prog 121 #[.int .u8 13, .int .u64 a, .int .u64 b] w fun e w' => e = wend (wor a b) 0 ∧ w = w' := by
  go_enter Try.func121, Try.ntmps121
  go_wp2
  go_ret2
  exact ⟨rfl, rfl⟩
theorem do_xor (a b : Int) (w : World) : Calls Try.prog 121 #[.int .u8 14, .int .u64 a, .int .u64 b] w fun e w' => e = wend (wxor a b) 0 ∧ w = w' := by
  go_enter Try.func121, Try.ntmps121
  go_wp2
  go_ret2
  exact ⟨rfl, rfl⟩
theorem do_div0 (a : Int) (w : World) : Calls Try.prog 121 #[.int .u8 10, .int .u64 a, .int .u64 0] w fun e w' => e = wend 0 10 ∧ w = w' := by
  go_enter Try.func121, Try.ntmps121
  go_wp2
  go_ret2
  exact ⟨rfl, rfl⟩
theorem do_rem0 (a : Int) (w : World) : Calls Try.prog 121 #[.int .u8 11, .int .u64 a, .int .u64 0] w fun e w' => e = wend 0 10 ∧ w = w' := by
  go_enter Try.func121, Try.ntmps121
  go_wp2
  go_ret2
  exact ⟨rfl, rfl⟩
theorem do_div (a b : Int) (w : World) (hb : (b == 0) = false) (hc : ¬ wrap64 b = 0) : Calls Try.prog 121 #[.int .u8 10, .int .u64 a, .int .u64 b] w fun e w' => e = wend (wdiv a b) 0 ∧ w = w' := by
  go_enter Try.func121, Try.ntmps121
  go_wp2
  go_ret2
  exact ⟨rfl, rfl⟩
theorem do_rem (a b : Int) (w : World) (hb : (b == 0) = false) (hc : ¬ wrap64 b = 0) : Calls Try.prog 121 #[.int .u8 11, .int .u64 a, .int .u64 b] w fun e w' => e = wend (wrem a b) 0 ∧ w = w' := by
  go_enter Try.func121, Try.ntmps121
  go_wp2
  go_ret2
  exact ⟨rfl, rfl⟩
theorem do_shl (a b : Int) (w : World) (h0 : 0 ≤ b) : Calls Try.prog 121 #[.int .u8 15, .int .u64 a, .int .u64 b] w fun e w' => e = wend (wshl a b) 0 ∧ w = w' := by
  go_enter Try.func121, Try.ntmps121
  go_wp2
  go_ret2
  exact ⟨rfl, rfl⟩
theorem do_shr (a b : Int) (w : World) (h0 : 0 ≤ b) : Calls Try.prog 121 #[.int .u8 16, .int .u64 a, .int .u64 b] w fun e w' => e = wend (wshr a b) 0 ∧ w = w' := by
  go_enter Try.func121, Try.ntmps121
  go_wp2
  go_ret2
  exact ⟨rfl, rfl⟩
theorem do_sar (a b : Int) (w : World) (h0 : 0 ≤ b) : Calls Try.prog 121 #[.int .u8 17, .int .u64 a, .int .u64 b] w fun e w' => e = wend (wsar a b) 0 ∧ w = w' := by
  go_enter Try.func121, Try.ntmps121
  go_wp2
  go_ret2
  exact ⟨rfl, rfl⟩
theorem do_eq (a b : Int) (w : World) : Calls Try.prog 121 #[.int .u8 18, .int .u64 a, .int .u64 b] w fun e w' => e = wend (weq a b) 0 ∧ w = w' := by
  cases h : (a == b)
  all_goals
    have hv : Hid (weq a b = wbit (a == b)) := rfl
    rw [h] at hv
    go_enter Try.func121, Try.ntmps121
    go_wp2
    go_ret2
    exact ⟨by rw [hv]; rfl, rfl⟩
theorem do_lt (a b : Int) (w : World) : Calls Try.prog 121 #[.int .u8 19, .int .u64 a, .int .u64 b] w fun e w' => e = wend (wlt a b) 0 ∧ w = w' := by
  cases h : decide (wrap64 a < wrap64 b)
  all_goals
    have hv : Hid (wlt a b = wbit (decide (wrap64 a < wrap64 b))) := rfl
    rw [h] at hv
    go_enter Try.func121, Try.ntmps121
    go_wp2
    go_ret2
    exact ⟨by rw [hv]; rfl, rfl⟩
theorem do_be (a b : Int) (w : World) : Calls Try.prog 121 #[.int .u8 20, .int .u64 a, .int .u64 b] w fun e w' => e = wend (wbe a b) 0 ∧ w = w' := by
  cases h : decide (a < b)
  all_goals
    have hv : Hid (wbe a b = wbit (decide (a < b))) := rfl
    rw [h] at hv
    go_enter Try.func121, Try.ntmps121
    go_wp2
    go_ret2
    exact ⟨by rw [hv]; rfl, rfl⟩

/-- the error of an operation, and what it makes -/
def doE (op b : Int) : Int := if (op = 10 ∨ op = 11) ∧ b = 0 then 10 else 0
def doV (op a b : Int) : Int :=
  if op = 7 then wadd a b else if op = 8 then wsub a b else if op = 9 then wmul a b
  else if op = 10 then (if b = 0 then 0 else wdiv a b) else if op = 11 then (if b = 0 then 0 else wrem a b)
  else if op = 12 then wand a b else if op = 13 then wor a b else if op = 14 then wxor a b
  else if op = 15 then wshl a b else if op = 16 then wshr a b else if op = 17 then wsar a b
  else if op = 18 then weq a b else if op = 19 then wlt a b else wbe a b
theorem do_any (op a b : Int) (w : World) (h7 : 7 ≤ op) (h20 : op ≤ 20) (hb : isW b) : Calls Try.prog 121 #[.int .u8 op, .int .u64 a, .int .u64 b] w fun e w' => e = wend (doV op a b) (doE op b) ∧ w = w' := by
  have h0 := hb.1
  obtain rfl | rfl | rfl | rfl | rfl | rfl | rfl | rfl | rfl | rfl | rfl | rfl | rfl | rfl : op = 7 ∨ op = 8 ∨ op = 9 ∨ op = 10 ∨ op = 11 ∨ op = 12 ∨ op = 13 ∨ op = 14 ∨ op = 15 ∨ op = 16 ∨ op = 17 ∨ op = 18 ∨ op = 19 ∨ op = 20 := by omega
  · exact do_add a b w
  · exact do_sub a b w
  · exact do_mul a b w
  · by_cases h : b = 0
    · subst h; exact do_div0 a w
    · rw [show doV 10 a b = wdiv a b by simp [doV, h], show doE 10 b = 0 by simp [doE, h]]
      exact do_div a b w (by simpa using h) (wrap64_ne hb h)
  · by_cases h : b = 0
    · subst h; exact do_rem0 a w
    · rw [show doV 11 a b = wrem a b by simp [doV, h], show doE 11 b = 0 by simp [doE, h]]
      exact do_rem a b w (by simpa using h) (wrap64_ne hb h)
  · exact do_and a b w
  · exact do_or a b w
  · exact do_xor a b w
  · exact do_shl a b w h0
  · exact do_shr a b w h0
  · exact do_sar a b w h0
  · exact do_eq a b w
  · exact do_lt a b w
  · exact do_be a b w
end Go.Proofs.Ytlnccpojldiogaa

/-
  Memory by roles: every block of the call's own has a role (a number); what touches the blocks of some roles leaves those of all others.
-/
namespace Go.Proofs.Ytlnccpojldiogaa
set_option linter.unusedVariables false
set_option linter.unusedSimpArgs false
open Go.ChangeShapes Go.WideShapes Go.ChangeAt Go.RowKit

/-- blocks of the roles in ex may have turned, no other old one; old blocks keep their roles -/
structure Kr (ex : Nat → Prop) (ow ow' : Nat → Nat) (W W' : World) : Prop where
  os : W'.os = W.os
  tape : W'.tape = W.tape
  output : W'.output = W.output
  size : W.heap.size ≤ W'.heap.size
  block : ∀ i, i < W.heap.size → ¬ ex (ow i) → W'.heap[i]? = W.heap[i]?
  old : ∀ i, i < W.heap.size → ow' i = ow i
/-- a block of a role -/
structure OB (W : World) (ow : Nat → Nat) (base r g : Nat) (t : TypeId) (cs : Array Value) : Prop where
  blk : Blk W g t cs
  role : ow g = r
  le : base ≤ g
/-- a row of a role -/
structure OR (W : World) (ow : Nat → Nat) (base r : Nat) (e : TypeId) (size : Nat) (v : Value) (n : Nat) (xs : List Value) : Prop where
  own : W.ownsRow base e size v n xs
  role : ∀ g, v.ownBlock = some g → ow g = r
/-- these roles -/
def e1 (r : Nat) : Nat → Prop := fun x => x = r
def e2 (a b : Nat) : Nat → Prop := fun x => x = a ∨ x = b
theorem ne1 {r x : Nat} (h : x ≠ r) : ¬ e1 r x := h
theorem ne2 {a b x : Nat} (h : x ≠ a) (h' : x ≠ b) : ¬ e2 a b x := fun hx => hx.elim h h'
/-- new blocks are of role r -/
def up (ow : Nat → Nat) (n r : Nat) : Nat → Nat := fun g => if g < n then ow g else r
theorem up_old {ow : Nat → Nat} {n r g : Nat} (h : g < n) : up ow n r g = ow g := if_pos h
theorem up_new {ow : Nat → Nat} {n r g : Nat} (h : n ≤ g) : up ow n r g = r := if_neg (by omega)
section
variable {ex ex' : Nat → Prop} {ow ow' ow2 : Nat → Nat} {W W' W1 W2 w8 : World} {base r rb g n m k size c i : Nat} {t e : TypeId} {cs : Array Value} {v v8 : Value} {xs news : List Value} {A : Option Addr}
theorem own_lt' {w : World} (h : w.ownsRow base e size v n xs) (hg : v.ownBlock = some g) : base ≤ g ∧ g < w.heap.size := own_block_le h hg
theorem Kr.refl (ow : Nat → Nat) (W : World) (ex : Nat → Prop) : Kr ex ow ow W W := ⟨rfl, rfl, rfl, Nat.le_refl _, fun _ _ _ => rfl, fun _ _ => rfl⟩
theorem Kr.wider (h : Kr ex ow ow' W W') (he : ∀ x, ex x → ex' x) : Kr ex' ow ow' W W' := ⟨h.os, h.tape, h.output, h.size, fun i hi hn => h.block i hi fun hx => hn (he _ hx), h.old⟩
theorem Kr.trans (h : Kr ex ow ow' W W1) (k : Kr ex ow' ow2 W1 W2) : Kr ex ow ow2 W W2 :=
  ⟨k.os.trans h.os, k.tape.trans h.tape, k.output.trans h.output, Nat.le_trans h.size k.size, fun i hi hn => (k.block i (Nat.lt_of_lt_of_le hi h.size) (by rw [h.old i hi]; exact hn)).trans (h.block i hi hn), fun i hi => (k.old i (Nat.lt_of_lt_of_le hi h.size)).trans (h.old i hi)⟩
theorem Kr.of_below (h : Below W.heap.size W W') (ow : Nat → Nat) (ex : Nat → Prop) : Kr ex ow ow W W' := ⟨h.os, h.tape, h.output, h.size, fun i hi _ => h.block i hi, fun _ _ => rfl⟩
/-- new blocks alone, of a role -/
theorem Kr.of_new (h : Below W.heap.size W W') (ow : Nat → Nat) (r : Nat) (ex : Nat → Prop) : Kr ex ow (up ow W.heap.size r) W W' := ⟨h.os, h.tape, h.output, h.size, fun i hi _ => h.block i hi, fun i hi => up_old hi⟩
theorem Kr.drew (h : Kr ex ow ow' W W') : Kr ex ow ow' W W'.drew := ⟨h.os, h.tape, h.output, h.size, h.block, h.old⟩
theorem OB.kr (h : OB W ow base r g t cs) (k : Kr ex ow ow' W W') (hr : ¬ ex r) : OB W' ow' base r g t cs :=
  ⟨(k.block g h.blk.lt (by rw [h.role]; exact hr)).trans h.blk, (k.old g h.blk.lt).trans h.role, h.le⟩
theorem OR.kr (h : OR W ow base r e size v n xs) (k : Kr ex ow ow' W W') (hr : ¬ ex r) : OR W' ow' base r e size v n xs :=
  ⟨own_kept h.own fun i hi => k.block i (own_lt' h.own hi).2 (by rw [h.role i hi]; exact hr), fun g hg => (k.old g (own_lt' h.own hg).2).trans (h.role g hg)⟩
theorem Kr.set (h : OB W ow base r g t cs) (i : Nat) (u : Value) : Kr (e1 r) ow ow W (W.setCell ⟨g, i, none⟩ u) :=
  ⟨rfl, rfl, rfl, by simp [World.setCell], fun j hj hn => Below.heap_setCell W ⟨g, i, none⟩ u j (by rintro rfl; exact hn h.role), fun _ _ => rfl⟩
theorem OB.set_ (h : OB W ow base r g t cs) (i : Nat) (u : Value) : OB (W.setCell ⟨g, i, none⟩ u) ow base r g t (cs.setIfInBounds i u) := ⟨h.blk.set_ i u, h.role, h.le⟩
theorem Kr.below {w0 : World} (h : Below base w0 W) (k : Kr ex ow ow' W W') (hb : base ≤ W.heap.size) (he : ∀ i, i < base → ¬ ex (ow i)) : Below base w0 W' :=
  ⟨k.os.trans h.os, k.tape.trans h.tape, k.output.trans h.output, Nat.le_trans h.size k.size, fun i hi => (k.block i (by omega) (he i hi)).trans (h.block i hi)⟩
theorem OR.slice (h : OR W ow base r e size v n xs) : ∃ A c, v = .slice A n c := own_slice h.own
theorem OR.len (h : OR W ow base r e size v n xs) : xs.length = n * size := h.own.1
/-- a row is cut -/
theorem own_cut (h : W.ownsRow base e size (.slice A n c) n xs) (hk : k ≤ n) : W.ownsRow base e size (.slice A k c) k (xs.take (k * size)) := by
  have hl := h.1
  refine ⟨by rw [List.length_take, hl]; exact Nat.min_eq_left (Nat.mul_le_mul_right _ hk), ?_⟩
  rcases h.2 with ⟨he, h0⟩ | ⟨g, cap, cur, he, hb, hh, hnc, hcm, hcs, hx⟩
  · injection he with h1 h2 h3
    subst h1 h3
    have : k = 0 := by omega
    subst this
    exact .inl ⟨rfl, rfl⟩
  · injection he with h1 h2 h3
    subst h1 h3
    refine .inr ⟨g, c, cur, rfl, hb, hh, by omega, hcm, hcs, ?_⟩
    rw [← hx, List.take_take, Nat.min_eq_left (Nat.mul_le_mul_right _ hk)]
theorem OR.cut (h : OR W ow base r e size (.slice A n c) n xs) (hk : k ≤ n) : OR W ow base r e size (.slice A k c) k (xs.take (k * size)) := ⟨own_cut h.own hk, fun g hg => h.role g (by
  cases A with
  | none => cases hg
  | some a => exact hg)⟩
/-- .. and the cut row is laid into a struct -/
theorem cut_set (hB : OB W ow base rb g t cs) (hO : OR W ow base r e size (.slice A n c) n xs) (hr : r ≠ rb) (hk : k ≤ n) (i : Nat) :
    OB (W.setCell ⟨g, i, none⟩ (.slice A k c)) ow base rb g t (cs.setIfInBounds i (.slice A k c)) ∧ OR (W.setCell ⟨g, i, none⟩ (.slice A k c)) ow base r e size (.slice A k c) k (xs.take (k * size)) ∧ Kr (e1 rb) ow ow W (W.setCell ⟨g, i, none⟩ (.slice A k c)) :=
  ⟨hB.set_ i _, (hO.cut hk).kr (Kr.set hB i _) hr, Kr.set hB i _⟩
/-- a row grows: what is kept -/
theorem Kr.grown (hO : OR W ow base r e size v n xs) (hb : Below W.heap.size W W1) (hg : W1.grownBy w8 v.ownBlock) : Kr (e1 r) ow (up ow W.heap.size r) W w8 :=
  ⟨hg.os.trans hb.os, hg.tape.trans hb.tape, hg.output.trans hb.output, Nat.le_trans hb.size hg.size, fun i hi hn => (hg.block i (Nat.lt_of_lt_of_le hi hb.size) fun he => hn (hO.role i he.symm)).trans (hb.block i hi), fun i hi => up_old hi⟩
theorem OR.grown (hO : OR W ow base r e size v n xs) (hb : Below W.heap.size W W1) (hown : w8.ownsRow base e size v8 m news) (hor : v8.ownBlock = v.ownBlock ∨ ∃ q, v8.ownBlock = some q ∧ W.heap.size ≤ q) : OR w8 (up ow W.heap.size r) base r e size v8 m news :=
  ⟨hown, fun q hq => by
    rcases hor with h | ⟨q', h, hl⟩
    · rw [h] at hq
      rw [up_old (own_lt' hO.own hq).2]
      exact hO.role q hq
    · rw [h] at hq
      injection hq with hq
      subst hq
      exact up_new hl⟩
/-- a row grows, and is laid into a struct -/
theorem app_set (hB : OB W ow base rb g t cs) (hO : OR W ow base r e size v n xs) (hr : r ≠ rb) (hb : Below W.heap.size W W1) (hown : w8.ownsRow base e size v8 m news) (hg : W1.grownBy w8 v.ownBlock) (hor : v8.ownBlock = v.ownBlock ∨ v8.ownBlock = some W1.heap.size) (i : Nat) :
    Blk w8 g t cs ∧ OB (w8.setCell ⟨g, i, none⟩ v8) (up ow W.heap.size r) base rb g t (cs.setIfInBounds i v8) ∧ OR (w8.setCell ⟨g, i, none⟩ v8) (up ow W.heap.size r) base r e size v8 m news ∧ Kr (e2 r rb) ow (up ow W.heap.size r) W (w8.setCell ⟨g, i, none⟩ v8) := by
  have hk := Kr.grown hO hb hg
  have hB8 : OB w8 (up ow W.heap.size r) base rb g t cs := hB.kr hk (fun h => hr h.symm)
  have hO8 : OR w8 (up ow W.heap.size r) base r e size v8 m news := hO.grown hb hown (hor.imp (fun h => h) fun h => ⟨_, h, hb.size⟩)
  exact ⟨hB8.blk, hB8.set_ i _, hO8.kr (Kr.set hB8 i _) hr, (hk.wider fun x h => .inl h).trans ((Kr.set hB8 i _).wider fun x h => .inr h)⟩
/-- cells of words -/
def u64c (l : List Int) : List Value := l.map (Value.int .u64)
theorem length_u64c (l : List Int) : (u64c l).length = l.length := by simp [u64c]
theorem u64c_append (a b : List Int) : u64c (a ++ b) = u64c a ++ u64c b := by simp [u64c]
theorem u64c_take (l : List Int) (k : Nat) : (u64c l).take k = u64c (l.take k) := by simp [u64c, List.map_take]
theorem u64c_drop (l : List Int) (k : Nat) : (u64c l).drop k = u64c (l.drop k) := by simp [u64c, List.map_drop]
theorem u64c_at {l : List Int} {k : Nat} {x : Int} (h : l[k]? = some x) : (u64c l)[k]? = some (.int .u64 x) := by simp [u64c, h]
theorem u64c_one (l : List Int) : ∀ u ∈ u64c l, u.oneCell' = true := by
  intro u hu
  simp [u64c] at hu
  obtain ⟨x, _, rfl⟩ := hu
  rfl
/-- an element of a row is read -/
theorem OR.at_ {l : List Int} {x : Int} (h : OR W ow base r e 1 v n (u64c l)) (hx : l[k]? = some x) : ∃ q c, v = .slice (some ⟨q, 0, none⟩) n c ∧ base ≤ q ∧ q < W.heap.size ∧ W.cell? ⟨q, k, none⟩ = some (.int .u64 x) ∧ W.frozen? ⟨q, k, none⟩ = false := by
  have hn : k < n := by
    have h1 := h.own.1
    rw [length_u64c] at h1
    have := (List.getElem?_eq_some_iff.1 hx).1
    omega
  rcases h.own.2 with ⟨_, h0⟩ | ⟨q, cap, cur, he, hb, hh, hnc, hcm, hcs, hxs⟩
  · omega
  · have hbk : Blk W q e cur := hh
    refine ⟨q, cap, he, hb, hbk.lt, ?_, hbk.frozen k⟩
    rw [hbk.cell]
    have h2 : (cur.toList.take (n * 1))[k]? = some (.int .u64 x) := by rw [hxs]; exact u64c_at hx
    rw [List.getElem?_take, if_pos (by omega)] at h2
    rw [← Array.getElem?_toList]
    exact h2
/-- .. and written -/
theorem OR.put {l : List Int} {q : Nat} (h : OR W ow base r e 1 (.slice (some ⟨q, 0, none⟩) n c) n (u64c l)) (hk : k < n) (x : Int) :
    OR (W.setCell ⟨q, k, none⟩ (.int .u64 x)) ow base r e 1 (.slice (some ⟨q, 0, none⟩) n c) n (u64c (l.set k x)) ∧ Kr (e1 r) ow ow W (W.setCell ⟨q, k, none⟩ (.int .u64 x)) := by
  have hq : ow q = r := h.role q rfl
  refine ⟨⟨⟨by rw [length_u64c, List.length_set]; have := h.own.1; rwa [length_u64c] at this, ?_⟩, h.role⟩, ?_⟩
  · rcases h.own.2 with ⟨he, _⟩ | ⟨q', cap, cur, he, hb, hh, hnc, hcm, hcs, hxs⟩
    · cases he
    · injection he with h1 h2 h3
      injection h1 with h1
      injection h1 with h1
      subst h1 h3
      refine .inr ⟨q, c, cur.setIfInBounds k (.int .u64 x), rfl, hb, (show Blk W q e cur from hh).set_ k _, hnc, hcm, by simpa using hcs, ?_⟩
      rw [Array.toList_setIfInBounds, List.take_set, hxs]
      unfold u64c
      rw [List.map_set]
  · exact ⟨rfl, rfl, rfl, by simp [World.setCell], fun j hj hn => Below.heap_setCell W ⟨q, k, none⟩ _ j (by rintro rfl; exact hn hq), fun _ _ => rfl⟩
end
end Go.Proofs.Ytlnccpojldiogaa

/-
  Package ir: places gathered, each once; what a node reads, writes, goes on to.
-/
namespace Go.Proofs.Ytlnccpojldiogaa
set_option linter.unusedVariables false
set_option linter.unusedSimpArgs false
open Go.ChangeShapes Go.WideShapes Go.ChangeAt Go.RowKit Go.Maps

/-- the set that holds just these numbers -/
def setI {H : Type} (l : List Int) : DataW H := setOf (.agg []) (l.map (Lit.int .i64))
theorem any_int (x : Int) : ∀ l : List Int, l.any ((fun y : Lit => y.sameKey (.int .i64 x)) ∘ Lit.int .i64) = l.contains x
  | [] => rfl
  | a :: r => by
    rw [List.any_cons, List.contains_cons, any_int x r]
    congr 1
    show decide (IntKind.i64 = IntKind.i64 ∧ a = x) = (x == a)
    by_cases e : a = x
    · subst e
      simp
    · have e' : ¬ x = a := fun h => e h.symm
      simp [e, e']
theorem has_setI {H : Type} (l : List Int) (x : Int) : Maps.has (setI (H := H) l) (.int .i64 x) = l.contains x := by
  unfold setI
  rw [has_setOf _ _ _ (fun y hy => by obtain ⟨_, _, rfl⟩ := List.mem_map.1 hy; trivial), List.any_map]
  exact any_int x _
theorem setI_snoc {H : Type} (l : List Int) (x : Int) : setI (H := H) (l ++ [x]) = (setI l).put (.int .i64 x) (.agg []) := by
  unfold setI
  rw [List.map_append, List.map_singleton, setOf_snoc]
theorem row_ne {w : World} {base : Nat} {e : TypeId} {size : Nat} {v : Value} {n : Nat} {xs : List Value} (h : w.ownsRow base e size v n xs) {b : Nat} (hb : b < base) : some b ≠ v.ownBlock := fun e1 => by
  have := (h.lt b e1.symm).1
  omega
theorem law_int : Keyed Try.prog 3 := int_keyed Try.underlying3
theorem wf_of {x : Int} (h : I64 x) : (Lit.int .i64 x).wf = true := by
  have h0 := h.1
  have h1 := h.2
  simp [Lit.wf, IntKind.min, IntKind.max, IntKind.signed, IntKind.bits]
  exact ⟨h0, h1⟩
theorem take_at {l : List Int} {k : Nat} {x : Int} (h : l[k]? = some x) : l.take (k + 1) = l.take k ++ [x] := by
  rw [List.take_add_one, h]; rfl
/-- what a function leaves that hands back new numbers -/
def NewI (w : World) (l : List Int) (e : Ending) (w' : World) : Prop := ∃ (A : Option Addr) (c : Nat), e = .returned (.slice A l.length c) ∧ Reads w' w'.heap.size 1 A l.length (i64c l) ∧ l.length ≤ c ∧ Below w.heap.size w w'
/-- the gathering loop -/
structure PlI (w : World) (zs : List Int) (k : Nat) (v : Value) (wr : World) : Prop where
  map : wr.ownsMap Try.prog 3 unitElem w.heap.size k (setI (H := Unit) (addL [] (zs.take k)))
  own : wr.ownsRow (w.heap.size + 1) 3 1 v (addL [] (zs.take k)).length (i64c (addL [] (zs.take k)))
  below : Below w.heap.size w wr
  lt : w.heap.size + 1 ≤ wr.heap.size

end Go.Proofs.Ytlnccpojldiogaa

/-
  Package ir: what a node reads, writes, goes on to.
-/
namespace Go.Proofs.Ytlnccpojldiogaa
set_option linter.unusedVariables false
set_option linter.unusedSimpArgs false
open Go.ChangeShapes Go.WideShapes Go.ChangeAt Go.RowKit

theorem lit_reads (w : World) (t : TypeId) (cs : List Value) (n : Nat) (hs : cs.length = n) : Reads (w.alloc (.cells cs.toArray t)) (w.heap.size + 1) 1 (some ⟨w.heap.size, 0, none⟩) n cs :=
  ⟨by omega, fun _ => ⟨_, rfl, by simp, fun j u hj => by
    have ea : (⟨w.heap.size, 0, none⟩ : Addr).add j = ⟨w.heap.size, j, none⟩ := by simp [Addr.add]; exact Eq.symm
    rw [ea, (Blk.new w t _).cell]
    simpa using hj⟩⟩
theorem NewI.mk' {w w' w1 : World} {l l' : List Int} {A : Option Addr} {n c : Nat} (hl : l = l') (hn : l.length = n) (hr : Reads w' w'.heap.size 1 A n (i64c l)) (hc : n ≤ c) (hb : Below w1.heap.size w1 w') (hw : Below w.heap.size w w1) : NewI w l' (.returned (.slice A n c)) w' := by
  subst hl
  subst hn
  exact ⟨A, c, rfl, hr, hc, hw.trans (hb.mono hw.size)⟩
/-- the operations, one by one -/
theorem op_cases {op : Int} (h0 : 0 ≤ op) (h : op ≤ 255) : op = 1 ∨ op = 2 ∨ op = 3 ∨ op = 4 ∨ op = 5 ∨ op = 6 ∨ op = 7 ∨ op = 8 ∨ op = 9 ∨ op = 10 ∨ op = 11 ∨ op = 12 ∨ op = 13 ∨ op = 14 ∨ op = 15 ∨ op = 16 ∨ op = 17 ∨ op = 18 ∨ (op < 1 ∨ 18 < op) := by omega


end Go.Proofs.Ytlnccpojldiogaa

/-
  The statements' arguments opened: graphs, nodes, numbers (the law on slices of structs is the guide's extra-structs, copied as its page says).
-/
namespace Go.Proofs.Ytlnccpojldiogaa
set_option linter.unusedVariables false
open Go.ChangeShapes Go.WideShapes Go.ChangeAt Go.RowKit Go.Joins
open Go.Deep
section
variable {H : Type} {enc : TypeId × Value → H} {P : Program} {w : World} {base : Nat} {spare : Nat → Bool} {held : Bool}
theorem open_slice_fields {t e : TypeId} {fs : Array Field} {fuel : Nat} {cs : List Value} {x : DataW H × List MemPlace} (ht : P.underlying t = some (.slice e)) (he : P.underlying e = some (.struct fs))
    (hone : oneCellFields P fs = true) (hC : P.cellsOf e = fs.size) (h : DataW.trod enc P w base spare held fuel t cs = some x) :
    (cs = [.slice none 0 0] ∧ x = (.nil, [])) ∨
    ∃ (a : Addr) (len cap m : Nat) (D : Nat → DataW H) (Pl : Nat → List MemPlace), cs = [.slice (some a) len cap] ∧ base ≤ a.block ∧ len ≤ cap ∧ cap ≤ maxLen ∧ m = (if spare a.block then cap else len) ∧
      x = (.slice ((List.range len).map D) ((List.range (m - len)).map fun j => D (len + j)), MemPlace.row a (m * fs.size) ++ (List.range m).flatMap Pl) ∧
      ∀ i, i < m → ∃ (ys : List (DataW H × List MemPlace)) (n : Nat), D i = .agg (ys.map (·.1)) ∧ Pl i = ys.flatMap (·.2) ∧ ys.length = fs.size ∧
        ∀ (j : Nat) (f : Field), fs[j]? = some f → ∃ (v : Value) (y : DataW H × List MemPlace), w.cell? (a.add (i * fs.size + j)) = some v ∧ ys[j]? = some y ∧ DataW.trod enc P w base spare held n f.type [v] = some y := by
  rcases open_slice ht h with h0 | ⟨a, len, cap, m, n, D, Pl, hcs, hb, hl, hm, hmm, hx, hi⟩
  · exact .inl h0
  · refine .inr ⟨a, len, cap, m, D, Pl, hcs, hb, hl, hm, hmm, by rw [hC] at hx; exact hx, fun i him => ?_⟩
    obtain ⟨cs', hc, ht'⟩ := hi i him
    rw [hC] at hc
    obtain ⟨ys, n', hn', hy, hlen, hyl, hf⟩ := DataW.trod_struct he ht'
    obtain ⟨_, hcl, hat⟩ := World.cells?_some hc
    simp only [Prod.mk.injEq] at hy
    refine ⟨ys, n', hy.1, hy.2, hyl, fun j f hj => ?_⟩
    obtain ⟨ho, hk⟩ := hone_of hone j f hj
    have hjl : j < fs.size := (Array.getElem?_eq_some_iff.1 hj).1
    have hcell := hat j hjl
    have hv : cs'[j]? = some (cs'[j]'(by omega)) := List.getElem?_eq_getElem (by omega)
    have h1 := hf j f hj
    rw [ho, hk] at h1
    have hone' : (cs'.drop j).take 1 = [cs'[j]'(by omega)] := by
      rw [List.drop_eq_getElem_cons (by omega)]
      rfl
    rw [hone'] at h1
    have hys : ys[j]? = some (ys[j]'(by omega)) := List.getElem?_eq_getElem (by omega)
    refine ⟨_, _, ?_, hys, h1.trans hys⟩
    rw [← Go.Deep.add_add, hcell, hv]
end

/-- For each place something: a row of it. -/
theorem row_of {α : Type} {P : Nat → α → Prop} : ∀ (n : Nat), (∀ i, i < n → ∃ x, P i x) → ∃ l : List α, l.length = n ∧ ∀ (i : Nat) (x : α), l[i]? = some x → P i x
  | 0, _ => ⟨[], rfl, fun i x h => by simp at h⟩
  | n + 1, h => by
    obtain ⟨l, hl, hP⟩ := row_of n fun i hi => h i (by omega)
    obtain ⟨x, hx⟩ := h n (by omega)
    refine ⟨l ++ [x], by simp [hl], fun i y hy => ?_⟩
    rcases Nat.lt_trichotomy i n with h1 | h1 | h1
    · rw [List.getElem?_append_left (by omega)] at hy
      exact hP i y hy
    · subst h1
      rw [List.getElem?_append_right (by omega)] at hy
      simp [hl] at hy
      subst hy
      exact hx
    · rw [List.getElem?_eq_none (by simp; omega)] at hy
      cases hy

theorem wf_i64 {n : Int} (h : (Lit.int .i64 n).wf = true) : -9223372036854775808 ≤ n ∧ n ≤ 9223372036854775807 := by
  simp [Lit.wf, IntKind.min, IntKind.max, IntKind.signed, IntKind.bits] at h
  exact h
theorem wf_u64 {n : Int} (h : (Lit.int .u64 n).wf = true) : 0 ≤ n ∧ n < 18446744073709551616 := by
  simp [Lit.wf, IntKind.min, IntKind.max, IntKind.signed, IntKind.bits] at h
  omega

theorem wf_u8 {n : Int} (h : (Lit.int .u8 n).wf = true) : 0 ≤ n ∧ n ≤ 255 := by
  simp [Lit.wf, IntKind.min, IntKind.max, IntKind.signed, IntKind.bits] at h
  omega
/-- cells of rows of m: which row's, which place -/
theorem flat_inv {α : Type} (f : α → List Value) (m : Nat) (hm : 0 < m) (hf : ∀ x, (f x).length = m) (l : List α) (j : Nat) (u : Value) (h : (l.flatMap f)[j]? = some u) : ∃ i x k, l[i]? = some x ∧ k < m ∧ j = i * m + k ∧ (f x)[k]? = some u := by
  induction l generalizing j with
  | nil => simp at h
  | cons y l ih =>
    rw [List.flatMap_cons] at h
    by_cases hj : j < m
    · rw [List.getElem?_append_left (by rw [hf]; exact hj)] at h
      exact ⟨0, y, j, rfl, hj, by omega, h⟩
    · rw [List.getElem?_append_right (by rw [hf]; omega), hf] at h
      obtain ⟨i, x, k, hx, hk, hjk, hu⟩ := ih (j - m) h
      exact ⟨i + 1, x, k, by simpa using hx, hk, by rw [Nat.succ_mul]; omega, hu⟩

section
variable {H : Type} {enc : TypeId × Value → H} {W : World}
theorem block_of_cell {W : World} {a : Addr} {u : Value} (h : W.cell? (a.add 0) = some u) : a.block < W.heap.size := by
  rcases Nat.lt_or_ge a.block W.heap.size with hlt | hge
  · exact hlt
  · have : a.add 0 = a := by simp [Addr.add]
    rw [this] at h
    simp [World.cell?, Array.getElem?_eq_none hge] at h

/-- a slice of bytes or kinds -/
theorem open_u8 {t e : TypeId} (ht : Try.prog.underlying t = some (.slice e)) (he : Try.prog.underlying e = some (.int .u8)) (hc1 : Try.prog.cellsOf e = 1) {fuel : Nat} {cs : List Value} {x : DataW H × List MemPlace}
    (h : DataW.trod enc Try.prog W 0 (fun _ => true) true fuel t cs = some x) :
    ∃ (ao : Option Addr) (c : Nat) (l : List Int), cs = [.slice ao l.length c] ∧ Reads W W.heap.size 1 ao l.length (u8c l) ∧ Byt l ∧ l.length ≤ c ∧ c ≤ maxLen ∧ (ao = none → c = 0) ∧
      ((x.1 = .nil ∧ c = 0) ∨ ∃ elems spare, x.1 = .slice elems spare ∧ elems.length + spare.length = c) := by
  rcases open_ints ht he hc1 h with ⟨hcs, hx⟩ | ⟨a, len, cap, zs, hcs, _, hl, hm, hz, hx, hcell, hwz⟩
  · exact ⟨none, 0, [], hcs, Reads.none_, Byt.nil, Nat.le_refl _, Nat.zero_le _, fun _ => rfl, .inl ⟨by rw [hx], rfl⟩⟩
  · simp only [if_true] at hz
    have hlen : (zs.take len).length = len := by simp; omega
    refine ⟨some a, cap, zs.take len, by rw [hlen]; exact hcs, ?_, fun y hy => wf_u8 (hwz y (List.mem_of_mem_take hy)), by rw [hlen]; exact hl, hm, (fun h => by cases h), .inr ⟨_, _, by rw [hx], by simp [lits]; omega⟩⟩
    rw [hlen]
    refine ⟨by rw [length_u8c, hlen]; simp, fun hn => ⟨a, rfl, block_of_cell (hcell 0 (by omega)), fun j u hu => ?_⟩⟩
    unfold u8c at hu
    rw [List.getElem?_map] at hu
    have hjl : j < (zs.take len).length := by
      rcases Nat.lt_or_ge j (zs.take len).length with h1 | h1
      · exact h1
      · rw [List.getElem?_eq_none h1] at hu; cases hu
    have hjz : j < zs.length := by simp at hjl; omega
    have hjn : j < len := by simp at hjl; omega
    rw [hcell j hjz, ← hu, List.getElem?_take, if_pos hjn, List.getElem?_eq_getElem hjz]
    simp [List.getD, hjz]

/-- a slice of ints -/
theorem open_i64 {t e : TypeId} (ht : Try.prog.underlying t = some (.slice e)) (he : Try.prog.underlying e = some (.int .i64)) (hc1 : Try.prog.cellsOf e = 1) {fuel : Nat} {cs : List Value} {x : DataW H × List MemPlace}
    (h : DataW.trod enc Try.prog W 0 (fun _ => true) true fuel t cs = some x) :
    ∃ (ao : Option Addr) (c : Nat) (l : List Int), cs = [.slice ao l.length c] ∧ Reads W W.heap.size 1 ao l.length (i64c l) ∧ (∀ y ∈ l, I64 y) ∧ l.length ≤ c ∧ c ≤ maxLen ∧ (ao = none → c = 0) ∧
      ((x.1 = .nil ∧ c = 0) ∨ ∃ elems spare, x.1 = .slice elems spare ∧ elems.length + spare.length = c) := by
  rcases open_ints ht he hc1 h with ⟨hcs, hx⟩ | ⟨a, len, cap, zs, hcs, _, hl, hm, hz, hx, hcell, hwz⟩
  · exact ⟨none, 0, [], hcs, Reads.none_, (fun _ h => by cases h), Nat.le_refl _, Nat.zero_le _, fun _ => rfl, .inl ⟨by rw [hx], rfl⟩⟩
  · simp only [if_true] at hz
    have hlen : (zs.take len).length = len := by simp; omega
    refine ⟨some a, cap, zs.take len, by rw [hlen]; exact hcs, ?_, fun y hy => wf_i64 (hwz y (List.mem_of_mem_take hy)), by rw [hlen]; exact hl, hm, (fun h => by cases h), .inr ⟨_, _, by rw [hx], by simp [lits]; omega⟩⟩
    rw [hlen]
    refine ⟨by rw [length_i64c, hlen]; simp, fun hn => ⟨a, rfl, block_of_cell (hcell 0 (by omega)), fun j u hu => ?_⟩⟩
    unfold i64c at hu
    rw [List.getElem?_map] at hu
    have hjl : j < (zs.take len).length := by
      rcases Nat.lt_or_ge j (zs.take len).length with h1 | h1
      · exact h1
      · rw [List.getElem?_eq_none h1] at hu; cases hu
    have hjz : j < zs.length := by simp at hjl; omega
    have hjn : j < len := by simp at hjl; omega
    rw [hcell j hjz, ← hu, List.getElem?_take, if_pos hjn, List.getElem?_eq_getElem hjz]
    simp [List.getD, hjz]

/-- a datum takes no more than the form's reach -/
def Small (t : TypeId) (d : DataW H) : Prop := ∀ x ∈ d.weights Try.prog t, x ≤ reachBytes
theorem small_slice {t e : TypeId} {elems spare : List (DataW H)} {b : Nat} (h : Small t (DataW.slice elems spare)) (ht : Try.prog.underlying t = some (.slice e)) (hb : Try.prog.bytesOf e = b) : (elems.length + spare.length) * b ≤ 140737488351232 := by
  have := h ((elems.length + spare.length) * Try.prog.bytesOf e) (by simp [DataW.weights, ht])
  rw [hb] at this
  simpa [reachBytes] using this
theorem mem_weightsAll {P : Program} {e : TypeId} {d : DataW H} {l : List (DataW H)} (hd : d ∈ l) {x : Nat} (hx : x ∈ d.weights P e) : x ∈ DataW.weightsAll P e l := by
  induction l with
  | nil => cases hd
  | cons y l ih =>
    rw [DataW.weightsAll, List.mem_append]
    rcases List.mem_cons.1 hd with rfl | hd
    · exact .inl hx
    · exact .inr (ih hd)
theorem small_elem {t e : TypeId} {elems spare : List (DataW H)} (h : Small t (DataW.slice elems spare)) (ht : Try.prog.underlying t = some (.slice e)) {d : DataW H} (hd : d ∈ elems) : Small e d := by
  intro x hx
  refine h x ?_
  simp only [DataW.weights, ht, List.mem_cons, List.mem_append]
  exact .inr (.inl (mem_weightsAll hd hx))
theorem small_field {t : TypeId} {fs : Array Field} {parts : List (DataW H)} (h : Small t (DataW.agg parts)) (ht : Try.prog.underlying t = some (.struct fs)) {j : Nat} {f : Field} {d : DataW H} (hf : (fs.toList.map (·.type))[j]? = some f.type) (hd : parts[j]? = some d) : Small f.type d := by
  intro x hx
  refine h x ?_
  simp only [DataW.weights, ht]
  exact DataW.weights_mem_each hf hd x hx

set_option maxRecDepth 100000 in
/-- a slice of nodes -/
theorem open_nodes {fuel : Nat} {cs : List Value} {x : DataW H × List MemPlace} (h : DataW.trod enc Try.prog W 0 (fun _ => true) true fuel 46 cs = some x) (hs : Small 46 x.1) :
    ∃ (ao : Option Addr) (n c : Nat) (ns : List RN), cs = [.slice ao n c] ∧ RdNs W W.heap.size ao n ns ∧ n * 104 ≤ 140737488351232 := by
  rcases open_slice_fields Try.underlying46 Try.underlying45 (by kernel_rfl) (by kernel_rfl) h with ⟨hcs, hx⟩ | ⟨a, len, cap, m, D, Pl, hcs, _, hl, hm, hmm, hx, hi⟩
  · exact ⟨none, 0, 0, [], hcs, ⟨Reads.none_, rfl, (fun r hr => by cases hr), (fun r hr => by cases hr)⟩, by omega⟩
  · simp only [if_true] at hmm
    subst hmm
    rw [hx] at hs
    have hsz := small_slice hs Try.underlying46 (show Try.prog.bytesOf 45 = 104 by kernel_rfl)
    obtain ⟨l, hll, hlp⟩ := row_of (P := fun i (x : RN) => RdN W W.heap.size x ∧ WfN x.nd ∧ W.cell? (a.add (i * 12)) = some (.int .u8 x.nd.op) ∧ W.cell? (a.add (i * 12 + 1)) = some (.int .u8 x.nd.bop) ∧ W.cell? (a.add (i * 12 + 2)) = some (.int .i64 x.nd.d) ∧ W.cell? (a.add (i * 12 + 3)) = some (.int .i64 x.nd.e) ∧ W.cell? (a.add (i * 12 + 4)) = some (.int .i64 x.nd.a) ∧ W.cell? (a.add (i * 12 + 5)) = some (.int .i64 x.nd.b) ∧ W.cell? (a.add (i * 12 + 6)) = some (.int .i64 x.nd.f) ∧ W.cell? (a.add (i * 12 + 7)) = some (.int .i64 x.nd.cell) ∧ W.cell? (a.add (i * 12 + 8)) = some (.int .u64 x.nd.imm) ∧ W.cell? (a.add (i * 12 + 9)) = some (.slice x.ao x.nd.args.length x.ac) ∧ W.cell? (a.add (i * 12 + 10)) = some (.int .i64 x.nd.next) ∧ W.cell? (a.add (i * 12 + 11)) = some (.int .i64 x.nd.els)) len (fun i hin => by
      obtain ⟨ys, k, hD, _, hyl, hj⟩ := hi i (by omega)
      have hsi : Small 45 (D i) := small_elem hs Try.underlying46 (List.mem_map.2 ⟨i, List.mem_range.2 hin, rfl⟩)
      rw [hD] at hsi
      obtain ⟨v0, y0, hc0, hy0, ht0⟩ := hj 0 _ rfl
      obtain ⟨v1, y1, hc1, hy1, ht1⟩ := hj 1 _ rfl
      obtain ⟨v2, y2, hc2, hy2, ht2⟩ := hj 2 _ rfl
      obtain ⟨v3, y3, hc3, hy3, ht3⟩ := hj 3 _ rfl
      obtain ⟨v4, y4, hc4, hy4, ht4⟩ := hj 4 _ rfl
      obtain ⟨v5, y5, hc5, hy5, ht5⟩ := hj 5 _ rfl
      obtain ⟨v6, y6, hc6, hy6, ht6⟩ := hj 6 _ rfl
      obtain ⟨v7, y7, hc7, hy7, ht7⟩ := hj 7 _ rfl
      obtain ⟨v8, y8, hc8, hy8, ht8⟩ := hj 8 _ rfl
      obtain ⟨v9, y9, hc9, hy9, ht9⟩ := hj 9 _ rfl
      obtain ⟨v10, y10, hc10, hy10, ht10⟩ := hj 10 _ rfl
      obtain ⟨v11, y11, hc11, hy11, ht11⟩ := hj 11 _ rfl
      obtain ⟨n0, e0, _, w0⟩ := DataW.trod_int Try.underlying41 ht0
      obtain ⟨n1, e1, _, w1⟩ := DataW.trod_int Try.underlying42 ht1
      obtain ⟨n2, e2, _, w2⟩ := DataW.trod_int Try.underlying3 ht2
      obtain ⟨n3, e3, _, w3⟩ := DataW.trod_int Try.underlying3 ht3
      obtain ⟨n4, e4, _, w4⟩ := DataW.trod_int Try.underlying3 ht4
      obtain ⟨n5, e5, _, w5⟩ := DataW.trod_int Try.underlying3 ht5
      obtain ⟨n6, e6, _, w6⟩ := DataW.trod_int Try.underlying3 ht6
      obtain ⟨n7, e7, _, w7⟩ := DataW.trod_int Try.underlying3 ht7
      obtain ⟨n8, e8, _, w8⟩ := DataW.trod_int Try.underlying30 ht8
      obtain ⟨ao, ac, xs9, e9, hr9, hw9, hac, _, _, hd9⟩ := open_i64 Try.underlying43 Try.underlying3 (by kernel_rfl) ht9
      obtain ⟨n10, e10, _, w10⟩ := DataW.trod_int Try.underlying3 ht10
      obtain ⟨n11, e11, _, w11⟩ := DataW.trod_int Try.underlying3 ht11
      have s9 : Small 43 y9.1 := small_field hsi Try.underlying45 (j := 9) rfl (by rw [List.getElem?_map, hy9]; rfl)
      have b9 : xs9.length * 8 ≤ 140737488351232 := by
        rcases hd9 with ⟨_, h0⟩ | ⟨elems, spare, he, hc⟩
        · omega
        · rw [he] at s9
          have := small_slice s9 Try.underlying43 (show Try.prog.bytesOf 3 = 8 by kernel_rfl)
          omega
      have h0 := wf_u8 w0
      have h1 := wf_u8 w1
      have h2 := wf_i64 w2
      have h3 := wf_i64 w3
      have h4 := wf_i64 w4
      have h5 := wf_i64 w5
      have h6 := wf_i64 w6
      have h7 := wf_i64 w7
      have h8 := wf_u64 w8
      have h10 := wf_i64 w10
      have h11 := wf_i64 w11
      simp only [List.cons.injEq, and_true] at e0 e1 e2 e3 e4 e5 e6 e7 e8 e9 e10 e11
      subst e0 e1 e2 e3 e4 e5 e6 e7 e8 e9 e10 e11
      exact ⟨⟨⟨n0, n1, n2, n3, n4, n5, n6, n7, n8, xs9, n10, n11⟩, ao, ac⟩, ⟨hr9, hac⟩, ⟨h0.1, h0.2, h1.1, h1.2, h2, h3, h4, h5, h6, h7, h8.1, by show n8 ≤ _; omega, hw9, h10, h11, b9⟩, hc0, hc1, hc2, hc3, hc4, hc5, hc6, hc7, hc8, hc9, hc10, hc11⟩)
    refine ⟨some a, len, m, l, hcs, ⟨⟨by rw [length_rnc, hll], fun hn => ⟨a, rfl, ?_, fun j u hu => ?_⟩⟩, hll, fun r hr => ?_, fun r hr => ?_⟩, ?_⟩
    · obtain ⟨x, hx0⟩ : ∃ x, l[0]? = some x := ⟨_, List.getElem?_eq_getElem (by omega)⟩
      exact block_of_cell (hlp 0 x hx0).2.2.1
    · obtain ⟨i, x, k, hxi, hk, rfl, hv⟩ := flat_inv rnOne 12 (by omega) (fun _ => rfl) l j u hu
      have hp := hlp i x hxi
      obtain rfl | rfl | rfl | rfl | rfl | rfl | rfl | rfl | rfl | rfl | rfl | rfl : k = 0 ∨ k = 1 ∨ k = 2 ∨ k = 3 ∨ k = 4 ∨ k = 5 ∨ k = 6 ∨ k = 7 ∨ k = 8 ∨ k = 9 ∨ k = 10 ∨ k = 11 := by omega
      · rw [← hv]; exact hp.2.2.1
      · rw [← hv]; exact hp.2.2.2.1
      · rw [← hv]; exact hp.2.2.2.2.1
      · rw [← hv]; exact hp.2.2.2.2.2.1
      · rw [← hv]; exact hp.2.2.2.2.2.2.1
      · rw [← hv]; exact hp.2.2.2.2.2.2.2.1
      · rw [← hv]; exact hp.2.2.2.2.2.2.2.2.1
      · rw [← hv]; exact hp.2.2.2.2.2.2.2.2.2.1
      · rw [← hv]; exact hp.2.2.2.2.2.2.2.2.2.2.1
      · rw [← hv]; exact hp.2.2.2.2.2.2.2.2.2.2.2.1
      · rw [← hv]; exact hp.2.2.2.2.2.2.2.2.2.2.2.2.1
      · rw [← hv]; exact hp.2.2.2.2.2.2.2.2.2.2.2.2.2
    · obtain ⟨i, hil, rfl⟩ := List.getElem_of_mem hr
      exact (hlp i _ (List.getElem?_eq_getElem hil)).1
    · obtain ⟨i, hil, rfl⟩ := List.getElem_of_mem hr
      exact (hlp i _ (List.getElem?_eq_getElem hil)).2.1
    · simp at hsz
      have := Nat.mul_le_mul_right 104 hl
      omega

set_option maxRecDepth 100000 in
set_option maxHeartbeats 800000 in
/-- the graphs of a program -/
theorem open_graphs {fuel : Nat} {cs : List Value} {x : DataW H × List MemPlace} (h : DataW.trod enc Try.prog W 0 (fun _ => true) true fuel 22 cs = some x) (hs : Small 22 x.1) :
    ∃ (ao : Option Addr) (n c : Nat) (rs : List RG), cs = [.slice ao n c] ∧ RdP W W.heap.size ao n rs := by
  rcases open_slice_fields Try.underlying22 Try.underlying48 (by kernel_rfl) (by kernel_rfl) h with ⟨hcs, hx⟩ | ⟨a, len, cap, m, D, Pl, hcs, _, hl, hm, hmm, hx, hi⟩
  · exact ⟨none, 0, 0, [], hcs, ⟨Reads.none_, rfl, (fun r hr => by cases hr), (fun r hr => by cases hr), by omega⟩⟩
  · simp only [if_true] at hmm
    subst hmm
    rw [hx] at hs
    have hsz := small_slice hs Try.underlying22 (show Try.prog.bytesOf 48 = 128 by kernel_rfl)
    obtain ⟨l, hll, hlp⟩ := row_of (P := fun i (r : RG) => RdG W W.heap.size r ∧ WfG r.gr ∧ W.cell? (a.add (i * 8)) = some (.slice r.po r.gr.params.length r.pc) ∧ W.cell? (a.add (i * 8 + 1)) = some (.slice r.ko r.gr.kinds.length r.kc) ∧ W.cell? (a.add (i * 8 + 2)) = some (.int .i64 r.gr.cells) ∧ W.cell? (a.add (i * 8 + 3)) = some (.slice r.io r.gr.init.length r.ic) ∧ W.cell? (a.add (i * 8 + 4)) = some (.bool r.gr.result) ∧ W.cell? (a.add (i * 8 + 5)) = some (.int .i64 r.gr.keep) ∧ W.cell? (a.add (i * 8 + 6)) = some (.slice r.no r.gr.nodes.length r.nc) ∧ W.cell? (a.add (i * 8 + 7)) = some (.int .i64 r.gr.entry)) len (fun i hin => by
      obtain ⟨ys, k, hD, _, hyl, hj⟩ := hi i (by omega)
      have hsi : Small 48 (D i) := small_elem hs Try.underlying22 (List.mem_map.2 ⟨i, List.mem_range.2 hin, rfl⟩)
      rw [hD] at hsi
      obtain ⟨v0, y0, hc0, hy0, ht0⟩ := hj 0 _ rfl
      obtain ⟨v1, y1, hc1, hy1, ht1⟩ := hj 1 _ rfl
      obtain ⟨v2, y2, hc2, hy2, ht2⟩ := hj 2 _ rfl
      obtain ⟨v3, y3, hc3, hy3, ht3⟩ := hj 3 _ rfl
      obtain ⟨v4, y4, hc4, hy4, ht4⟩ := hj 4 _ rfl
      obtain ⟨v5, y5, hc5, hy5, ht5⟩ := hj 5 _ rfl
      obtain ⟨v6, y6, hc6, hy6, ht6⟩ := hj 6 _ rfl
      obtain ⟨v7, y7, hc7, hy7, ht7⟩ := hj 7 _ rfl
      have s0 : Small 43 y0.1 := small_field hsi Try.underlying48 (j := 0) rfl (by rw [List.getElem?_map, hy0]; rfl)
      obtain ⟨o0, c0, l0, e0, r0, w0, cap0, _, _, d0⟩ := open_i64 Try.underlying43 Try.underlying3 (by kernel_rfl) ht0
      have s1 : Small 40 y1.1 := small_field hsi Try.underlying48 (j := 1) rfl (by rw [List.getElem?_map, hy1]; rfl)
      obtain ⟨o1, c1, l1, e1, r1, w1, cap1, _, _, d1⟩ := open_u8 Try.underlying40 Try.underlying67 (by kernel_rfl) ht1
      obtain ⟨n2, e2, _, w2⟩ := DataW.trod_int Try.underlying3 ht2
      have s3 : Small 43 y3.1 := small_field hsi Try.underlying48 (j := 3) rfl (by rw [List.getElem?_map, hy3]; rfl)
      obtain ⟨o3, c3, l3, e3, r3, w3, cap3, _, _, d3⟩ := open_i64 Try.underlying43 Try.underlying3 (by kernel_rfl) ht3
      obtain ⟨n4, e4, _⟩ := DataW.trod_bool Try.underlying4 ht4
      obtain ⟨n5, e5, _, w5⟩ := DataW.trod_int Try.underlying3 ht5
      have s6 : Small 46 y6.1 := small_field hsi Try.underlying48 (j := 6) rfl (by rw [List.getElem?_map, hy6]; rfl)
      obtain ⟨o6, n6, c6, ns, e6, r6, b6⟩ := open_nodes ht6 s6
      obtain ⟨n7, e7, _, w7⟩ := DataW.trod_int Try.underlying3 ht7
      have b0 : l0.length * 8 ≤ 140737488351232 := by
        rcases d0 with ⟨_, h0⟩ | ⟨elems, spare, he, hc⟩
        · omega
        · rw [he] at s0
          have := small_slice s0 Try.underlying43 (show Try.prog.bytesOf 3 = 8 by kernel_rfl)
          omega
      have b1 : l1.length * 1 ≤ 140737488351232 := by
        rcases d1 with ⟨_, h0⟩ | ⟨elems, spare, he, hc⟩
        · omega
        · rw [he] at s1
          have := small_slice s1 Try.underlying40 (show Try.prog.bytesOf 67 = 1 by kernel_rfl)
          omega
      have b3 : l3.length * 8 ≤ 140737488351232 := by
        rcases d3 with ⟨_, h0⟩ | ⟨elems, spare, he, hc⟩
        · omega
        · rw [he] at s3
          have := small_slice s3 Try.underlying43 (show Try.prog.bytesOf 3 = 8 by kernel_rfl)
          omega
      have h2 := wf_i64 w2
      have h5 := wf_i64 w5
      have h7 := wf_i64 w7
      have hnl : (nds ns).length = n6 := by rw [length_nds, r6.len]
      have hwn : ∀ i ∈ nds ns, WfN i := fun i hi => by
        obtain ⟨z, hz, rfl⟩ := List.mem_map.1 hi
        exact r6.wf z hz
      simp only [List.cons.injEq, and_true] at e0 e1 e2 e3 e4 e5 e6 e7
      subst e0 e1 e2 e3 e4 e5 e6 e7
      subst hnl
      exact ⟨⟨⟨l0, l1, n2, l3, n4, n5, nds ns, n7⟩, o0, c0, o1, c1, o3, c3, o6, c6, ns⟩, ⟨r0, r1, r3, r6, rfl, cap0⟩, ⟨w0, w1, h2, w3, h5, hwn, h7, b0, by simpa using b1, b3, b6⟩, hc0, hc1, hc2, hc3, hc4, hc5, hc6, hc7⟩)
    refine ⟨some a, len, m, l, hcs, ⟨⟨by rw [length_rgc, hll], fun hn => ⟨a, rfl, ?_, fun j u hu => ?_⟩⟩, hll, fun r hr => ?_, fun r hr => ?_, ?_⟩⟩
    · obtain ⟨x, hx0⟩ : ∃ x, l[0]? = some x := ⟨_, List.getElem?_eq_getElem (by omega)⟩
      exact block_of_cell (hlp 0 x hx0).2.2.1
    · obtain ⟨i, x, k, hxi, hk, rfl, hv⟩ := flat_inv rgOne 8 (by omega) (fun _ => rfl) l j u hu
      have hp := hlp i x hxi
      obtain rfl | rfl | rfl | rfl | rfl | rfl | rfl | rfl : k = 0 ∨ k = 1 ∨ k = 2 ∨ k = 3 ∨ k = 4 ∨ k = 5 ∨ k = 6 ∨ k = 7 := by omega
      · rw [← hv]; exact hp.2.2.1
      · rw [← hv]; exact hp.2.2.2.1
      · rw [← hv]; exact hp.2.2.2.2.1
      · rw [← hv]; exact hp.2.2.2.2.2.1
      · rw [← hv]; exact hp.2.2.2.2.2.2.1
      · rw [← hv]; exact hp.2.2.2.2.2.2.2.1
      · rw [← hv]; exact hp.2.2.2.2.2.2.2.2.1
      · rw [← hv]; exact hp.2.2.2.2.2.2.2.2.2
    · obtain ⟨i, hil, rfl⟩ := List.getElem_of_mem hr
      exact (hlp i _ (List.getElem?_eq_getElem hil)).1
    · obtain ⟨i, hil, rfl⟩ := List.getElem_of_mem hr
      exact (hlp i _ (List.getElem?_eq_getElem hil)).2.1
    · simp at hsz
      have := Nat.mul_le_mul_right 128 hl
      omega

set_option maxRecDepth 100000 in
theorem open_prog {base : Nat} {v : Value} {d : DataW H} {p : List MemPlace} (hv : Value.okWide Try.prog W .any base 24 v) (h : DataW.Trod enc Try.prog W 0 (fun _ => true) true 24 v d p) (hs : Small 24 d) :
    ∃ (ao : Option Addr) (n c : Nat) (rs : List RG), v = .agg #[.slice ao n c] ∧ RdP W W.heap.size ao n rs := by
  obtain ⟨cs, rfl, hsz⟩ := okWide_struct Try.underlying24 hv
  obtain ⟨l⟩ := cs
  match l, hsz.trans (show Try.prog.cellsOf 24 = 1 by kernel_rfl) with
  | [c0], _ =>
    obtain ⟨fuel, hf⟩ := h
    obtain ⟨xs, n, _, hx, _, hlen, hg⟩ := DataW.trod_struct Try.underlying24 hf
    match xs, hlen with
    | [y0], _ =>
      simp only [Prod.mk.injEq] at hx
      have h0 : DataW.trod enc Try.prog W 0 (fun _ => true) true n 22 [c0] = some y0 := by
        have := hg 0 _ rfl
        simpa [Value.cells, show Try.prog.cellsOf 22 = 1 by kernel_rfl] using this
      rw [hx.1] at hs
      have s0 : Small 22 y0.1 := small_field hs Try.underlying24 (j := 0) rfl rfl
      obtain ⟨ao, m, c, rs, e, hr⟩ := open_graphs h0 s0
      simp only [List.cons.injEq, and_true] at e
      subst e
      exact ⟨ao, m, c, rs, rfl, hr⟩
set_option maxRecDepth 100000 in
set_option maxHeartbeats 800000 in
theorem open_node {base : Nat} {v : Value} {d : DataW H} {p : List MemPlace} (hv : Value.okWide Try.prog W .any base 45 v) (h : DataW.Trod enc Try.prog W 0 (fun _ => true) true 45 v d p) (hs : Small 45 d) :
    ∃ x : RN, v = .agg (rnOne x).toArray ∧ RdN W W.heap.size x ∧ WfN x.nd := by
  obtain ⟨cs, rfl, hsz⟩ := okWide_struct Try.underlying45 hv
  obtain ⟨l⟩ := cs
  match l, hsz.trans (show Try.prog.cellsOf 45 = 12 by kernel_rfl) with
  | [u0, u1, u2, u3, u4, u5, u6, u7, u8, u9, u10, u11], _ =>
    obtain ⟨fuel, hf⟩ := h
    obtain ⟨ys, n, _, hx, _, hlen, hg⟩ := DataW.trod_struct Try.underlying45 hf
    match ys, hlen with
    | [y0, y1, y2, y3, y4, y5, y6, y7, y8, y9, y10, y11], _ =>
      simp only [Prod.mk.injEq] at hx
      rw [hx.1] at hs
      have ht0 : DataW.trod enc Try.prog W 0 (fun _ => true) true n 41 [u0] = some y0 := by
        have := hg 0 _ rfl
        simpa [Value.cells, show Try.prog.cellsOf 41 = 1 by kernel_rfl] using this
      have ht1 : DataW.trod enc Try.prog W 0 (fun _ => true) true n 42 [u1] = some y1 := by
        have := hg 1 _ rfl
        simpa [Value.cells, show Try.prog.cellsOf 42 = 1 by kernel_rfl] using this
      have ht2 : DataW.trod enc Try.prog W 0 (fun _ => true) true n 3 [u2] = some y2 := by
        have := hg 2 _ rfl
        simpa [Value.cells, show Try.prog.cellsOf 3 = 1 by kernel_rfl] using this
      have ht3 : DataW.trod enc Try.prog W 0 (fun _ => true) true n 3 [u3] = some y3 := by
        have := hg 3 _ rfl
        simpa [Value.cells, show Try.prog.cellsOf 3 = 1 by kernel_rfl] using this
      have ht4 : DataW.trod enc Try.prog W 0 (fun _ => true) true n 3 [u4] = some y4 := by
        have := hg 4 _ rfl
        simpa [Value.cells, show Try.prog.cellsOf 3 = 1 by kernel_rfl] using this
      have ht5 : DataW.trod enc Try.prog W 0 (fun _ => true) true n 3 [u5] = some y5 := by
        have := hg 5 _ rfl
        simpa [Value.cells, show Try.prog.cellsOf 3 = 1 by kernel_rfl] using this
      have ht6 : DataW.trod enc Try.prog W 0 (fun _ => true) true n 3 [u6] = some y6 := by
        have := hg 6 _ rfl
        simpa [Value.cells, show Try.prog.cellsOf 3 = 1 by kernel_rfl] using this
      have ht7 : DataW.trod enc Try.prog W 0 (fun _ => true) true n 3 [u7] = some y7 := by
        have := hg 7 _ rfl
        simpa [Value.cells, show Try.prog.cellsOf 3 = 1 by kernel_rfl] using this
      have ht8 : DataW.trod enc Try.prog W 0 (fun _ => true) true n 30 [u8] = some y8 := by
        have := hg 8 _ rfl
        simpa [Value.cells, show Try.prog.cellsOf 30 = 1 by kernel_rfl] using this
      have ht9 : DataW.trod enc Try.prog W 0 (fun _ => true) true n 43 [u9] = some y9 := by
        have := hg 9 _ rfl
        simpa [Value.cells, show Try.prog.cellsOf 43 = 1 by kernel_rfl] using this
      have ht10 : DataW.trod enc Try.prog W 0 (fun _ => true) true n 3 [u10] = some y10 := by
        have := hg 10 _ rfl
        simpa [Value.cells, show Try.prog.cellsOf 3 = 1 by kernel_rfl] using this
      have ht11 : DataW.trod enc Try.prog W 0 (fun _ => true) true n 3 [u11] = some y11 := by
        have := hg 11 _ rfl
        simpa [Value.cells, show Try.prog.cellsOf 3 = 1 by kernel_rfl] using this
      obtain ⟨n0, e0, _, w0⟩ := DataW.trod_int Try.underlying41 ht0
      obtain ⟨n1, e1, _, w1⟩ := DataW.trod_int Try.underlying42 ht1
      obtain ⟨n2, e2, _, w2⟩ := DataW.trod_int Try.underlying3 ht2
      obtain ⟨n3, e3, _, w3⟩ := DataW.trod_int Try.underlying3 ht3
      obtain ⟨n4, e4, _, w4⟩ := DataW.trod_int Try.underlying3 ht4
      obtain ⟨n5, e5, _, w5⟩ := DataW.trod_int Try.underlying3 ht5
      obtain ⟨n6, e6, _, w6⟩ := DataW.trod_int Try.underlying3 ht6
      obtain ⟨n7, e7, _, w7⟩ := DataW.trod_int Try.underlying3 ht7
      obtain ⟨n8, e8, _, w8⟩ := DataW.trod_int Try.underlying30 ht8
      obtain ⟨ao, ac, xs9, e9, hr9, hw9, hac, _, _, hd9⟩ := open_i64 Try.underlying43 Try.underlying3 (by kernel_rfl) ht9
      obtain ⟨n10, e10, _, w10⟩ := DataW.trod_int Try.underlying3 ht10
      obtain ⟨n11, e11, _, w11⟩ := DataW.trod_int Try.underlying3 ht11
      have s9 : Small 43 y9.1 := small_field hs Try.underlying45 (j := 9) rfl rfl
      have b9 : xs9.length * 8 ≤ 140737488351232 := by
        rcases hd9 with ⟨_, h0⟩ | ⟨elems, spare, he, hc⟩
        · omega
        · rw [he] at s9
          have := small_slice s9 Try.underlying43 (show Try.prog.bytesOf 3 = 8 by kernel_rfl)
          omega
      have h0 := wf_u8 w0
      have h1 := wf_u8 w1
      have h2 := wf_i64 w2
      have h3 := wf_i64 w3
      have h4 := wf_i64 w4
      have h5 := wf_i64 w5
      have h6 := wf_i64 w6
      have h7 := wf_i64 w7
      have h8 := wf_u64 w8
      have h10 := wf_i64 w10
      have h11 := wf_i64 w11
      simp only [List.cons.injEq, and_true] at e0 e1 e2 e3 e4 e5 e6 e7 e8 e9 e10 e11
      subst e0 e1 e2 e3 e4 e5 e6 e7 e8 e9 e10 e11
      exact ⟨⟨⟨n0, n1, n2, n3, n4, n5, n6, n7, n8, xs9, n10, n11⟩, ao, ac⟩, rfl, ⟨hr9, hac⟩, ⟨h0.1, h0.2, h1.1, h1.2, h2, h3, h4, h5, h6, h7, h8.1, by show n8 ≤ _; omega, hw9, h10, h11, b9⟩⟩
end
end Go.Proofs.Ytlnccpojldiogaa

/-
  The statements' arguments opened: words, two numbers.
-/
namespace Go.Proofs.Ytlnccpojldiogaa
set_option linter.unusedVariables false
open Go.ChangeShapes Go.WideShapes Go.ChangeAt Go.RowKit Go.Joins
open Go.Deep
section
variable {H : Type} {enc : TypeId × Value → H} {W : World}
set_option maxRecDepth 100000 in
theorem open_words {base : Nat} {v : Value} {d : DataW H} {p : List MemPlace} (hv : Value.okWide Try.prog W .any base 25 v) (h : DataW.Trod enc Try.prog W 0 (fun _ => true) true 25 v d p) :
    ∃ (ao : Option Addr) (n c : Nat) (l : List Int), v = .slice ao n c ∧ Reads W W.heap.size 1 ao n (u64c l) ∧ l.length = n ∧ n ≤ c ∧ (∀ x ∈ l, 0 ≤ x ∧ x < 18446744073709551616) ∧
      ((d = .nil ∧ c = 0) ∨ ∃ elems spare, d = .slice elems spare ∧ elems.length + spare.length = c) := by
  obtain ⟨ao, n, c, rfl⟩ := okWide_slice Try.underlying25 hv
  obtain ⟨fuel, hf⟩ := h
  rcases open_ints Try.underlying25 Try.underlying30 (by kernel_rfl) hf with ⟨hcs, hx⟩ | ⟨a, len, cap, zs, hcs, _, hl, hm, hz, hx, hcell, hwz⟩
  · simp [Value.cells] at hcs
    obtain ⟨rfl, rfl, rfl⟩ := hcs
    simp only [Prod.mk.injEq] at hx
    exact ⟨none, 0, 0, [], rfl, Reads.none_, rfl, Nat.le_refl _, (fun x hx => by cases hx), .inl ⟨hx.1, rfl⟩⟩
  · simp [Value.cells] at hcs
    obtain ⟨rfl, rfl, rfl⟩ := hcs
    simp only [if_true] at hz
    simp only [Prod.mk.injEq] at hx
    refine ⟨some a, n, c, zs.take n, rfl, ⟨by simp [u64c]; omega, fun hn => ⟨a, rfl, ?_, fun j u hu => ?_⟩⟩, by simp; omega, hl, (fun x hx => wf_u64 (hwz x (List.mem_of_mem_take hx))), .inr ⟨_, _, hx.1, ?_⟩⟩
    · have hc := hcell 0 (by omega)
      rcases Nat.lt_or_ge a.block W.heap.size with hlt | hge
      · exact hlt
      · have : a.add 0 = a := by simp [Addr.add]
        rw [this] at hc
        simp [World.cell?, Array.getElem?_eq_none hge] at hc
    · unfold u64c at hu
      rw [List.getElem?_map] at hu
      have hjl : j < (zs.take n).length := by
        rcases Nat.lt_or_ge j (zs.take n).length with h1 | h1
        · exact h1
        · rw [List.getElem?_eq_none h1] at hu; cases hu
      have hjz : j < zs.length := by simp at hjl; omega
      have hjn : j < n := by simp at hjl; omega
      rw [hcell j hjz, ← hu, List.getElem?_take, if_pos hjn, List.getElem?_eq_getElem hjz]
      simp [List.getD, hjz]
    · simp [lits]; omega

set_option maxRecDepth 100000 in
theorem open_two {base : Nat} {v : Value} {d : DataW H} {p : List MemPlace} (hv : Value.okWide Try.prog W .any base 26 v) (h : DataW.Trod enc Try.prog W 0 (fun _ => true) true 26 v d p) :
    ∃ c0 c1 : Int, v = .agg #[.int .i64 c0, .int .i64 c1] ∧ (-9223372036854775808 ≤ c0 ∧ c0 ≤ 9223372036854775807) ∧ (-9223372036854775808 ≤ c1 ∧ c1 ≤ 9223372036854775807) := by
  obtain ⟨cs, rfl, hsz⟩ : ∃ cs, v = .agg cs ∧ cs.size = Try.prog.cellsOf 26 := by
    simp only [Value.okWide, Try.underlying26] at hv
    obtain ⟨cs, h1, h2, _⟩ := hv
    exact ⟨cs, h1, h2⟩
  obtain ⟨a, b, rfl⟩ := array2 (hsz.trans (show Try.prog.cellsOf 26 = 2 by kernel_rfl))
  obtain ⟨fuel, hf⟩ := h
  obtain ⟨xs, m, _, _, _, hxl, hg⟩ := DataW.trod_array Try.underlying26 hf
  have g0 := hg 0 (by omega)
  have g1 := hg 1 (by omega)
  rw [show Try.prog.cellsOf 3 = 1 by kernel_rfl] at g0 g1
  simp [Value.cells] at g0 g1
  rw [List.getElem?_eq_getElem (by omega)] at g0 g1
  obtain ⟨n0, e0, _, w0⟩ := DataW.trod_int Try.underlying3 g0
  obtain ⟨n1, e1, _, w1⟩ := DataW.trod_int Try.underlying3 g1
  simp only [List.cons.injEq, and_true] at e0 e1
  subst e0 e1
  exact ⟨n0, n1, rfl, wf_i64 w0, wf_i64 w1⟩
end
end Go.Proofs.Ytlnccpojldiogaa
