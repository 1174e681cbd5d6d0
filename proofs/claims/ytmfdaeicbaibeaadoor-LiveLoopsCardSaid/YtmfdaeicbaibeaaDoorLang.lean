/-
  Graphs as plain data: what nodes read, write and go on to, which graphs are right. Nothing here speaks of the code.
-/
import Derived.Test.YtmfdaeicbaibeaaDoorRows
namespace Go.Proofs.YtmfdaeicbaibeaaDoor
set_option linter.unusedVariables false

/-- a node -/
structure Nd where
  op : Int
  bop : Int
  d : Int
  e : Int
  a : Int
  b : Int
  f : Int
  cell : Int
  imm : Int
  args : List Int
  next : Int
  els : Int
/-- a graph -/
structure Gr where
  params : List Int
  kinds : List Int
  cells : Int
  init : List Int
  result : Bool
  keep : Int
  nodes : List Nd
  entry : Int
instance : DecidableEq Nd := fun x y => decidable_of_iff (x.op = y.op ∧ x.bop = y.bop ∧ x.d = y.d ∧ x.e = y.e ∧ x.a = y.a ∧ x.b = y.b ∧ x.f = y.f ∧ x.cell = y.cell ∧ x.imm = y.imm ∧ x.args = y.args ∧ x.next = y.next ∧ x.els = y.els)
  ⟨fun h => by cases x; cases y; simp only [Nd.mk.injEq]; exact h, fun h => by subst h; exact ⟨rfl, rfl, rfl, rfl, rfl, rfl, rfl, rfl, rfl, rfl, rfl, rfl⟩⟩
instance : DecidableEq Gr := fun x y => decidable_of_iff (x.params = y.params ∧ x.kinds = y.kinds ∧ x.cells = y.cells ∧ x.init = y.init ∧ x.result = y.result ∧ x.keep = y.keep ∧ x.nodes = y.nodes ∧ x.entry = y.entry)
  ⟨fun h => by cases x; cases y; simp only [Gr.mk.injEq]; exact h, fun h => by subst h; exact ⟨rfl, rfl, rfl, rfl, rfl, rfl, rfl, rfl⟩⟩

/-- all are bytes -/
def Byt (l : List Int) : Prop := ∀ x ∈ l, 0 ≤ x ∧ x ≤ 255
theorem Byt.nil : Byt [] := fun _ h => by cases h
/-- one number more, if it is none of them and not negative -/
def add1 (l : List Int) (x : Int) : List Int := if 0 ≤ x ∧ x ∉ l then l ++ [x] else l
def addL (l more : List Int) : List Int := more.foldl add1 l
theorem addL_nil (l : List Int) : addL l [] = l := rfl
theorem addL_snoc (l more : List Int) (x : Int) : addL l (more ++ [x]) = add1 (addL l more) x := by simp [addL]
theorem addL_len (l more : List Int) : (addL l more).length ≤ l.length + more.length := by
  unfold addL
  induction more generalizing l with
  | nil => simp
  | cons x r ih =>
    rw [List.foldl_cons]
    have := ih (add1 l x)
    have h1 : (add1 l x).length ≤ l.length + 1 := by unfold add1; split <;> simp
    simp only [List.length_cons]
    omega
/-- the fields that a node reads, writes -/
def readF (n : Nd) : List Int :=
  if n.op = 2 ∨ n.op = 5 ∨ n.op = 7 ∨ n.op = 9 ∨ n.op = 12 ∨ n.op = 14 ∨ n.op = 17 ∨ n.op = 18 then [n.a]
  else if n.op = 3 ∨ n.op = 8 then [n.a, n.b] else if n.op = 11 ∨ n.op = 13 then n.args else []
def writeF (n : Nd) : List Int :=
  if n.op = 1 ∨ n.op = 2 ∨ n.op = 3 ∨ n.op = 4 ∨ n.op = 6 ∨ n.op = 7 ∨ n.op = 11 ∨ n.op = 16 then [n.d] else if n.op = 15 then [n.d, n.e] else []
def readsOf (n : Nd) : List Int := addL [] (readF n)
def writesOf (n : Nd) : List Int := addL [] (writeF n)
def nextsOf (n : Nd) : List Int :=
  if n.op < 1 ∨ 18 < n.op ∨ n.op = 12 ∨ n.op = 14 ∨ n.op = 18 then []
  else if n.op = 9 ∧ n.els ≠ n.next then [n.next, n.els] else [n.next]
/-- one of n things -/
def isOne (i n : Int) : Prop := 0 ≤ i ∧ i < n
instance (i n : Int) : Decidable (isOne i n) := inferInstanceAs (Decidable (_ ∧ _))
def kindAt (ks : List Int) (p : Int) : Int := ks.getD p.toNat 0
/-- a place is there, of the kind (if kinds are asked) -/
def fits (ks : List Int) (bd : Bool) (p k : Int) : Prop := isOne p ks.length ∧ (bd = true ∨ kindAt ks p = k)
instance (ks : List Int) (bd : Bool) (p k : Int) : Decidable (fits ks bd p k) := inferInstanceAs (Decidable (_ ∧ _))
/-- numbers in their order -/
def inOrder (l : List Int) : Prop := ∀ i, i < l.length → l.getD i 0 = i
instance (l : List Int) : Decidable (inOrder l) := inferInstanceAs (Decidable (∀ i, i < l.length → l.getD i 0 = (i : Int)))
def kindsHold (ks : List Int) (bd : Bool) : Prop := ks.length ≤ 1024 ∧ (bd = true → 16 ≤ ks.length) ∧ ∀ k ∈ ks, k = 0 ∨ k = 1
instance (ks : List Int) (bd : Bool) : Decidable (kindsHold ks bd) := inferInstanceAs (Decidable (_ ∧ _ ∧ _))
def paramsHold (ps ks : List Int) (bd : Bool) : Prop := ps.length ≤ 4 ∧ if bd = true then inOrder ps else ∀ i, i < ps.length → isOne (ps.getD i 0) ks.length ∧ ps.getD i 0 ∉ ps.take i
instance (ps ks : List Int) (bd : Bool) : Decidable (paramsHold ps ks bd) := inferInstanceAs (Decidable (_ ∧ _))
def initHolds (ps ks is : List Int) (cells : Int) (bd : Bool) : Prop := is.length = ps.length ∧ ∀ i, i < is.length → is.getD i 0 = -1 ∨ isOne (is.getD i 0) cells ∧ (bd = true ∨ kindAt ks (ps.getD i 0) = 0)
instance (ps ks is : List Int) (cells : Int) (bd : Bool) : Decidable (initHolds ps ks is cells bd) := inferInstanceAs (Decidable (_ ∧ _))
/-- all of a graph but its nodes -/
def headHolds (g : Gr) (bd : Bool) : Prop := kindsHold g.kinds bd ∧ 0 ≤ g.cells ∧ g.cells ≤ 64 ∧ paramsHold g.params g.kinds bd ∧ initHolds g.params g.kinds g.init g.cells bd ∧ (g.keep = -1 ∨ isOne g.keep g.cells) ∧ g.nodes.length ≤ 4096 ∧ isOne g.entry g.nodes.length
instance (g : Gr) (bd : Bool) : Decidable (headHolds g bd) := inferInstanceAs (Decidable (_ ∧ _ ∧ _ ∧ _ ∧ _ ∧ _ ∧ _ ∧ _))
def grAt (gs : List Gr) (k : Int) : Gr := gs.getD k.toNat ⟨[], [], 0, [], false, 0, [], 0⟩
/-- arguments for a function that is there -/
def hands (gs : List Gr) (g : Gr) (bd : Bool) (f : Int) (xs : List Int) : Prop :=
  isOne f gs.length ∧ xs.length = (grAt gs f).params.length ∧ if bd = true then inOrder xs else ∀ i, i < xs.length → fits g.kinds false (xs.getD i 0) (kindAt (grAt gs f).kinds ((grAt gs f).params.getD i 0))
instance (gs : List Gr) (g : Gr) (bd : Bool) (f : Int) (xs : List Int) : Decidable (hands gs g bd f xs) := inferInstanceAs (Decidable (_ ∧ _ ∧ _))
def gets (gs : List Gr) (g : Gr) (bd : Bool) (f d : Int) : Prop := d = -1 ∨ (grAt gs f).result = true ∧ fits g.kinds bd d 0 ∧ (bd = false ∨ d = 0)
instance (gs : List Gr) (g : Gr) (bd : Bool) (f d : Int) : Decidable (gets gs g bd f d) := inferInstanceAs (Decidable (_ ∨ _ ∧ _ ∧ _))
/-- what a node uses, but for the nodes behind it -/
def uses (gs : List Gr) (g : Gr) (bd : Bool) (n : Nd) : Prop :=
  if n.op = 1 ∨ n.op = 16 then fits g.kinds bd n.d 0
  else if n.op = 2 then isOne n.a g.kinds.length ∧ fits g.kinds bd n.d (kindAt g.kinds n.a)
  else if n.op = 3 then (7 ≤ n.bop ∧ n.bop ≤ 20) ∧ fits g.kinds bd n.d 0 ∧ fits g.kinds bd n.a 0 ∧ fits g.kinds bd n.b 0
  else if n.op = 4 then isOne n.cell g.cells ∧ fits g.kinds bd n.d 0
  else if n.op = 5 then isOne n.cell g.cells ∧ fits g.kinds bd n.a 0
  else if n.op = 6 then isOne n.cell g.cells ∧ fits g.kinds bd n.d 1
  else if n.op = 7 then fits g.kinds bd n.d 0 ∧ fits g.kinds bd n.a 1
  else if n.op = 8 then fits g.kinds bd n.a 1 ∧ fits g.kinds bd n.b 0
  else if n.op = 9 ∨ n.op = 14 ∨ n.op = 18 ∨ n.op = 17 then fits g.kinds bd n.a 0
  else if n.op = 10 then True
  else if n.op = 11 then hands gs g bd n.f n.args ∧ gets gs g bd n.f n.d
  else if n.op = 12 then (if g.result = true then fits g.kinds bd n.a 0 else n.a = -1)
  else if n.op = 13 then hands gs g bd n.f n.args
  else if n.op = 15 then n.d ≠ n.e ∧ fits g.kinds bd n.d 0 ∧ fits g.kinds bd n.e 0
  else False
instance (gs : List Gr) (g : Gr) (bd : Bool) (n : Nd) : Decidable (uses gs g bd n) := by unfold uses; infer_instance
def nodeHolds (gs : List Gr) (g : Gr) (bd : Bool) (n : Nd) : Prop := uses gs g bd n ∧ ∀ x ∈ nextsOf n, isOne x g.nodes.length
instance (gs : List Gr) (g : Gr) (bd : Bool) (n : Nd) : Decidable (nodeHolds gs g bd n) := inferInstanceAs (Decidable (_ ∧ _))
def valid (gs : List Gr) (bd : Bool) : Prop := (1 ≤ gs.length ∧ gs.length ≤ 16) ∧ ((grAt gs 0).params.length = 0 ∧ (grAt gs 0).result = false) ∧ (∀ g ∈ gs, headHolds g bd) ∧ ∀ g ∈ gs, ∀ n ∈ g.nodes, nodeHolds gs g bd n
instance (gs : List Gr) (bd : Bool) : Decidable (valid gs bd) := inferInstanceAs (Decidable (_ ∧ _ ∧ _ ∧ _))
end Go.Proofs.YtmfdaeicbaibeaaDoor
