/-
  Texts of one seat, one behind the other: Lang, LMath, OMath, OSpn.
-/
import Derived.Test.YtcljjacanomggaaDoorRows

/-
  Graphs as plain data: what nodes read, write and go on to, which graphs are right. Nothing here speaks of the code.
-/
namespace Go.Proofs.YtcljjacanomggaaDoor
set_option linter.unusedVariables false

structure Nd where
  op : Int
  bop : Int
  d : Int
  e : Int
  a : Int
  b : Int
  f : Int
  cell : Int
  imm : Int
  args : List Int
  next : Int
  els : Int
structure Gr where
  params : List Int
  kinds : List Int
  cells : Int
  init : List Int
  result : Bool
  keep : Int
  nodes : List Nd
  entry : Int
instance : DecidableEq Nd := fun x y => decidable_of_iff (x.op = y.op ∧ x.bop = y.bop ∧ x.d = y.d ∧ x.e = y.e ∧ x.a = y.a ∧ x.b = y.b ∧ x.f = y.f ∧ x.cell = y.cell ∧ x.imm = y.imm ∧ x.args = y.args ∧ x.next = y.next ∧ x.els = y.els)
  ⟨fun h => by cases x; cases y; simp only [Nd.mk.injEq]; exact h, fun h => by subst h; exact ⟨rfl, rfl, rfl, rfl, rfl, rfl, rfl, rfl, rfl, rfl, rfl, rfl⟩⟩
instance : DecidableEq Gr := fun x y => decidable_of_iff (x.params = y.params ∧ x.kinds = y.kinds ∧ x.cells = y.cells ∧ x.init = y.init ∧ x.result = y.result ∧ x.keep = y.keep ∧ x.nodes = y.nodes ∧ x.entry = y.entry)
  ⟨fun h => by cases x; cases y; simp only [Gr.mk.injEq]; exact h, fun h => by subst h; exact ⟨rfl, rfl, rfl, rfl, rfl, rfl, rfl, rfl⟩⟩

def Byt (l : List Int) : Prop := ∀ x ∈ l, 0 ≤ x ∧ x ≤ 255
theorem Byt.nil : Byt [] := fun _ h => by cases h
def add1 (l : List Int) (x : Int) : List Int := if 0 ≤ x ∧ x ∉ l then l ++ [x] else l
def addL (l more : List Int) : List Int := more.foldl add1 l
theorem addL_nil (l : List Int) : addL l [] = l := rfl
theorem addL_snoc (l more : List Int) (x : Int) : addL l (more ++ [x]) = add1 (addL l more) x := by simp [addL]
theorem addL_len (l more : List Int) : (addL l more).length ≤ l.length + more.length := by
  unfold addL
  induction more generalizing l with
  | nil => simp
  | cons x r ih =>
    rw [List.foldl_cons]
    have := ih (add1 l x)
    have h1 : (add1 l x).length ≤ l.length + 1 := by unfold add1; split <;> simp
    simp only [List.length_cons]
    omega
def readF (n : Nd) : List Int :=
  if n.op = 2 ∨ n.op = 5 ∨ n.op = 7 ∨ n.op = 9 ∨ n.op = 12 ∨ n.op = 14 ∨ n.op = 17 ∨ n.op = 18 then [n.a]
  else if n.op = 3 ∨ n.op = 8 then [n.a, n.b] else if n.op = 11 ∨ n.op = 13 then n.args else []
def writeF (n : Nd) : List Int :=
  if n.op = 1 ∨ n.op = 2 ∨ n.op = 3 ∨ n.op = 4 ∨ n.op = 6 ∨ n.op = 7 ∨ n.op = 11 ∨ n.op = 16 then [n.d] else if n.op = 15 then [n.d, n.e] else []
def readsOf (n : Nd) : List Int := addL [] (readF n)
def writesOf (n : Nd) : List Int := addL [] (writeF n)
def nextsOf (n : Nd) : List Int :=
  if n.op < 1 ∨ 18 < n.op ∨ n.op = 12 ∨ n.op = 14 ∨ n.op = 18 then []
  else if n.op = 9 ∧ n.els ≠ n.next then [n.next, n.els] else [n.next]
def isOne (i n : Int) : Prop := 0 ≤ i ∧ i < n
instance (i n : Int) : Decidable (isOne i n) := inferInstanceAs (Decidable (_ ∧ _))
def kindAt (ks : List Int) (p : Int) : Int := ks.getD p.toNat 0
def fits (ks : List Int) (bd : Bool) (p k : Int) : Prop := isOne p ks.length ∧ (bd = true ∨ kindAt ks p = k)
instance (ks : List Int) (bd : Bool) (p k : Int) : Decidable (fits ks bd p k) := inferInstanceAs (Decidable (_ ∧ _))
def inOrder (l : List Int) : Prop := ∀ i, i < l.length → l.getD i 0 = i
instance (l : List Int) : Decidable (inOrder l) := inferInstanceAs (Decidable (∀ i, i < l.length → l.getD i 0 = (i : Int)))
def kindsHold (ks : List Int) (bd : Bool) : Prop := ks.length ≤ 1024 ∧ (bd = true → 16 ≤ ks.length) ∧ ∀ k ∈ ks, k = 0 ∨ k = 1
instance (ks : List Int) (bd : Bool) : Decidable (kindsHold ks bd) := inferInstanceAs (Decidable (_ ∧ _ ∧ _))
def paramsHold (ps ks : List Int) (bd : Bool) : Prop := ps.length ≤ 4 ∧ if bd = true then inOrder ps else ∀ i, i < ps.length → isOne (ps.getD i 0) ks.length ∧ ps.getD i 0 ∉ ps.take i
instance (ps ks : List Int) (bd : Bool) : Decidable (paramsHold ps ks bd) := inferInstanceAs (Decidable (_ ∧ _))
def initHolds (ps ks is : List Int) (cells : Int) (bd : Bool) : Prop := is.length = ps.length ∧ ∀ i, i < is.length → is.getD i 0 = -1 ∨ isOne (is.getD i 0) cells ∧ (bd = true ∨ kindAt ks (ps.getD i 0) = 0)
instance (ps ks is : List Int) (cells : Int) (bd : Bool) : Decidable (initHolds ps ks is cells bd) := inferInstanceAs (Decidable (_ ∧ _))
def headHolds (g : Gr) (bd : Bool) : Prop := kindsHold g.kinds bd ∧ 0 ≤ g.cells ∧ g.cells ≤ 64 ∧ paramsHold g.params g.kinds bd ∧ initHolds g.params g.kinds g.init g.cells bd ∧ (g.keep = -1 ∨ isOne g.keep g.cells) ∧ g.nodes.length ≤ 4096 ∧ isOne g.entry g.nodes.length
instance (g : Gr) (bd : Bool) : Decidable (headHolds g bd) := inferInstanceAs (Decidable (_ ∧ _ ∧ _ ∧ _ ∧ _ ∧ _ ∧ _ ∧ _))
def grAt (gs : List Gr) (k : Int) : Gr := gs.getD k.toNat ⟨[], [], 0, [], false, 0, [], 0⟩
def hands (gs : List Gr) (g : Gr) (bd : Bool) (f : Int) (xs : List Int) : Prop :=
  isOne f gs.length ∧ xs.length = (grAt gs f).params.length ∧ if bd = true then inOrder xs else ∀ i, i < xs.length → fits g.kinds false (xs.getD i 0) (kindAt (grAt gs f).kinds ((grAt gs f).params.getD i 0))
instance (gs : List Gr) (g : Gr) (bd : Bool) (f : Int) (xs : List Int) : Decidable (hands gs g bd f xs) := inferInstanceAs (Decidable (_ ∧ _ ∧ _))
def gets (gs : List Gr) (g : Gr) (bd : Bool) (f d : Int) : Prop := d = -1 ∨ (grAt gs f).result = true ∧ fits g.kinds bd d 0 ∧ (bd = false ∨ d = 0)
instance (gs : List Gr) (g : Gr) (bd : Bool) (f d : Int) : Decidable (gets gs g bd f d) := inferInstanceAs (Decidable (_ ∨ _ ∧ _ ∧ _))
def uses (gs : List Gr) (g : Gr) (bd : Bool) (n : Nd) : Prop :=
  if n.op = 1 ∨ n.op = 16 then fits g.kinds bd n.d 0
  else if n.op = 2 then isOne n.a g.kinds.length ∧ fits g.kinds bd n.d (kindAt g.kinds n.a)
  else if n.op = 3 then (7 ≤ n.bop ∧ n.bop ≤ 20) ∧ fits g.kinds bd n.d 0 ∧ fits g.kinds bd n.a 0 ∧ fits g.kinds bd n.b 0
  else if n.op = 4 then isOne n.cell g.cells ∧ fits g.kinds bd n.d 0
  else if n.op = 5 then isOne n.cell g.cells ∧ fits g.kinds bd n.a 0
  else if n.op = 6 then isOne n.cell g.cells ∧ fits g.kinds bd n.d 1
  else if n.op = 7 then fits g.kinds bd n.d 0 ∧ fits g.kinds bd n.a 1
  else if n.op = 8 then fits g.kinds bd n.a 1 ∧ fits g.kinds bd n.b 0
  else if n.op = 9 ∨ n.op = 14 ∨ n.op = 18 ∨ n.op = 17 then fits g.kinds bd n.a 0
  else if n.op = 10 then True
  else if n.op = 11 then hands gs g bd n.f n.args ∧ gets gs g bd n.f n.d
  else if n.op = 12 then (if g.result = true then fits g.kinds bd n.a 0 else n.a = -1)
  else if n.op = 13 then hands gs g bd n.f n.args
  else if n.op = 15 then n.d ≠ n.e ∧ fits g.kinds bd n.d 0 ∧ fits g.kinds bd n.e 0
  else False
instance (gs : List Gr) (g : Gr) (bd : Bool) (n : Nd) : Decidable (uses gs g bd n) := by unfold uses; infer_instance
def nodeHolds (gs : List Gr) (g : Gr) (bd : Bool) (n : Nd) : Prop := uses gs g bd n ∧ ∀ x ∈ nextsOf n, isOne x g.nodes.length
instance (gs : List Gr) (g : Gr) (bd : Bool) (n : Nd) : Decidable (nodeHolds gs g bd n) := inferInstanceAs (Decidable (_ ∧ _))
def valid (gs : List Gr) (bd : Bool) : Prop := (1 ≤ gs.length ∧ gs.length ≤ 16) ∧ ((grAt gs 0).params.length = 0 ∧ (grAt gs 0).result = false) ∧ (∀ g ∈ gs, headHolds g bd) ∧ ∀ g ∈ gs, ∀ n ∈ g.nodes, nodeHolds gs g bd n
instance (gs : List Gr) (bd : Bool) : Decidable (valid gs bd) := inferInstanceAs (Decidable (_ ∧ _ ∧ _ ∧ _))
end Go.Proofs.YtcljjacanomggaaDoor

/-
  Liveness as plain data: which places are live, sets of numbers as words, the search against a graph's direction. Nothing here speaks of the code.
-/
namespace Go.Proofs.YtcljjacanomggaaDoor
set_option linter.unusedVariables false

inductive Live (ns : List Nd) (p : Int) : Nat → Prop
  | here {i : Nat} {n : Nd} (h : ns[i]? = some n) (hr : p ∈ readsOf n) : Live ns p i
  | next {i j : Nat} {n : Nd} (h : ns[i]? = some n) (hw : p ∉ writesOf n) (hj : (j : Int) ∈ nextsOf n) (hl : Live ns p j) : Live ns p i
def LiveO (ns : List Nd) (p : Int) (i : Nat) : Prop := ∃ n, ns[i]? = some n ∧ ∃ j : Nat, (j : Int) ∈ nextsOf n ∧ Live ns p j

def hasW (ws : List Nat) (j : Nat) : Bool := (ws.getD (j / 64) 0).testBit (j % 64)
def addW (ws : List Nat) (j : Nat) : List Nat := ws.set (j / 64) (ws.getD (j / 64) 0 ||| 2 ^ (j % 64))
theorem hasW_add {ws : List Nat} {j : Nat} (h : j / 64 < ws.length) (i : Nat) : hasW (addW ws j) i = (hasW ws i || decide (i = j)) := by
  unfold hasW addW
  rw [List.getD_eq_getElem?_getD, List.getElem?_set]
  by_cases e : j / 64 = i / 64
  · rw [if_pos e, if_pos h]
    simp only [Option.getD_some, Nat.testBit_or, Nat.testBit_two_pow, e]
    congr 1
    by_cases e2 : i = j
    · subst e2
      simp
    · have : ¬ j % 64 = i % 64 := fun h2 => e2 (by omega)
      simp [e2, this]
  · rw [if_neg e, ← List.getD_eq_getElem?_getD]
    have : ¬ i = j := fun h2 => e (by rw [h2])
    simp [this]
theorem addW_len (ws : List Nat) (j : Nat) : (addW ws j).length = ws.length := by simp [addW]
theorem addW_lt {ws : List Nat} (h : ∀ x ∈ ws, x < 18446744073709551616) (j : Nat) : ∀ x ∈ addW ws j, x < 18446744073709551616 := by
  intro x hx
  rcases List.mem_or_eq_of_mem_set hx with hx | rfl
  · exact h x hx
  · have h1 : ws.getD (j / 64) 0 < 2 ^ 64 := by
      rw [List.getD_eq_getElem?_getD]
      rcases e : ws[j / 64]? with _ | y
      · simp
      · simpa using h y (List.mem_of_getElem? e)
    exact Nat.or_lt_two_pow h1 (Nat.pow_lt_pow_right (by decide) (Nat.mod_lt _ (by decide)))
theorem hasW_zero (q j : Nat) : hasW (List.replicate q 0) j = false := by
  unfold hasW
  rw [List.getD_eq_getElem?_getD, List.getElem?_replicate]
  split <;> simp
def hasS (wss : List (List Nat)) (i j : Nat) : Bool := hasW (wss.getD i []) j
def addS (wss : List (List Nat)) (i j : Nat) : List (List Nat) := wss.set i (addW (wss.getD i []) j)
structure WfS (wss : List (List Nat)) (n q m : Nat) : Prop where
  len : wss.length = n
  each : ∀ ws ∈ wss, ws.length = q
  lt : ∀ ws ∈ wss, ∀ x ∈ ws, x < 18446744073709551616
  most : ∀ i j, hasS wss i j = true → j < m
theorem getD_mem {α : Type} {l : List α} {i : Nat} (d : α) (h : i < l.length) : l.getD i d ∈ l := by
  rw [List.getD_eq_getElem?_getD, List.getElem?_eq_getElem h]
  exact List.getElem_mem h
theorem hasS_add {wss : List (List Nat)} {n q m i j : Nat} (h : WfS wss n q m) (hi : i < n) (hj : j / 64 < q) (a b : Nat) : hasS (addS wss i j) a b = (hasS wss a b || decide (a = i ∧ b = j)) := by
  unfold hasS addS
  rw [List.getD_eq_getElem?_getD, List.getElem?_set]
  by_cases e : i = a
  · subst e
    rw [if_pos rfl, if_pos (by rw [h.len]; exact hi)]
    simp only [Option.getD_some, true_and]
    exact hasW_add (by rw [h.each _ (getD_mem _ (by rw [h.len]; exact hi))]; exact hj) b
  · rw [if_neg e, ← List.getD_eq_getElem?_getD]
    have : ¬ a = i := fun h => e h.symm
    simp [this]
theorem addS_wf {wss : List (List Nat)} {n q m i j : Nat} (h : WfS wss n q m) (hi : i < n) (hj : j / 64 < q) (hm : j < m) : WfS (addS wss i j) n q m := by
  have hmem := getD_mem [] (show i < wss.length by rw [h.len]; exact hi)
  refine ⟨by simp [addS, h.len], fun ws hw => ?_, fun ws hw => ?_, fun a b hab => ?_⟩
  · rcases List.mem_or_eq_of_mem_set hw with hw | rfl
    · exact h.each ws hw
    · rw [addW_len]; exact h.each _ hmem
  · rcases List.mem_or_eq_of_mem_set hw with hw | rfl
    · exact h.lt ws hw
    · exact addW_lt (h.lt _ hmem) j
  · rw [hasS_add h hi hj] at hab
    rcases Bool.or_eq_true _ _ ▸ hab with hab | hab
    · exact h.most a b hab
    · have := of_decide_eq_true hab
      omega
theorem zeroS_wf (n q m : Nat) : WfS (List.replicate n (List.replicate q 0)) n q m := by
  refine ⟨by simp, fun ws hw => ?_, fun ws hw x hx => ?_, fun a b hab => ?_⟩
  · rw [List.eq_of_mem_replicate hw]; simp
  · rw [List.eq_of_mem_replicate hw] at hx
    rw [List.eq_of_mem_replicate hx]; decide
  · unfold hasS at hab
    rw [List.getD_eq_getElem?_getD, List.getElem?_replicate] at hab
    split at hab
    · rw [Option.getD_some, hasW_zero] at hab
      cases hab
    · simp [hasW] at hab
theorem zeroS_has (n q a b : Nat) : hasS (List.replicate n (List.replicate q 0)) a b = false := by
  unfold hasS
  rw [List.getD_eq_getElem?_getD, List.getElem?_replicate]
  split
  · rw [Option.getD_some, hasW_zero]
  · simp [hasW]
def cntS (wss : List (List Nat)) (n p : Nat) : Nat := (List.range n).countP fun i => hasS wss i p
theorem cntS_le (wss : List (List Nat)) (n p : Nat) : cntS wss n p ≤ n := by
  unfold cntS
  have := List.countP_le_length (p := fun i => hasS wss i p) (l := List.range n)
  simpa using this
theorem countP_one (P Q : Nat → Bool) (a : Nat) : ∀ n, a < n → P a = false → (∀ i, Q i = (P i || decide (i = a))) → (List.range n).countP Q = (List.range n).countP P + 1
  | 0, h, _, _ => absurd h (by omega)
  | n + 1, h, hP, hQ => by
    rw [List.range_succ, List.countP_append, List.countP_append]
    by_cases e : a = n
    · subst e
      have h1 : (List.range a).countP Q = (List.range a).countP P := List.countP_congr fun i hi => by
        have : i < a := List.mem_range.1 hi
        rw [hQ i]
        have : ¬ i = a := by omega
        simp [this]
      rw [h1]
      simp [hQ, hP]
    · have h1 := countP_one P Q a n (by omega) hP hQ
      rw [h1]
      have : Q n = P n := by
        rw [hQ n]
        have : ¬ n = a := fun h => e h.symm
        simp [this]
      simp [this]
      omega
theorem cntS_add {wss : List (List Nat)} {n q m i j : Nat} (h : WfS wss n q m) (hi : i < n) (hj : j / 64 < q) (hn : hasS wss i j = false) : cntS (addS wss i j) n j = cntS wss n j + 1 :=
  countP_one _ _ i n hi hn fun a => by rw [hasS_add h hi hj]; simp

def addE (bs : List (List Int)) (i : Int) (x : Int) : List (List Int) := bs.set x.toNat (bs.getD x.toNat [] ++ [i])
def befN (bs : List (List Int)) (i : Int) (xs : List Int) : List (List Int) := xs.foldl (fun b x => addE b i x) bs
theorem befN_snoc (bs : List (List Int)) (i x : Int) (xs : List Int) : befN bs i (xs ++ [x]) = addE (befN bs i xs) i x := by simp [befN]
theorem addE_len (bs : List (List Int)) (i x : Int) : (addE bs i x).length = bs.length := by simp [addE]
theorem befN_len (bs : List (List Int)) (i : Int) (xs : List Int) : (befN bs i xs).length = bs.length := by
  induction xs generalizing bs with
  | nil => rfl
  | cons x xs ih => exact (ih _).trans (addE_len _ _ _)
def befK (n : Nat) (ns : List Nd) : Nat → List (List Int)
  | 0 => List.replicate n []
  | k + 1 => befN (befK n ns k) k (match ns[k]? with
    | some x => nextsOf x
    | none => [])
theorem befK_len (n : Nat) (ns : List Nd) : ∀ k, (befK n ns k).length = n
  | 0 => by simp [befK]
  | k + 1 => by rw [befK, befN_len, befK_len n ns k]
theorem addE_mem {bs : List (List Int)} {i x : Int} (h0 : 0 ≤ x) (h1 : x < bs.length) (a : Nat) (y : Int) : y ∈ (addE bs i x).getD a [] ↔ y ∈ bs.getD a [] ∨ (y = i ∧ x = a) := by
  unfold addE
  rw [List.getD_eq_getElem?_getD, List.getElem?_set]
  by_cases e : x.toNat = a
  · rw [if_pos e, if_pos (by omega), Option.getD_some, List.mem_append, e]
    constructor
    · rintro (h | h)
      · exact .inl h
      · exact .inr ⟨by simpa using h, by omega⟩
    · rintro (h | ⟨h, _⟩)
      · exact .inl h
      · exact .inr (by simp [h])
  · rw [if_neg e, ← List.getD_eq_getElem?_getD]
    constructor
    · exact .inl
    · rintro (h | ⟨_, h⟩)
      · exact h
      · omega
theorem befN_mem {i : Int} (a : Nat) (y : Int) : ∀ (xs : List Int) (bs : List (List Int)), (∀ x ∈ xs, 0 ≤ x ∧ x < bs.length) → (y ∈ (befN bs i xs).getD a [] ↔ y ∈ bs.getD a [] ∨ (y = i ∧ (a : Int) ∈ xs))
  | [], bs, _ => by simp [befN]
  | x :: xs, bs, h => by
    have hx := h x (by simp)
    rw [show befN bs i (x :: xs) = befN (addE bs i x) i xs from rfl, befN_mem a y xs (addE bs i x) (fun z hz => by rw [addE_len]; exact h z (by simp [hz])), addE_mem hx.1 hx.2]
    constructor
    · rintro ((h | ⟨h, e⟩) | ⟨h, e⟩)
      · exact .inl h
      · exact .inr ⟨h, by simp [e]⟩
      · exact .inr ⟨h, by simp [e]⟩
    · rintro (h | ⟨h, e⟩)
      · exact .inl (.inl h)
      · rcases List.mem_cons.1 e with e | e
        · exact .inl (.inr ⟨h, e.symm⟩)
        · exact .inr ⟨h, e⟩
def NextIn (ns : List Nd) : Prop := ∀ n ∈ ns, ∀ x ∈ nextsOf n, 0 ≤ x ∧ x < ns.length
theorem befK_mem {ns : List Nd} (hv : NextIn ns) (a : Nat) (y : Int) : ∀ k, k ≤ ns.length → (y ∈ (befK ns.length ns k).getD a [] ↔ ∃ i : Nat, i < k ∧ y = i ∧ ∃ n, ns[i]? = some n ∧ (a : Int) ∈ nextsOf n)
  | 0, _ => by
    rw [befK, List.getD_eq_getElem?_getD, List.getElem?_replicate]
    split <;> simp
  | k + 1, hk => by
    have hkl : k < ns.length := by omega
    have e : ns[k]? = some ns[k] := List.getElem?_eq_getElem hkl
    rw [befK]
    simp only [e]
    rw [befN_mem a y _ _ (fun x hx => by rw [befK_len]; exact hv _ (List.getElem_mem hkl) x hx), befK_mem hv a y k (by omega)]
    constructor
    · rintro (⟨i, h1, h2, h3⟩ | ⟨h1, h2⟩)
      · exact ⟨i, by omega, h2, h3⟩
      · exact ⟨k, by omega, h1, _, e, h2⟩
    · rintro ⟨i, h1, h2, n, h3, h4⟩
      by_cases he : i = k
      · subst he
        rw [e] at h3
        injection h3 with h3
        subst h3
        exact .inr ⟨h2, h4⟩
      · exact .inl ⟨i, by omega, h2, n, h3, h4⟩
theorem addE_el (bs : List (List Int)) (i x : Int) (a : Nat) : ((addE bs i x).getD a []).length ≤ (bs.getD a []).length + 1 := by
  unfold addE
  rw [List.getD_eq_getElem?_getD, List.getElem?_set]
  by_cases e : x.toNat = a
  · rw [if_pos e]
    split
    · rw [Option.getD_some, List.length_append, e]; simp
    · simp
  · rw [if_neg e, ← List.getD_eq_getElem?_getD]
    omega
theorem befN_el (i : Int) (a : Nat) : ∀ (xs : List Int) (bs : List (List Int)), ((befN bs i xs).getD a []).length ≤ (bs.getD a []).length + xs.length
  | [], bs => by simp [befN]
  | x :: xs, bs => by
    have h1 := befN_el i a xs (addE bs i x)
    have h2 := addE_el bs i x a
    rw [show befN bs i (x :: xs) = befN (addE bs i x) i xs from rfl]
    simp only [List.length_cons]
    omega
theorem nexts_len (n : Nd) : (nextsOf n).length ≤ 2 := by
  unfold nextsOf
  split
  · simp
  · split <;> simp
theorem befK_el (n : Nat) (ns : List Nd) (a : Nat) : ∀ k, ((befK n ns k).getD a []).length ≤ 2 * k
  | 0 => by
    rw [befK, List.getD_eq_getElem?_getD, List.getElem?_replicate]
    split <;> simp
  | k + 1 => by
    have h1 := befK_el n ns a k
    have h2 := befN_el k a (match ns[k]? with
      | some x => nextsOf x
      | none => []) (befK n ns k)
    have h3 : (match ns[k]? with
      | some x => nextsOf x
      | none => []).length ≤ 2 := by
      split
      · exact nexts_len _
      · simp
    rw [befK]
    omega

structure SpI (ns : List Nd) (p r : Nat) (w0 wss : List (List Nat)) (wait : List Int) : Prop where
  old : ∀ i q, hasS w0 i q = true → hasS wss i q = true
  sound : ∀ i q, hasS wss i q = true → hasS w0 i q = true ∨ (q = p ∧ Live ns p i)
  wl : ∀ x ∈ wait, ∃ k : Nat, x = k ∧ k < ns.length ∧ Live ns p k
  clo : ∀ a, hasS wss a p = true → ∀ (i : Nat) n, ns[i]? = some n → (p : Int) ∉ writesOf n → (a : Int) ∈ nextsOf n → hasS wss i p = true ∨ (i : Int) ∈ wait
  src : hasS wss r p = true ∨ (r : Int) ∈ wait
theorem SpI.start {ns : List Nd} {p r : Nat} {w0 : List (List Nat)} {n : Nd} (hr : ns[r]? = some n) (hp : (p : Int) ∈ readsOf n)
    (hc : ∀ a, hasS w0 a p = true → ∀ (i : Nat) n, ns[i]? = some n → (p : Int) ∉ writesOf n → (a : Int) ∈ nextsOf n → hasS w0 i p = true) : SpI ns p r w0 w0 [(r : Int)] :=
  ⟨fun _ _ h => h, fun _ _ h => .inl h, fun x hx => ⟨r, by simpa using hx, (List.getElem?_eq_some_iff.1 hr).1, .here hr hp⟩, fun a ha i n h1 h2 h3 => .inl (hc a ha i n h1 h2 h3), .inr (by simp)⟩
theorem SpI.skip {ns : List Nd} {p r : Nat} {w0 wss : List (List Nat)} {wait : List Int} {k : Nat} (h : SpI ns p r w0 wss (wait ++ [(k : Int)])) (hk : hasS wss k p = true) : SpI ns p r w0 wss wait := by
  refine ⟨h.old, h.sound, fun x hx => h.wl x (by simp [hx]), fun a ha i n h1 h2 h3 => ?_, ?_⟩
  · rcases h.clo a ha i n h1 h2 h3 with h4 | h4
    · exact .inl h4
    · rcases List.mem_append.1 h4 with h4 | h4
      · exact .inr h4
      · have : i = k := by have := List.mem_singleton.1 h4; omega
        subst this
        exact .inl hk
  · rcases h.src with h4 | h4
    · exact .inl h4
    · rcases List.mem_append.1 h4 with h4 | h4
      · exact .inr h4
      · have : r = k := by have := List.mem_singleton.1 h4; omega
        subst this
        exact .inl hk
def keepB (ns : List Nd) (p : Nat) (l : List Int) : List Int := l.filter fun x => match ns[x.toNat]? with
  | some n => !(writesOf n).contains (p : Int)
  | none => false
theorem SpI.step {ns : List Nd} {p r n0 q m : Nat} {w0 wss : List (List Nat)} {wait : List Int} {k : Nat} (h : SpI ns p r w0 wss (wait ++ [(k : Int)])) (hw : WfS wss n0 q m) (hk : k < n0) (hq : p / 64 < q) (bk : List Int)
    (hb : ∀ y, y ∈ bk ↔ ∃ i : Nat, y = i ∧ ∃ n, ns[i]? = some n ∧ (k : Int) ∈ nextsOf n) : SpI ns p r w0 (addS wss k p) (wait ++ keepB ns p bk) := by
  have hlk : Live ns p k := by
    obtain ⟨k', e, _, hl⟩ := h.wl (k : Int) (by simp)
    have : k = k' := by omega
    subst this
    exact hl
  have hadd := hasS_add hw hk hq
  refine ⟨fun i j hij => by rw [hadd, h.old i j hij]; rfl, fun i j hij => ?_, fun x hx => ?_, fun a ha i n h1 h2 h3 => ?_, ?_⟩
  · rw [hadd] at hij
    rcases Bool.or_eq_true _ _ ▸ hij with hij | hij
    · exact h.sound i j hij
    · obtain ⟨e1, e2⟩ := of_decide_eq_true hij
      subst e1 e2
      exact .inr ⟨rfl, hlk⟩
  · rcases List.mem_append.1 hx with hx | hx
    · exact h.wl x (by simp [hx])
    · obtain ⟨hm, hf⟩ := List.mem_filter.1 hx
      obtain ⟨i, rfl, n, hn, hnk⟩ := (hb x).1 hm
      rw [Int.toNat_natCast, hn] at hf
      have hf' : ¬ (p : Int) ∈ writesOf n := by simpa using hf
      exact ⟨i, rfl, (List.getElem?_eq_some_iff.1 hn).1, .next hn hf' hnk hlk⟩
  · rw [hadd] at ha
    rcases Bool.or_eq_true _ _ ▸ ha with ha | ha
    · rcases h.clo a ha i n h1 h2 h3 with h4 | h4
      · exact .inl (by rw [hadd, h4]; rfl)
      · rcases List.mem_append.1 h4 with h4 | h4
        · exact .inr (by simp [h4])
        · have : i = k := by have := List.mem_singleton.1 h4; omega
          subst this
          exact .inl (by rw [hadd]; simp)
    · obtain ⟨e1, _⟩ := of_decide_eq_true ha
      subst e1
      refine .inr (List.mem_append_right _ (List.mem_filter.2 ⟨(hb i).2 ⟨i, rfl, n, h1, h3⟩, ?_⟩))
      rw [Int.toNat_natCast, h1]
      simpa using h2
  · rcases h.src with h4 | h4
    · exact .inl (by rw [hadd, h4]; rfl)
    · rcases List.mem_append.1 h4 with h4 | h4
      · exact .inr (by simp [h4])
      · have : r = k := by have := List.mem_singleton.1 h4; omega
        subst this
        exact .inl (by rw [hadd]; simp)
structure LvI (ns : List Nd) (wss : List (List Nat)) (k j : Nat) : Prop where
  sound : ∀ i q, hasS wss i q = true → Live ns q i
  clo : ∀ p a : Nat, hasS wss a p = true → ∀ (i : Nat) n, ns[i]? = some n → (p : Int) ∉ writesOf n → (a : Int) ∈ nextsOf n → hasS wss i p = true
  done : ∀ (i : Nat) n, i < k → ns[i]? = some n → ∀ p : Nat, (p : Int) ∈ readsOf n → hasS wss i p = true
  part : ∀ n, ns[k]? = some n → ∀ p : Nat, (p : Int) ∈ (readsOf n).take j → hasS wss k p = true
theorem LvI.start (ns : List Nd) (n q : Nat) : LvI ns (List.replicate n (List.replicate q 0)) 0 0 :=
  ⟨(fun i j h => by rw [zeroS_has] at h; cases h), (fun p a h => by rw [zeroS_has] at h; cases h), (fun i _ h => absurd h (by omega)), (fun _ _ _ h => by simp at h)⟩
theorem LvI.next {ns : List Nd} {wss : List (List Nat)} {k j : Nat} {n : Nd} (h : LvI ns wss k j) (hn : ns[k]? = some n) (hj : (readsOf n).length ≤ j) : LvI ns wss (k + 1) 0 :=
  ⟨h.sound, h.clo, fun i n' hi hn' p hp => by
    by_cases e : i = k
    · subst e
      rw [hn] at hn'
      injection hn' with hn'
      subst hn'
      exact h.part n hn p (by rw [List.take_of_length_le hj]; exact hp)
    · exact h.done i n' (by omega) hn' p hp, fun _ _ _ h => by simp at h⟩
theorem LvI.spread {ns : List Nd} {wss w2 : List (List Nat)} {k j p : Nat} {n : Nd} (h : LvI ns wss k j) (hn : ns[k]? = some n) (hp : (readsOf n)[j]? = some (p : Int)) (hs : SpI ns p k wss w2 []) : LvI ns w2 k (j + 1) := by
  refine ⟨fun i q hq => ?_, fun p' a ha i n' h1 h2 h3 => ?_, fun i n' hi hn' p' hp' => hs.old _ _ (h.done i n' hi hn' p' hp'), fun n' hn' p' hp' => ?_⟩
  · rcases hs.sound i q hq with h1 | ⟨rfl, h1⟩
    · exact h.sound i q h1
    · exact h1
  · rcases hs.sound a p' ha with h4 | ⟨rfl, _⟩
    · exact hs.old _ _ (h.clo p' a h4 i n' h1 h2 h3)
    · rcases hs.clo a ha i n' h1 h2 h3 with h5 | h5
      · exact h5
      · cases h5
  · rw [hn] at hn'
    injection hn' with hn'
    subst hn'
    rw [List.take_add_one, hp] at hp'
    rcases List.mem_append.1 hp' with h1 | h1
    · exact hs.old _ _ (h.part n hn p' h1)
    · have e : p' = p := by
        have : (p' : Int) = p := by simpa using h1
        omega
      subst e
      rcases hs.src with h5 | h5
      · exact h5
      · cases h5
theorem LvI.all {ns : List Nd} {wss : List (List Nat)} (h : LvI ns wss ns.length 0) (i p : Nat) : hasS wss i p = true ↔ Live ns p i := by
  refine ⟨h.sound i p, fun hl => ?_⟩
  generalize hpp : (p : Int) = pp at hl
  induction hl with
  | here h1 hr =>
    subst hpp
    exact h.done _ _ (List.getElem?_eq_some_iff.1 h1).1 h1 p hr
  | next h1 hw hj _ ih =>
    subst hpp
    exact h.clo p _ ih _ _ h1 hw hj
end Go.Proofs.YtcljjacanomggaaDoor

/-
  A walk through a graph, depth first, as plain data: what it has seen, what it left, in that order; what its line is. Nothing here speaks of the code.
-/
namespace Go.Proofs.YtcljjacanomggaaDoor
set_option linter.unusedVariables false

structure DSt where
  seen : Nat → Bool
  left : List Int
def mkB (s : Nat → Bool) (i : Nat) : Nat → Bool := fun k => if k = i then true else s k
theorem mkB_or (s : Nat → Bool) (i k : Nat) : mkB s i k = (s k || decide (k = i)) := by
  unfold mkB
  by_cases h : k = i
  · rw [if_pos h]; simp [h]
  · rw [if_neg h]; simp [h]
def nxt (ns : List Nd) (i : Nat) : List Int := match ns[i]? with
  | some n => nextsOf n
  | none => []
theorem nxt_at {ns : List Nd} {i : Nat} {n : Nd} (h : ns[i]? = some n) : nxt ns i = nextsOf n := by unfold nxt; rw [h]
theorem nxt_mem {ns : List Nd} {i : Nat} {x : Int} (h : x ∈ nxt ns i) : ∃ n, ns[i]? = some n ∧ x ∈ nextsOf n := by
  unfold nxt at h
  rcases e : ns[i]? with _ | n
  · rw [e] at h; cases h
  · rw [e] at h; exact ⟨n, rfl, h⟩
theorem nxt_in {ns : List Nd} (hv : NextIn ns) {i : Nat} {x : Int} (h : x ∈ nxt ns i) : 0 ≤ x ∧ x < ns.length := by
  obtain ⟨n, h1, h2⟩ := nxt_mem h
  exact hv n (List.mem_of_getElem? h1) x h2
def vis (ns : List Nd) : Nat → Nat → DSt → DSt
  | 0, _, s => s
  | f + 1, i, s =>
    let s2 := (nxt ns i).foldl (fun s x => if s.seen x.toNat = true then s else vis ns f x.toNat s) ⟨mkB s.seen i, s.left⟩
    ⟨s2.seen, s2.left ++ [(i : Int)]⟩
def visS (ns : List Nd) (f : Nat) (s : DSt) (x : Int) : DSt := if s.seen x.toNat = true then s else vis ns f x.toNat s
def visL (ns : List Nd) (f : Nat) (xs : List Int) (s : DSt) : DSt := xs.foldl (visS ns f) s
theorem vis_succ (ns : List Nd) (f i : Nat) (s : DSt) : vis ns (f + 1) i s = ⟨(visL ns f (nxt ns i) ⟨mkB s.seen i, s.left⟩).seen, (visL ns f (nxt ns i) ⟨mkB s.seen i, s.left⟩).left ++ [(i : Int)]⟩ := rfl
theorem visL_snoc (ns : List Nd) (f : Nat) (xs : List Int) (x : Int) (s : DSt) : visL ns f (xs ++ [x]) s = visS ns f (visL ns f xs s) x := by simp [visL]
theorem visS_yes {ns : List Nd} {f : Nat} {s : DSt} {x : Int} (h : s.seen x.toNat = true) : visS ns f s x = s := if_pos h
theorem visS_no {ns : List Nd} {f : Nat} {s : DSt} {x : Int} (h : s.seen x.toNat = false) : visS ns f s x = vis ns f x.toNat s := if_neg (by rw [h]; decide)
def unS (s : Nat → Bool) (n : Nat) : Nat := (List.range n).countP fun i => !s i
theorem unS_mark {s : Nat → Bool} {n i : Nat} (hi : i < n) (h : s i = false) : unS s n = unS (mkB s i) n + 1 := by
  unfold unS
  refine countP_one (fun k => !mkB s i k) (fun k => !s k) i n hi (by simp [mkB]) fun k => ?_
  rw [mkB_or]
  by_cases e : k = i
  · subst e; simp [h]
  · simp [e]
theorem countP_le_of {P Q : Nat → Bool} (h : ∀ i, P i = true → Q i = true) (l : List Nat) : l.countP P ≤ l.countP Q := by
  induction l with
  | nil => simp
  | cons a r ih =>
    rw [List.countP_cons, List.countP_cons]
    rcases hp : P a with _ | _
    · have := Nat.zero_le (if Q a = true then 1 else 0)
      simp only [Bool.false_eq_true, if_false]
      omega
    · rw [h a hp]
      simp only [if_true]
      omega
theorem unS_mono {s t : Nat → Bool} (n : Nat) (h : ∀ k, s k = true → t k = true) : unS t n ≤ unS s n := by
  unfold unS
  refine countP_le_of (fun i hi => ?_) _
  rcases e : s i with _ | _
  · rfl
  · rw [h i e] at hi; cases hi
theorem unS_pos {s : Nat → Bool} {n i : Nat} (hi : i < n) (h : s i = false) : 0 < unS s n := by
  rw [unS_mark hi h]; omega
theorem unS_none (n : Nat) : unS (fun _ => false) n = n := by
  unfold unS
  rw [List.countP_eq_length.2 (fun a _ => by rfl)]
  simp
structure DLp (ns : List Nd) (s t : DSt) (xs : List Int) (l : List Int) : Prop where
  mono : ∀ k, s.seen k = true → t.seen k = true
  left : t.left = s.left ++ l
  nodup : l.Nodup
  mem : ∀ k : Nat, (k : Int) ∈ l ↔ t.seen k = true ∧ s.seen k = false
  nat : ∀ x ∈ l, ∃ k : Nat, x = k ∧ k < ns.length
  clo : ∀ k : Nat, (k : Int) ∈ l → ∀ x ∈ nxt ns k, t.seen x.toNat = true
  all : ∀ x ∈ xs, t.seen x.toNat = true
  pre : ∀ x ∈ l, x ∈ xs ∨ ∃ j : Nat, (j : Int) ∈ l ∧ (j : Int) ≠ x ∧ x ∈ nxt ns j
  cnt : l.length + unS t.seen ns.length = unS s.seen ns.length
theorem DLp.nil (ns : List Nd) (s : DSt) : DLp ns s s [] [] :=
  ⟨fun _ h => h, by simp, List.nodup_nil, (fun k => ⟨(fun h => by cases h), (fun h => by have h2 := h.2; rw [h.1] at h2; cases h2)⟩), (fun x h => by cases h), (fun k h => by cases h), (fun x h => by cases h), (fun x h => by cases h), by simp⟩
theorem DLp.join {ns : List Nd} {s t u : DSt} {xs ys l m : List Int} (h : DLp ns s t xs l) (k : DLp ns t u ys m) : DLp ns s u (xs ++ ys) (l ++ m) := by
  refine ⟨fun i hi => k.mono i (h.mono i hi), by rw [k.left, h.left, List.append_assoc], ?_, fun i => ?_, fun x hx => ?_, fun i hi x hx => ?_, fun x hx => ?_, fun x hx => ?_, by rw [List.length_append]; have h1 := h.cnt; have h2 := k.cnt; omega⟩
  · refine List.nodup_append.2 ⟨h.nodup, k.nodup, fun a ha b hb e => ?_⟩
    subst e
    obtain ⟨i, rfl, _⟩ := h.nat a ha
    have h1 := ((h.mem i).1 ha).1
    have h2 := ((k.mem i).1 hb).2
    rw [h1] at h2
    cases h2
  · rw [List.mem_append, h.mem i, k.mem i]
    constructor
    · rintro (⟨h1, h2⟩ | ⟨h1, h2⟩)
      · exact ⟨k.mono i h1, h2⟩
      · refine ⟨h1, ?_⟩
        rcases e : s.seen i with _ | _
        · rfl
        · rw [h.mono i e] at h2; cases h2
    · rintro ⟨h1, h2⟩
      rcases e : t.seen i with _ | _
      · exact .inr ⟨h1, rfl⟩
      · exact .inl ⟨rfl, h2⟩
  · rcases List.mem_append.1 hx with hx | hx
    · exact h.nat x hx
    · exact k.nat x hx
  · rcases List.mem_append.1 hi with hi | hi
    · exact k.mono _ (h.clo i hi x hx)
    · exact k.clo i hi x hx
  · rcases List.mem_append.1 hx with hx | hx
    · exact k.mono _ (h.all x hx)
    · exact k.all x hx
  · rcases List.mem_append.1 hx with hx | hx
    · rcases h.pre x hx with h1 | ⟨j, h1, h2, h3⟩
      · exact .inl (List.mem_append_left _ h1)
      · exact .inr ⟨j, List.mem_append_left _ h1, h2, h3⟩
    · rcases k.pre x hx with h1 | ⟨j, h1, h2, h3⟩
      · exact .inl (List.mem_append_right _ h1)
      · exact .inr ⟨j, List.mem_append_right _ h1, h2, h3⟩
theorem DLp.seen {ns : List Nd} {s : DSt} {x : Int} (h : s.seen x.toNat = true) : DLp ns s s [x] [] :=
  ⟨fun _ h => h, by simp, List.nodup_nil, (fun k => ⟨(fun h => by cases h), (fun h => by have h2 := h.2; rw [h.1] at h2; cases h2)⟩), (fun x h => by cases h), (fun k h => by cases h), (fun y hy => by rw [List.mem_singleton.1 hy]; exact h), (fun x h => by cases h), by simp⟩
theorem visL_ok {ns : List Nd} (hv : NextIn ns) {f : Nat} (hvis : ∀ (i : Nat) (s : DSt), i < ns.length → s.seen i = false → unS s.seen ns.length ≤ f → ∃ l, DLp ns s (vis ns f i s) [(i : Int)] l) :
    ∀ (xs : List Int) (s : DSt), (∀ x ∈ xs, 0 ≤ x ∧ x < (ns.length : Int)) → unS s.seen ns.length ≤ f → ∃ l, DLp ns s (visL ns f xs s) xs l
  | [], s, _, _ => ⟨[], DLp.nil ns s⟩
  | x :: xs, s, hx, hu => by
    obtain ⟨x0, x1⟩ := hx x (by simp)
    obtain ⟨k, rfl⟩ : ∃ k : Nat, x = (k : Int) := ⟨x.toNat, by omega⟩
    have h1 : ∃ l, DLp ns s (visS ns f s (k : Int)) [(k : Int)] l := by
      rcases e : s.seen k with _ | _
      · rw [visS_no (by rw [Int.toNat_natCast]; exact e), Int.toNat_natCast]
        exact hvis k s (by omega) e hu
      · rw [visS_yes (by rw [Int.toNat_natCast]; exact e)]
        exact ⟨[], DLp.seen (by rw [Int.toNat_natCast]; exact e)⟩
    obtain ⟨l1, h1⟩ := h1
    obtain ⟨l2, h2⟩ := visL_ok hv hvis xs (visS ns f s (k : Int)) (fun y hy => hx y (by simp [hy])) (Nat.le_trans (unS_mono _ h1.mono) hu)
    exact ⟨l1 ++ l2, h1.join h2⟩
theorem vis_ok {ns : List Nd} (hv : NextIn ns) : ∀ (f i : Nat) (s : DSt), i < ns.length → s.seen i = false → unS s.seen ns.length ≤ f → ∃ l, DLp ns s (vis ns f i s) [(i : Int)] (l ++ [(i : Int)])
  | 0, i, s, hi, h, hu => absurd (unS_pos hi h) (by omega)
  | f + 1, i, s, hi, h, hu => by
    have hm := unS_mark hi h
    obtain ⟨l, hl⟩ := visL_ok hv (fun j t hj ht htu => by
      obtain ⟨l, hl⟩ := vis_ok hv f j t hj ht htu
      exact ⟨_, hl⟩) (nxt ns i) ⟨mkB s.seen i, s.left⟩ (fun x hx => nxt_in hv hx) (by show unS (mkB s.seen i) _ ≤ f; omega)
    have hmi : ∀ k, mkB s.seen i k = true ↔ s.seen k = true ∨ k = i := fun k => by rw [mkB_or]; simp
    have hni : (i : Int) ∉ l := fun hx => by
      have h2 := ((hl.mem i).1 hx).2
      rw [show (DSt.mk (mkB s.seen i) s.left).seen i = true from (hmi i).2 (.inr rfl)] at h2
      cases h2
    refine ⟨l, ?_⟩
    rw [vis_succ]
    refine ⟨fun k hk => hl.mono k ((hmi k).2 (.inl hk)), ?_, ?_, fun k => ?_, fun x hx => ?_, fun k hk x hx => ?_, fun x hx => ?_, fun x hx => ?_, ?_⟩
    · show (visL ns f (nxt ns i) ⟨mkB s.seen i, s.left⟩).left ++ [(i : Int)] = _
      rw [hl.left, List.append_assoc]
    · refine List.nodup_append.2 ⟨hl.nodup, by simp, fun a ha b hb e => ?_⟩
      rw [List.mem_singleton.1 hb] at e
      subst e
      exact hni ha
    · rw [List.mem_append, List.mem_singleton, hl.mem k]
      show _ ∧ mkB s.seen i k = false ∨ _ ↔ _
      constructor
      · rintro (⟨h1, h2⟩ | h1)
        · refine ⟨h1, ?_⟩
          rcases e : s.seen k with _ | _
          · rfl
          · rw [(hmi k).2 (.inl e)] at h2; cases h2
        · have : k = i := by omega
          subst this
          exact ⟨hl.mono k ((hmi k).2 (.inr rfl)), h⟩
      · rintro ⟨h1, h2⟩
        by_cases e : k = i
        · exact .inr (by rw [e])
        · refine .inl ⟨h1, ?_⟩
          rw [mkB_or, h2]
          simp [e]
    · rcases List.mem_append.1 hx with hx | hx
      · exact hl.nat x hx
      · exact ⟨i, List.mem_singleton.1 hx, hi⟩
    · rcases List.mem_append.1 hk with hk | hk
      · exact hl.clo k hk x hx
      · have : k = i := by have := List.mem_singleton.1 hk; omega
        subst this
        exact hl.all x hx
    · rw [List.mem_singleton.1 hx, Int.toNat_natCast]
      exact hl.mono i ((hmi i).2 (.inr rfl))
    · rcases List.mem_append.1 hx with hx | hx
      · refine .inr ?_
        rcases hl.pre x hx with h1 | ⟨j, h1, h2, h3⟩
        · exact ⟨i, List.mem_append_right _ (by simp), fun e => hni (by rw [e]; exact hx), h1⟩
        · exact ⟨j, List.mem_append_left _ h1, h2, h3⟩
      · exact .inl hx
    · have h1 : l.length + unS (visL ns f (nxt ns i) ⟨mkB s.seen i, s.left⟩).seen ns.length = unS (mkB s.seen i) ns.length := hl.cnt
      show (l ++ [(i : Int)]).length + unS (visL ns f (nxt ns i) ⟨mkB s.seen i, s.left⟩).seen ns.length = _
      rw [List.length_append, List.length_singleton]
      omega
theorem nodup_rev {l : List Int} (h : l.Nodup) : l.reverse.Nodup := by
  unfold List.Nodup at h ⊢
  exact (List.pairwise_reverse).2 (h.imp fun hab => hab.symm)
def leftK (ns : List Nd) (e : Nat) : List Int := (vis ns ns.length e ⟨fun _ => false, []⟩).left
def lineK (ns : List Nd) (e : Nat) : List Int := (leftK ns e).reverse
structure LineP (ns : List Nd) (e : Nat) (l : List Int) : Prop where
  len : l.length ≤ ns.length
  nodup : l.Nodup
  nat : ∀ x ∈ l, ∃ k : Nat, x = k ∧ k < ns.length
  first : ∃ r, l = (e : Int) :: r
  clo : ∀ k : Nat, (k : Int) ∈ l → ∀ x ∈ nxt ns k, x ∈ l
  pre : ∀ x ∈ l, x ≠ e → ∃ j : Nat, (j : Int) ∈ l ∧ (j : Int) ≠ x ∧ x ∈ nxt ns j
theorem lineK_ok {ns : List Nd} (hv : NextIn ns) {e : Nat} (he : e < ns.length) : LineP ns e (lineK ns e) := by
  obtain ⟨l, h⟩ := vis_ok hv ns.length e ⟨fun _ => false, []⟩ he rfl (by rw [unS_none]; exact Nat.le_refl _)
  have hle : leftK ns e = l ++ [(e : Int)] := by
    unfold leftK
    rw [h.left]
    rfl
  have hre : lineK ns e = (e : Int) :: l.reverse := by
    unfold lineK
    rw [hle]
    simp
  have hm : ∀ x, x ∈ lineK ns e ↔ x ∈ l ++ [(e : Int)] := fun x => by
    unfold lineK
    rw [List.mem_reverse, hle]
  refine ⟨?_, ?_, fun x hx => h.nat x ((hm x).1 hx), ⟨_, hre⟩, fun k hk x hx => ?_, fun x hx hne => ?_⟩
  · have h1 := h.cnt
    rw [show unS (DSt.mk (fun _ => false) []).seen ns.length = ns.length from unS_none _] at h1
    unfold lineK
    rw [hle, List.length_reverse]
    omega
  · unfold lineK
    rw [hle]
    exact nodup_rev h.nodup
  · have h1 := h.clo k ((hm _).1 hk) x hx
    obtain ⟨h0, _⟩ := nxt_in hv hx
    rw [hm, show x = ((x.toNat : Nat) : Int) by omega, h.mem]
    exact ⟨h1, rfl⟩
  · rcases h.pre x ((hm x).1 hx) with h1 | ⟨j, h1, h2, h3⟩
    · exact absurd (List.mem_singleton.1 h1) hne
    · exact ⟨j, (hm _).2 h1, h2, h3⟩
end Go.Proofs.YtcljjacanomggaaDoor

/-
  Intervals as plain data: where a place is in use along a line, from where to where, and whether it is held over a call. Nothing here speaks of the code.
-/
namespace Go.Proofs.YtcljjacanomggaaDoor
set_option linter.unusedVariables false

structure Iv where
  p : Int
  f : Int
  t : Int
  h : Bool
instance : DecidableEq Iv := fun x y => decidable_of_iff (x.p = y.p ∧ x.f = y.f ∧ x.t = y.t ∧ x.h = y.h)
  ⟨fun h => by cases x; cases y; simp only [Iv.mk.injEq]; exact h, fun h => by subst h; exact ⟨rfl, rfl, rfl, rfl⟩⟩
def atL (l : List Int) (k : Nat) : Nat := (l.getD k 0).toNat
def WorkN (ns : List Nd) (p : Int) (i : Nat) : Prop := Live ns p i ∨ ∃ n, ns[i]? = some n ∧ p ∈ writesOf n
def WorkP (ns : List Nd) (ps l : List Int) (p : Int) (k : Nat) : Prop := WorkN ns p (atL l k) ∨ (k = 0 ∧ p ∈ ps)
def HeldN (ns : List Nd) (p : Int) (i : Nat) : Prop := ∃ n, ns[i]? = some n ∧ (n.op = 11 ∨ n.op = 13) ∧ LiveO ns p i ∧ p ∉ writesOf n
theorem HeldN.work {ns : List Nd} {p : Int} {i : Nat} (h : HeldN ns p i) : WorkN ns p i := by
  obtain ⟨n, h1, _, ⟨n2, h2, j, h3, h4⟩, h5⟩ := h
  rw [h1] at h2
  injection h2 with h2
  subst h2
  exact .inl (.next h1 h5 h3 h4)
open Classical in
noncomputable def ivK (ns : List Nd) (ps l : List Int) (p : Int) : Nat → Iv
  | 0 => ⟨p, -1, 0, false⟩
  | k + 1 =>
    let s := ivK ns ps l p k
    if WorkP ns ps l p k then ⟨p, if s.f < 0 then (k : Int) else s.f, k, s.h || decide (HeldN ns p (atL l k))⟩ else s
theorem ivK_p (ns : List Nd) (ps l : List Int) (p : Int) : ∀ k, (ivK ns ps l p k).p = p
  | 0 => rfl
  | k + 1 => by
    rw [ivK]
    split
    · rfl
    · exact ivK_p ns ps l p k
theorem ivK_no {ns : List Nd} {ps l : List Int} {p : Int} {k : Nat} (h : ¬ WorkP ns ps l p k) : ivK ns ps l p (k + 1) = ivK ns ps l p k := by
  rw [ivK]
  rw [if_neg h]
open Classical in
theorem ivK_yes {ns : List Nd} {ps l : List Int} {p : Int} {k : Nat} (h : WorkP ns ps l p k) : ivK ns ps l p (k + 1) = ⟨p, if (ivK ns ps l p k).f < 0 then (k : Int) else (ivK ns ps l p k).f, k, (ivK ns ps l p k).h || decide (HeldN ns p (atL l k))⟩ := by
  rw [ivK]
  rw [if_pos h]
theorem ivK_ok (ns : List Nd) (ps l : List Int) (p : Int) : ∀ k, ((ivK ns ps l p k).f = -1 ∧ ∀ j, j < k → ¬ WorkP ns ps l p j) ∨ (0 ≤ (ivK ns ps l p k).f ∧ (ivK ns ps l p k).f ≤ (ivK ns ps l p k).t ∧ (ivK ns ps l p k).t < k ∧ ∀ j : Nat, j < k → WorkP ns ps l p j → (ivK ns ps l p k).f ≤ j ∧ (j : Int) ≤ (ivK ns ps l p k).t)
  | 0 => .inl ⟨rfl, fun j hj => absurd hj (by omega)⟩
  | k + 1 => by
    by_cases hw : WorkP ns ps l p k
    · right
      rw [ivK_yes hw]
      simp only
      rcases ivK_ok ns ps l p k with ⟨h1, h2⟩ | ⟨h1, h2, h3, h4⟩
      · rw [h1, if_pos (by decide)]
        refine ⟨by omega, by omega, by omega, fun j hj hwj => ?_⟩
        by_cases e : j = k
        · omega
        · exact absurd hwj (h2 j (by omega))
      · rw [if_neg (by omega)]
        refine ⟨h1, by omega, by omega, fun j hj hwj => ?_⟩
        by_cases e : j = k
        · omega
        · have := h4 j (by omega) hwj
          omega
    · rw [ivK_no hw]
      rcases ivK_ok ns ps l p k with ⟨h1, h2⟩ | ⟨h1, h2, h3, h4⟩
      · refine .inl ⟨h1, fun j hj => ?_⟩
        by_cases e : j = k
        · subst e; exact hw
        · exact h2 j (by omega)
      · refine .inr ⟨h1, h2, by omega, fun j hj hwj => ?_⟩
        by_cases e : j = k
        · subst e; exact absurd hwj hw
        · exact h4 j (by omega) hwj
theorem ivK_le (ns : List Nd) (ps l : List Int) (p : Int) (k : Nat) : -1 ≤ (ivK ns ps l p k).f ∧ (ivK ns ps l p k).f ≤ k ∧ 0 ≤ (ivK ns ps l p k).t ∧ (ivK ns ps l p k).t ≤ k := by
  induction k with
  | zero =>
    rw [show ivK ns ps l p 0 = ⟨p, -1, 0, false⟩ from rfl]
    exact ⟨by show (-1 : Int) ≤ -1; decide, by show (-1 : Int) ≤ ((0 : Nat) : Int); decide, Int.le_refl _, Int.le_refl _⟩
  | succ k ih =>
    by_cases hw : WorkP ns ps l p k
    · rw [ivK_yes hw]
      simp only
      split <;> omega
    · rw [ivK_no hw]
      omega
noncomputable def spansL (ns : List Nd) (ps l : List Int) (m : Nat) : List Iv := ((List.range m).map fun p : Nat => ivK ns ps l (p : Int) l.length).filter fun s => decide (0 ≤ s.f)
theorem spansL_mem {ns : List Nd} {ps l : List Int} {m : Nat} {s : Iv} : s ∈ spansL ns ps l m ↔ ∃ p : Nat, p < m ∧ s = ivK ns ps l (p : Int) l.length ∧ 0 ≤ s.f := by
  unfold spansL
  rw [List.mem_filter, List.mem_map]
  constructor
  · rintro ⟨⟨p, hp, rfl⟩, h2⟩
    exact ⟨p, List.mem_range.1 hp, rfl, of_decide_eq_true h2⟩
  · rintro ⟨p, hp, rfl, h2⟩
    exact ⟨⟨p, List.mem_range.2 hp, rfl⟩, decide_eq_true h2⟩
noncomputable def spansJ (ns : List Nd) (ps l : List Int) (j : Nat) : List Iv := spansL ns ps l j
theorem spansL_succ (ns : List Nd) (ps l : List Int) (j : Nat) : spansL ns ps l (j + 1) = spansL ns ps l j ++ (if 0 ≤ (ivK ns ps l (j : Int) l.length).f then [ivK ns ps l (j : Int) l.length] else []) := by
  unfold spansL
  rw [List.range_succ, List.map_append, List.filter_append]
  congr 1
  rw [List.map_singleton]
  by_cases h : 0 ≤ (ivK ns ps l (j : Int) l.length).f
  · rw [if_pos h, List.filter_cons_of_pos (by simpa using h), List.filter_nil]
  · rw [if_neg h, List.filter_cons_of_neg (by simpa using h), List.filter_nil]
theorem spansL_len (ns : List Nd) (ps l : List Int) (m : Nat) : (spansL ns ps l m).length ≤ m := by
  unfold spansL
  have := List.length_filter_le (fun s : Iv => decide (0 ≤ s.f)) ((List.range m).map fun p : Nat => ivK ns ps l (p : Int) l.length)
  simpa using this
noncomputable def ivC (ns : List Nd) (ps l : List Int) (p : Int) (k : Nat) : Iv := let s := ivK ns ps l p k; if s.f < 0 ∧ p ∈ ps then ⟨p, 0, s.t, s.h⟩ else s
def recI (k : Nat) (s : Iv) : Iv := ⟨s.p, if s.f = -1 then (k : Int) else s.f, k, s.h⟩
theorem recI_twice (k : Nat) (s : Iv) : recI k (recI k s) = recI k s := by
  unfold recI
  simp only
  by_cases h : s.f = -1
  · rw [if_pos h, if_neg (by omega)]
  · rw [if_neg h, if_neg h]
def recL (k : Nat) (xs : List Int) (g : Nat → Iv) : Nat → Iv := fun p => if (p : Int) ∈ xs then recI k (g p) else g p
theorem recL_nil (k : Nat) (g : Nat → Iv) : recL k [] g = g := by
  funext p
  unfold recL
  rw [if_neg (by simp)]
theorem recL_snoc (k : Nat) (xs : List Int) (x : Nat) (g : Nat → Iv) : recL k (xs ++ [(x : Int)]) g = fun p => if p = x then recI k (recL k xs g p) else recL k xs g p := by
  funext p
  unfold recL
  by_cases e : p = x
  · subst e
    rw [if_pos rfl, if_pos (by simp)]
    by_cases h : (p : Int) ∈ xs
    · rw [if_pos h, recI_twice]
    · rw [if_neg h]
  · rw [if_neg e]
    by_cases h : (p : Int) ∈ xs
    · rw [if_pos h, if_pos (by simp [h])]
    · rw [if_neg h, if_neg (by
        intro h2
        rcases List.mem_append.1 h2 with h2 | h2
        · exact h h2
        · have := List.mem_singleton.1 h2
          omega)]
def helL (xs ws : List Int) (g : Nat → Iv) : Nat → Iv := fun p => if (p : Int) ∈ xs ∧ (p : Int) ∉ ws then ⟨(g p).p, (g p).f, (g p).t, true⟩ else g p
theorem helL_nil (ws : List Int) (g : Nat → Iv) : helL [] ws g = g := by
  funext p
  unfold helL
  rw [if_neg (by simp)]
theorem helL_skip {xs ws : List Int} {x : Nat} {g : Nat → Iv} (h : (x : Int) ∈ ws) : helL (xs ++ [(x : Int)]) ws g = helL xs ws g := by
  funext p
  unfold helL
  by_cases e : (p : Int) ∈ xs ∧ (p : Int) ∉ ws
  · rw [if_pos e, if_pos ⟨by simp [e.1], e.2⟩]
  · rw [if_neg e, if_neg (by
      rintro ⟨h1, h2⟩
      rcases List.mem_append.1 h1 with h1 | h1
      · exact e ⟨h1, h2⟩
      · rw [List.mem_singleton.1 h1] at h2
        exact h2 h)]
theorem helL_add {xs ws : List Int} {x : Nat} {g : Nat → Iv} (h : (x : Int) ∉ ws) : helL (xs ++ [(x : Int)]) ws g = fun p => if p = x then ⟨(helL xs ws g p).p, (helL xs ws g p).f, (helL xs ws g p).t, true⟩ else helL xs ws g p := by
  funext p
  unfold helL
  by_cases e : p = x
  · subst e
    rw [if_pos rfl, if_pos ⟨by simp, h⟩]
    by_cases h1 : (p : Int) ∈ xs ∧ (p : Int) ∉ ws
    · rw [if_pos h1]
    · rw [if_neg h1]
  · rw [if_neg e]
    by_cases h1 : (p : Int) ∈ xs ∧ (p : Int) ∉ ws
    · rw [if_pos h1, if_pos ⟨by simp [h1.1], h1.2⟩]
    · rw [if_neg h1, if_neg (by
        rintro ⟨h2, h3⟩
        rcases List.mem_append.1 h2 with h2 | h2
        · exact h1 ⟨h2, h3⟩
        · have := List.mem_singleton.1 h2
          omega)]
open Classical in
theorem ivC_step {ns : List Nd} {ps l : List Int} {k : Nat} {n : Nd} {la lo : List Int} {m : Nat} (hn : ns[atL l k]? = some n) (hk : k < l.length)
    (hla : ∀ p : Nat, p < m → ((p : Int) ∈ la ↔ Live ns p (atL l k))) (hlo : ∀ p : Nat, p < m → ((p : Int) ∈ lo ↔ LiveO ns p (atL l k))) (p : Nat) (hp : p < m) :
    (if n.op = 11 ∨ n.op = 13 then helL lo (writesOf n) (recL k (writesOf n) (recL k la fun p => ivC ns ps l p k)) p else recL k (writesOf n) (recL k la fun p => ivC ns ps l p k) p) = ivC ns ps l p (k + 1) := by
  have hW : WorkN ns (p : Int) (atL l k) ↔ (p : Int) ∈ la ∨ (p : Int) ∈ writesOf n := by
    unfold WorkN
    rw [hla p hp]
    constructor
    · rintro (h | ⟨n2, h1, h2⟩)
      · exact .inl h
      · rw [hn] at h1
        injection h1 with h1
        subst h1
        exact .inr h2
    · rintro (h | h)
      · exact .inl h
      · exact .inr ⟨n, hn, h⟩
  have hH : HeldN ns (p : Int) (atL l k) ↔ (n.op = 11 ∨ n.op = 13) ∧ (p : Int) ∈ lo ∧ (p : Int) ∉ writesOf n := by
    unfold HeldN
    rw [hlo p hp]
    constructor
    · rintro ⟨n2, h1, h2, h3, h4⟩
      rw [hn] at h1
      injection h1 with h1
      subst h1
      exact ⟨h2, h3, h4⟩
    · rintro ⟨h2, h3, h4⟩
      exact ⟨n, hn, h2, h3, h4⟩
  have hR : recL k (writesOf n) (recL k la fun p => ivC ns ps l p k) p = if WorkN ns (p : Int) (atL l k) then recI k (ivC ns ps l p k) else ivC ns ps l p k := by
    unfold recL
    by_cases h1 : (p : Int) ∈ la
    · rw [if_pos (hW.2 (.inl h1)), if_pos h1]
      by_cases h2 : (p : Int) ∈ writesOf n
      · rw [if_pos h2, recI_twice]
      · rw [if_neg h2]
    · rw [if_neg h1]
      by_cases h2 : (p : Int) ∈ writesOf n
      · rw [if_pos h2, if_pos (hW.2 (.inr h2))]
      · rw [if_neg h2, if_neg (fun h => by rcases hW.1 h with h | h; exact h1 h; exact h2 h)]
  have hC : ∀ j, (ivK ns ps l (p : Int) j).f < 0 → (ivK ns ps l (p : Int) j).f = -1 := fun j hj => by have := (ivK_le ns ps l (p : Int) j).1; omega
  have hfin : (if WorkN ns (p : Int) (atL l k) then (⟨(p : Int), (recI k (ivC ns ps l p k)).f, k, (ivC ns ps l p k).h || decide ((n.op = 11 ∨ n.op = 13) ∧ (p : Int) ∈ lo ∧ (p : Int) ∉ writesOf n)⟩ : Iv) else ivC ns ps l p k) = ivC ns ps l p (k + 1) := by
    have hdec : decide (HeldN ns (p : Int) (atL l k)) = decide ((n.op = 11 ∨ n.op = 13) ∧ (p : Int) ∈ lo ∧ (p : Int) ∉ writesOf n) := by
      exact Bool.eq_iff_iff.2 (by rw [decide_eq_true_iff, decide_eq_true_iff]; exact hH)
    by_cases hw : WorkN ns (p : Int) (atL l k)
    · rw [if_pos hw]
      unfold ivC
      simp only
      rw [ivK_yes (.inl hw)]
      simp only
      by_cases h0 : (ivK ns ps l (p : Int) k).f < 0
      · have h1 := hC k h0
        by_cases hpp : (p : Int) ∈ ps
        · rw [if_pos ⟨h0, hpp⟩, if_pos h0, if_neg (by rintro ⟨h2, _⟩; omega)]
          unfold recI
          simp only
          have hk0 : k = 0 := by
            rcases Nat.eq_zero_or_pos k with h | h
            · exact h
            · exfalso
              rcases ivK_ok ns ps l (p : Int) k with ⟨_, h2⟩ | ⟨h2, _⟩
              · exact h2 0 h (.inr ⟨rfl, hpp⟩)
              · omega
          subst hk0
          rw [← hdec]
          rfl
        · rw [if_neg (fun h => hpp h.2), if_pos h0, if_neg (fun h => hpp h.2)]
          unfold recI
          simp only
          rw [h1, if_pos rfl, ← hdec]
      · rw [if_neg (fun h => h0 h.1), if_neg h0, if_neg (fun h => h0 h.1)]
        unfold recI
        simp only
        rw [if_neg (by omega), ← hdec]
    · rw [if_neg hw]
      have hnh : ¬ HeldN ns (p : Int) (atL l k) := fun h => hw h.work
      unfold ivC
      simp only
      by_cases hz : k = 0 ∧ (p : Int) ∈ ps
      · obtain ⟨rfl, hpp⟩ := hz
        rw [ivK_yes (.inr ⟨rfl, hpp⟩)]
        rw [show (ivK ns ps l (p : Int) 0) = ⟨p, -1, 0, false⟩ from rfl]
        simp only
        rw [if_pos ⟨by decide, hpp⟩]
        simp [hnh]
      · have hnw : ¬ WorkP ns ps l (p : Int) k := by
          rintro (h | h)
          · exact hw h
          · exact hz h
        rw [ivK_no hnw]
  rw [← hfin]
  have hp' : (ivC ns ps l (p : Int) k).p = p := by
    unfold ivC
    simp only
    split
    · rfl
    · exact ivK_p _ _ _ _ _
  by_cases hop : n.op = 11 ∨ n.op = 13
  · rw [if_pos hop]
    unfold helL
    by_cases h1 : (p : Int) ∈ lo ∧ (p : Int) ∉ writesOf n
    · have hw : WorkN ns (p : Int) (atL l k) := (hH.2 ⟨hop, h1⟩).work
      rw [if_pos h1, hR, if_pos hw, if_pos hw, decide_eq_true ⟨hop, h1⟩, Bool.or_true]
      unfold recI
      rw [hp']
    · rw [if_neg h1, hR]
      by_cases hw : WorkN ns (p : Int) (atL l k)
      · rw [if_pos hw, if_pos hw, decide_eq_false (fun h => h1 h.2), Bool.or_false]
        unfold recI
        rw [hp']
      · rw [if_neg hw, if_neg hw]
  · rw [if_neg hop, hR]
    by_cases hw : WorkN ns (p : Int) (atL l k)
    · rw [if_pos hw, if_pos hw, decide_eq_false (fun h => hop h.1), Bool.or_false]
      unfold recI
      rw [hp']
    · rw [if_neg hw, if_neg hw]
theorem ivC_end {ns : List Nd} {ps l : List Int} {p : Int} (h : 0 < l.length) : ivC ns ps l p l.length = ivK ns ps l p l.length := by
  unfold ivC
  simp only
  rw [if_neg]
  rintro ⟨h1, h2⟩
  rcases ivK_ok ns ps l p l.length with ⟨_, h3⟩ | ⟨h3, _⟩
  · exact h3 0 h (.inr ⟨rfl, h2⟩)
  · omega
theorem ivC_start (ns : List Nd) (ps l : List Int) (p : Nat) : ivC ns ps l p 0 = recL 0 ps (fun p => ⟨p, -1, 0, false⟩) p := by
  unfold ivC recL recI
  simp only
  rw [show (ivK ns ps l (p : Int) 0) = ⟨p, -1, 0, false⟩ from rfl]
  simp only
  by_cases h : (p : Int) ∈ ps
  · rw [if_pos ⟨by decide, h⟩, if_pos h]
    rfl
  · rw [if_neg (fun h2 => h h2.2), if_neg h]
theorem spans_meet {ns : List Nd} {ps l : List Int} {p : Int} {k : Nat} (hk : k < l.length) (h : Live ns p (atL l k)) : 0 ≤ (ivK ns ps l p l.length).f ∧ (ivK ns ps l p l.length).f ≤ k ∧ (k : Int) ≤ (ivK ns ps l p l.length).t := by
  rcases ivK_ok ns ps l p l.length with ⟨_, h3⟩ | ⟨h1, _, _, h4⟩
  · exact absurd (.inl (.inl h)) (h3 k hk)
  · exact ⟨h1, h4 k hk (.inl (.inl h))⟩
end Go.Proofs.YtcljjacanomggaaDoor
