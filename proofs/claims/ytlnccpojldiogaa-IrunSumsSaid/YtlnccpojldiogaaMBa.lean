/-
  Texts of one seat, one behind the other: IMach, IPag, IPut, IPutW, IMem.
-/
import Derived.Lib.AppendZerosOnto
import Derived.Deep.RegionLaw
import Derived.Test.YtlnccpojldiogaaMAa

/-
  What graphs do, step by step, as plain functions, read free or bound (bd). Nothing here speaks of the code. Rows that grow at their end (frames, deferred calls, panics) are kept the last one first.
-/
namespace Go.Proofs.Ytlnccpojldiogaa
set_option linter.unusedVariables false

/-- a deferred call -/
structure IDf where
  fn : Nat
  args : List Int
/-- a frame; why: 0 the first, 1 called, 2 deferred, 3 called by a panic; words: its cells, then its own places -/
structure IFr where
  why : Nat
  f : Nat
  serial : Nat
  at_ : Int
  words : Nat → Int
  defs : List IDf
  number : Int
  answer : Int
  before : List Int
/-- a run; doing: 0 executing, 1 ending, 2 unwinding, 3 over; hidn, kb: while a frame is being made (else 0, none): how many of the frames are in no row yet; words that are being read -/
structure IMc where
  tape : List Int
  evs : List (Int × Int)
  frames : List IFr
  begun : Nat
  panics : List (Int × Bool)
  waiting : Nat
  doing : Int
  endk : Int
  endv : Int
  steps : Nat
  depth : Nat
  defers : Nat
  maxp : Nat
  regs : List Int
  hidn : Nat
  kb : List (Addr × List Value)
def iByZero : Int := 18446744073709551615
def iByNull : Int := 18446744073709551614
def iPoison : Int := 6510615555426900570
def iFirst : Int := 13246092442546995200
def grOf (gs : List Gr) (k : Nat) : Gr := gs.getD k ⟨[], [], 0, [], false, 0, [], 0⟩
def put1 (wd : Nat → Int) (k : Nat) (v : Int) : Nat → Int := fun x => if x = k then v else wd x
/-- where a frame's own place is among its words -/
def ownAt (gs : List Gr) (bd : Bool) (f : Nat) (p : Int) : Nat := ((grOf gs f).cells + p - (if bd = true then 16 else 0)).toNat
def getP (gs : List Gr) (bd : Bool) (regs : List Int) (t : IFr) (p : Int) : Int := if bd = true ∧ p < 16 then regs.getD p.toNat 0 else t.words (ownAt gs bd t.f p)
def putR (bd : Bool) (regs : List Int) (p v : Int) : List Int := if bd = true ∧ p < 16 then regs.set p.toNat v else regs
def putT (gs : List Gr) (bd : Bool) (t : IFr) (p v : Int) : IFr := if bd = true ∧ p < 16 then t else { t with words := put1 t.words (ownAt gs bd t.f p) v }
/-- a run whose last frame, and whose registers, have a place written -/
def IMc.top (st : IMc) (t : IFr) (bl : List IFr) : IMc := { st with frames := t :: bl }
def IMc.put (st : IMc) (gs : List Gr) (bd : Bool) (t : IFr) (bl : List IFr) (p v : Int) : IMc := { st with frames := putT gs bd t p v :: bl, regs := putR bd st.regs p v }
/-- the last frame's place once more -/
def IMc.put2 (st : IMc) (gs : List Gr) (bd : Bool) (bl : List IFr) (p v : Int) : IMc := match st.frames with
  | t :: _ => st.put gs bd t bl p v
  | [] => st
def IMc.over (st : IMc) (k v : Int) : IMc := { st with doing := 3, endk := k, endv := v }
def IMc.raise (st : IMc) (v : Int) : IMc := { st with panics := (v, false) :: st.panics, maxp := max st.maxp (st.panics.length + 1), doing := 2 }
/-- arguments laid into a new frame -/
def layP (gs : List Gr) (bd : Bool) : List Int → List Int → List Int → List Int × IFr → List Int × IFr
  | p :: ps, c :: cs, a :: xs, (r, t) =>
    let r' := putR bd r p a
    let t' := putT gs bd t p a
    layP gs bd ps cs xs (r', if c = -1 then t' else { t' with words := put1 t'.words c.toNat a })
  | _, _, _, x => x
def IMc.begin (st : IMc) (gs : List Gr) (bd : Bool) (why k : Nat) (args : List Int) : IMc :=
  let x := layP gs bd (grOf gs k).params (grOf gs k).init args (st.regs, ⟨why, k, st.begun, (grOf gs k).entry, fun _ => 0, [], 0, 0, List.replicate 16 0⟩)
  { st with frames := x.2 :: st.frames, regs := x.1, begun := st.begun + 1, depth := max st.depth (st.frames.length + 1), doing := 0 }
/-- the cell that a word points at: how many frames below the last one, and which -/
def pointee (gs : List Gr) (frames : List IFr) (v : Int) : Option (Nat × Nat) :=
  let n := (v - iFirst) % 18446744073709551616
  match frames.findIdx? (fun t => decide ((t.serial : Int) = n / 64)) with
  | some j => match frames[j]? with
    | some t => if n % 64 < (grOf gs t.f).cells then some (j, (n % 64).toNat) else none
    | none => none
  | none => none
def argsP (gs : List Gr) (bd : Bool) (regs : List Int) (t : IFr) (ps : List Int) : List Int := ps.map (getP gs bd regs t)
/-- a node of the last frame t, over bl -/
def execI (gs : List Gr) (bd : Bool) (st : IMc) (t : IFr) (bl : List IFr) (n : Nd) : Option IMc :=
  let get := getP gs bd st.regs t
  if n.op = 1 then some (st.put gs bd t bl n.d n.imm)
  else if n.op = 2 then some (st.put gs bd t bl n.d (get n.a))
  else if n.op = 3 then (if doE n.bop (get n.b) = 0 then some (st.put gs bd t bl n.d (doV n.bop (get n.a) (get n.b))) else some ((st.top t bl).raise iByZero))
  else if n.op = 4 then some (st.put gs bd t bl n.d (t.words n.cell.toNat))
  else if n.op = 5 then some (st.top { t with words := put1 t.words n.cell.toNat (get n.a) } bl)
  else if n.op = 6 then some (st.put gs bd t bl n.d ((iFirst + t.serial * 64 + n.cell) % 18446744073709551616))
  else if n.op = 7 then match pointee gs (t :: bl) (get n.a) with
    | some (j, c) => ((t :: bl)[j]?).map fun u => st.put gs bd t bl n.d (u.words c)
    | none => some ((st.top t bl).raise iByNull)
  else if n.op = 8 then match pointee gs (t :: bl) (get n.a) with
    | some (j, c) => ((t :: bl)[j]?).map fun u => { st with frames := (t :: bl).set j { u with words := put1 u.words c (get n.b) } }
    | none => some ((st.top t bl).raise iByNull)
  else if n.op = 9 then some (st.top { t with at_ := if get n.a = 0 then n.els else t.at_ } bl)
  else if n.op = 10 then some (st.top t bl)
  else if n.op = 11 then some ((st.top (if bd = true then { t with before := st.regs } else { t with answer := n.d }) bl).begin gs bd 1 n.f.toNat (argsP gs bd st.regs t n.args))
  else if n.op = 12 then some { st.top (if n.a = -1 then t else { t with number := get n.a }) bl with doing := 1 }
  else if n.op = 13 then some { st.top { t with defs := ⟨n.f.toNat, argsP gs bd st.regs t n.args⟩ :: t.defs } bl with waiting := st.waiting + 1, defers := max st.defers (st.waiting + 1) }
  else if n.op = 14 then some ((st.top t bl).raise (get n.a))
  else if n.op = 15 then (if t.why = 3 then match st.panics with
      | (v, false) :: ps => some (({ st with panics := (v, true) :: ps }).put gs bd t bl n.d v |>.put2 gs bd bl n.e 1)
      | (_, true) :: _ => some ((st.put gs bd t bl n.d 0).put2 gs bd bl n.e 0)
      | [] => none else some ((st.put gs bd t bl n.d 0).put2 gs bd bl n.e 0))
  else if n.op = 16 then some ({ st with tape := st.tape.tail, evs := st.evs ++ [(2, st.tape.headD 0)] }.put gs bd t bl n.d (st.tape.headD 0))
  else if n.op = 17 then some { st.top t bl with evs := st.evs ++ [(1, get n.a)] }
  else if n.op = 18 then some ((st.top t bl).over 1 (get n.a))
  else none
/-- what the frame below gets, when one that it called has ended with this number -/
def resumeR (bd : Bool) (before : List Int) (result : Bool) (number : Int) : List Int :=
  if bd = true then (List.range 16).map fun i => if i = 0 ∧ result = true then number else if 6 ≤ i ∧ i < 12 then before.getD i 0 else iPoison else []
def keptI (gs : List Gr) (t : IFr) : Int := if (grOf gs t.f).keep = -1 then 0 else t.words (grOf gs t.f).keep.toNat
/-- one thing that a step brings about, where a frame ends or the active panic goes on -/
def settleI1 (gs : List Gr) (bd : Bool) (st : IMc) : Option IMc := match st.frames with
  | [] => none
  | t :: bl => match t.defs with
    | d :: ds => if 0 < st.waiting then some ({ st.top { t with defs := ds } bl with waiting := st.waiting - 1 }.begin gs bd (if st.doing = 1 then 2 else 3) d.fn d.args) else none
    | [] =>
      let s1 : IMc := { st with frames := bl }
      if st.doing = 1 then
        (if t.why = 0 then some (s1.over 1 0)
        else if t.why = 1 then match bl with
          | b :: bl' => if bd = true then some { s1 with regs := resumeR bd b.before (grOf gs t.f).result t.number, doing := 0 }
            else if b.answer = -1 then some { s1 with doing := 0 } else some { s1.put gs bd b bl' b.answer t.number with doing := 0 }
          | [] => none
        else if t.why = 2 then some s1
        else match st.panics, bl with
          | (_, true) :: ps, b :: bl' => some { s1 with panics := ps, frames := { b with number := keptI gs b } :: bl' }
          | (_, false) :: _, _ => some { s1 with doing := 2 }
          | _, _ => none)
      else
        (match (if t.why = 3 then (match st.panics with
            | p :: _ :: ps => some (p :: ps)
            | _ => none) else some st.panics) with
        | some ps => (match bl with
          | [] => (match ps with
            | (v, _) :: _ => some ({ s1 with panics := ps }.over 2 v)
            | [] => none)
          | _ :: _ => some { s1 with panics := ps })
        | none => none)
def settleI (gs : List Gr) (bd : Bool) : Nat → IMc → Option IMc
  | 0, _ => none
  | n + 1, st => if st.doing = 1 ∨ st.doing = 2 then (settleI1 gs bd st).bind (settleI gs bd n) else some st
/-- a step -/
def stepI (gs : List Gr) (bd : Bool) (st : IMc) : Option IMc := match st.frames with
  | [] => none
  | t :: bl => match (grOf gs t.f).nodes[t.at_.toNat]? with
    | some n => if 0 ≤ t.at_ then (execI gs bd { st with steps := st.steps + 1 } { t with at_ := n.next } bl n).bind (settleI gs bd (st.frames.length + 2)) else none
    | none => none
def startI (gs : List Gr) (bd : Bool) (tape : List Int) : IMc := (⟨tape, [], [], 0, [], 0, 0, 0, 0, 0, 0, 0, 0, if bd = true then List.replicate 16 0 else [], 0, []⟩ : IMc).begin gs bd 0 0 []
/-- steps, as many as there is fuel -/
def runsI (gs : List Gr) (bd : Bool) (st : IMc) : Nat → Option IMc
  | 0 => some st
  | n + 1 => if st.doing = 3 then some st else (stepI gs bd st).bind fun st' => runsI gs bd st' n
def runPI (gs : List Gr) (bd : Bool) (tape : List Int) (fuel : Nat) : Option IMc := (runsI gs bd (startI gs bd tape) fuel).map fun st => if st.doing = 3 then st else st.over 3 0
/-- the statements' first graph -/
def firstG : List Gr := [⟨[], [0], 0, [], false, -1, [⟨1, 0, 0, 0, 0, 0, 0, 0, 7, [], 1, 0⟩, ⟨17, 0, 0, 0, 0, 0, 0, 0, 0, [], 2, 0⟩, ⟨12, 0, 0, 0, -1, 0, 0, 0, 0, [], 0, 0⟩], 0⟩]
theorem firstI : (runPI firstG false [] 10).map (fun st => (st.evs, st.doing, st.endk, st.endv, st.steps)) = some ([(1, 7)], 3, 1, 0, 3) := by decide +kernel
theorem firstV : valid firstG false := by decide +kernel
end Go.Proofs.Ytlnccpojldiogaa

/-
  Package irun: a frame's words in memory: pages, made when they are written to. get and put.
-/
namespace Go.Proofs.Ytlnccpojldiogaa
set_option linter.unusedVariables false
set_option linter.unusedSimpArgs false
open Go.ChangeShapes Go.WideShapes Go.ChangeAt Go.RowKit

def pgV (p : Option Nat) : Value := .pointer (p.map fun b => ⟨b, 0, none⟩)
def pgC (wd : Nat → Int) (i : Nat) : List Value := u64c ((List.range 16).map fun j => wd (16 * i + j))
/-- words in pages: the row of pages, each page -/
structure PgAt (W : World) (ow : Nat → Nat) (base ra rb : Nat) (v : Value) (wd : Nat → Int) (ps : List (Option Nat)) : Prop where
  row : OR W ow base ra 190 1 v ps.length (ps.map pgV)
  none_ : ∀ i : Nat, ps[i]? = some none → ∀ j, j < 16 → wd (16 * i + j) = 0
  some_ : ∀ (i : Nat) p, ps[i]? = some (some p) → OB W ow base rb p 191 (pgC wd i).toArray
  inj : ∀ (i j : Nat) p, ps[i]? = some (some p) → ps[j]? = some (some p) → i = j
  out : ∀ x, 16 * ps.length ≤ x → wd x = 0
section
variable {W W' W1 : World} {ow ow' : Nat → Nat} {ex : Nat → Prop} {base ra rb i j k p : Nat} {v : Value} {wd : Nat → Int} {ps : List (Option Nat)}
theorem pgC_at (hj : j < 16) : (pgC wd i)[j]? = some (.int .u64 (wd (16 * i + j))) := u64c_at (by simp [hj])
theorem pgC_set (hj : j < 16) (x : Int) : (pgC wd i).toArray.setIfInBounds j (.int .u64 x) = (pgC (put1 wd (16 * i + j) x) i).toArray := by
  apply Array.ext'
  rw [Array.toList_setIfInBounds]
  show (pgC wd i).set j _ = pgC _ i
  unfold pgC u64c
  rw [← List.map_set]
  congr 1
  apply List.ext_getElem (by simp)
  intro k h1 h2
  simp only [List.length_map, List.length_range] at h2
  rw [List.getElem_set]
  simp only [List.getElem_map, List.getElem_range, put1]
  by_cases hk : j = k
  · rw [if_pos hk, if_pos (by omega)]
  · rw [if_neg hk, if_neg (by omega)]
theorem pgC_other {x : Int} (h : i ≠ k) (hj : j < 16) : pgC (put1 wd (16 * k + j) x) i = pgC wd i := by
  unfold pgC
  congr 1
  apply List.map_congr_left
  intro m hm
  have := List.mem_range.1 hm
  unfold put1
  rw [if_neg (by omega)]
theorem PgAt.kr (h : PgAt W ow base ra rb v wd ps) (kr : Kr ex ow ow' W W') (h1 : ¬ ex ra) (h2 : ¬ ex rb) : PgAt W' ow' base ra rb v wd ps :=
  ⟨h.row.kr kr h1, h.none_, fun i p hp => (h.some_ i p hp).kr kr h2, h.inj, h.out⟩
theorem PgAt.new (W : World) (ow : Nat → Nat) (base ra rb : Nat) : PgAt W ow base ra rb (.slice none 0 0) (fun _ => 0) [] :=
  ⟨⟨own_none _ _ _ _, fun g hg => by cases hg⟩, fun i h => by simp at h, fun i p h => by simp at h, fun i j p h => by simp at h, fun _ _ => rfl⟩
/-- a cell of a row -/
theorem OR.cell8 {base r q k m c : Nat} {e : TypeId} {xs : List Value} {u : Value} (h : OR W ow base r e 1 (.slice (some ⟨q, 0, none⟩) m c) m xs) (hx : xs[k]? = some u) : q < W.heap.size ∧ W.cell? ⟨q, k, none⟩ = some u ∧ W.frozen? ⟨q, k, none⟩ = false ∧ k < m ∧ m ≤ c ∧ base ≤ q ∧ ow q = r := by
  have hk : k < m := by
    have h1 := h.own.1
    have := (List.getElem?_eq_some_iff.1 hx).1
    omega
  have hr := h.role q rfl
  rcases h.own.2 with ⟨he, _⟩ | ⟨q', cap, cur, he, hb, hh, hnc, hcm, hcs, hxs⟩
  · cases he
  · injection he with h1 h2 h3
    injection h1 with h1
    injection h1 with h1
    subst h1 h3
    have hbk : Blk W q e cur := hh
    refine ⟨hbk.lt, ?_, hbk.frozen k, hk, hnc, hb, hr⟩
    rw [hbk.cell]
    have h2 : (cur.toList.take (m * 1))[k]? = some u := by rw [hxs]; exact hx
    rw [List.getElem?_take, if_pos (by omega)] at h2
    rw [← Array.getElem?_toList]
    exact h2
theorem OR.form8 {base r m : Nat} {e : TypeId} {size : Nat} {v : Value} {xs : List Value} (h : OR W ow base r e size v m xs) (hm : 0 < m) : ∃ q c, v = .slice (some ⟨q, 0, none⟩) m c := by
  rcases h.own.2 with ⟨_, h0⟩ | ⟨q, cap, cur, he, _⟩
  · omega
  · exact ⟨q, cap, he⟩
set_option maxRecDepth 100000 in
set_option maxHeartbeats 1600000 in
/-- a word is read -/
theorem pget_any (q o a : Nat) (h : PgAt W ow base ra rb v wd ps) (hc : W.cell? ⟨q, o, none⟩ = some v) (ha : a ≤ 1000000) (hl : ps.length ≤ 1000000) :
    Calls Try.prog 78 #[.pointer (some ⟨q, o, none⟩), .int .i64 a] W fun e w' => e = .returned (.int .u64 (wd a)) ∧ W = w' := by
  obtain ⟨i, hi⟩ : ∃ i, i = a / 16 := ⟨_, rfl⟩
  obtain ⟨j, hj⟩ : ∃ j, j = a % 16 := ⟨_, rfl⟩
  have hq : (a : Int) / 16 = (i : Int) := by omega
  have hr : (a : Int) % 16 = (j : Int) := by omega
  have hij : a = 16 * i + j := by omega
  have hj16 : j < 16 := by omega
  obtain ⟨n, hn⟩ : ∃ n, n = ps.length := ⟨_, rfl⟩
  obtain ⟨A, c, hv⟩ := h.row.slice
  have hc' := hc
  rw [hv, ← hn] at hc'
  rw [← hn] at hl
  by_cases hin : n ≤ i
  · have hz := h.out a (by omega)
    rw [hz]
    clear h hv hc hi hj hij hn
    go_enter Try.func78, Try.ntmps78
    go_wp2
    go_ret
    exact ⟨rfl, rfl⟩
  · obtain ⟨pp, hp⟩ : ∃ pp, ps[i]? = some pp := ⟨_, List.getElem?_eq_getElem (by omega)⟩
    obtain ⟨g, cg, hg⟩ := h.row.form8 (by omega)
    rw [hv] at hg
    injection hg with hg1 hg2 hg3
    have hrow := h.row
    rw [hv, hg1] at hrow
    obtain ⟨e1, e2, _, e4, e5, _, _⟩ := hrow.cell8 (k := i) (u := pgV pp) (by rw [List.getElem?_map, hp]; rfl)
    rw [hg1] at hc'
    have hlt : i < n := by omega
    have hge : decide (n ≤ i) = false := by simpa using hlt
    cases pp with
    | none =>
      have hz := h.none_ i hp j hj16
      rw [← hij] at hz
      rw [hz]
      have e2' : W.cell? ⟨g, i, none⟩ = some (.pointer none) := e2
      clear h hv hc hi hj hrow hp e2 hij hn hin
      go_enter Try.func78, Try.ntmps78
      go_wp2
      go_ret
      exact ⟨rfl, rfl⟩
    | some p =>
      have hP := h.some_ i p hp
      have e2' : W.cell? ⟨g, i, none⟩ = some (.pointer (some ⟨p, 0, none⟩)) := e2
      have e3 : W.cell? ⟨p, j, none⟩ = some (.int .u64 (wd a)) := by rw [hP.blk.cell, List.getElem?_toArray, pgC_at hj16, ← hij]
      obtain ⟨u, hu⟩ : ∃ u, u = wd a := ⟨_, rfl⟩
      rw [← hu] at e3 ⊢
      clear h hv hc hi hj hrow hp e2 hP hu hij hn hin
      go_enter Try.func78, Try.ntmps78
      go_wp2
      go_ret
      exact ⟨rfl, rfl⟩
end
end Go.Proofs.Ytlnccpojldiogaa

/-
  Package irun: a word is written: the row of pages grows, a page is made.
-/
namespace Go.Proofs.Ytlnccpojldiogaa
set_option linter.unusedVariables false
set_option linter.unusedSimpArgs false
open Go.ChangeShapes Go.WideShapes Go.ChangeAt Go.RowKit

theorem zeroCells_one (z : Value) (k : Nat) : (Builtin.zeroCells #[z] k).toList = List.replicate k z := by
  apply List.ext_getElem
  · simp [Builtin.zeroCells]
  · intro i h1 h2
    simp [Builtin.zeroCells, Nat.mod_one]
section
variable {P : Program} (w : World)
theorem run_zeros_room (t tn ty e : TypeId) (i : TypeInfo) (z : Value) (kq kn : IntKind) (ht : P.underlying t = some (.slice e)) (htn : P.underlying tn = some (.int kn)) (hi : P.info? e = some i) (hz : i.zero = some z) (hs : i.size = 1) (hzc : z.cells = #[z]) (hz1 : z.oneCell' = true)
    (g n cap k : Nat) (cur : Array Value) (hg : w.heap[g]? = some (.cells cur e (0, 0))) (hcs : cur.size = cap) (hroom : n + k ≤ cap) (h63 : ((n + k : Nat) : Int) ≤ 9223372036854775807) (h48 : k * i.bytes ≤ 281474976710656) :
    (Builtin.append_ #[t, tn] ty #[.slice (some ⟨g, 0, none⟩) n cap, .int kq k]).run P w =
      .ok (.slice (some ⟨g, 0, none⟩) (n + k) cap) (w.setRow g (cur.toList.take n ++ List.replicate k z ++ cur.toList.drop (n + k)).toArray) := by
  have hw : IntKind.i64.wrap (k : Int) = k := by rw [IntKind.wrap_i64]; omega
  have h48i : ¬ (281474976710656 < (k : Int) * (i.bytes : Int)) := by
    rw [← Int.natCast_mul]
    omega
  have hneg : ¬ ((k : Int) < 0) := by omega
  have hst := run_storeCells_at P g n e (List.replicate k z) 0 cur w hg (by simp; omega) (fun u hu => by obtain ⟨_, rfl⟩ := List.mem_replicate.1 hu; exact hz1)
  simp only [Nat.add_zero, List.length_replicate] at hst
  by_cases hk : k = 0
  · subst hk
    simp only [List.replicate_zero] at hst
    have hw0 : IntKind.i64.wrap (0 : Int) = 0 := by decide
    have hn0 : n ≤ cap := by omega
    have hr0 : (w.setRow g (List.take n cur.toList ++ [] ++ List.drop (n + 0) cur.toList).toArray) = w.setRow g (List.take n cur.toList ++ List.drop n cur.toList).toArray := by simp
    rw [hr0] at hst
    simp [Builtin.append_, run_underlying ht, run_underlying htn, sizeOf, typeInfo, zeroValue, hi, hz, hs, asInt, asIntOf, hw0, hn0, Addr.add_lit, hst]
  · have hzz : (Builtin.zeroCells z.cells k).toList = List.replicate k z := by rw [hzc]; exact zeroCells_one z k
    simp [Builtin.append_, run_underlying ht, run_underlying htn, sizeOf, typeInfo, zeroValue, hi, hz, hs, asInt, asIntOf, hw, hneg, h48i, hk, hroom, Addr.add_lit, hzz, hst]
theorem run_zeros_own (base : Nat) (t tn ty e : TypeId) (i : TypeInfo) (z : Value) (kq kn : IntKind) (bytes : Nat) (ht : P.underlying t = some (.slice e)) (htn : P.underlying tn = some (.int kn)) (hi : P.info? e = some i) (hz : i.zero = some z) (hs : i.size = 1) (hby : i.bytes = bytes) (hzc : z.cells = #[z]) (hz1 : z.oneCell' = true)
    (v : Value) (n : Nat) (xs : List Value) (hown : w.ownsRow base e 1 v n xs) (k : Nat) (hbytes : (n + k) * bytes ≤ 140737488355328) (h63 : n + k ≤ maxLen) (hbase : base ≤ w.heap.size) :
    ∃ v' w', (Builtin.append_ #[t, tn] ty #[v, .int kq k]).run P w = .ok v' w' ∧ w'.ownsRow base e 1 v' (n + k) (xs ++ List.replicate k z) ∧ w.grownBy w' v.ownBlock ∧ (v'.ownBlock = v.ownBlock ∨ v'.ownBlock = some w.heap.size) := by
  subst hby
  have hsmall : n + k ≤ 9223372036854775807 := by simp only [maxLen] at h63; omega
  have hkb : k * i.bytes ≤ 140737488355328 := Nat.le_trans (Nat.mul_le_mul_right _ (by omega)) hbytes
  have hlen : (xs ++ List.replicate k z).length = (n + k) * 1 := by rw [List.length_append, hown.1, List.length_replicate]; omega
  have grow : ∀ (A : Option Addr) (cap : Nat), v = .slice A n cap → cap < n + k → 0 < k → (Builtin.firstCells i.size n (.slice A n cap)).run P w.drew = .ok xs.toArray w.drew →
      ∃ v' w', (Builtin.append_ #[t, tn] ty #[v, .int kq k]).run P w = .ok v' w' ∧ w'.ownsRow base e 1 v' (n + k) (xs ++ List.replicate k z) ∧ w.grownBy w' v.ownBlock ∧ (v'.ownBlock = v.ownBlock ∨ v'.ownBlock = some w.heap.size) := by
    intro A cap hv hc hk hold
    have hr := Lib.run_append_grow_zeros w t tn ty e i z kq kn ht htn hi hz A n cap xs hold k hk (by omega) hc (by omega) (by omega) (growslice_fits (by omega) hbytes)
    have hge := grownCap_ge w (n + k) cap e
    have hcm : grownCap w (n + k) cap e ≤ maxLen := grownCap_le_maxLen w (n + k) cap e h63
    subst hv
    refine ⟨_, _, hr, ⟨hlen, .inr ⟨w.heap.size, _, _, rfl, hbase, heap_alloc_new w.drew _, hge, hcm, ?_, ?_⟩⟩, ⟨rfl, rfl, rfl, by simp, fun q hq _ => Below.heap_alloc w.drew _ q hq⟩, .inr rfl⟩
    · have h1 := hown.1
      simp [size_zeroCells, hzc]
      omega
    · rw [hzc]
      simp only [Array.toList_append, zeroCells_one, List.toList_toArray]
      rw [← hlen]
      exact List.take_left
  rcases hown.2 with ⟨hv, hn⟩ | ⟨g, cap, cur, hv, hbg, hg, hnc, hcm, hcs, htake⟩
  · subst hn
    have hx : xs = [] := List.eq_nil_of_length_eq_zero (by simpa using hown.1)
    by_cases hk : k = 0
    · subst hk hx hv
      refine ⟨.slice none 0 0, w, ?_, ⟨by simp, .inl ⟨rfl, rfl⟩⟩, ⟨rfl, rfl, rfl, Nat.le_refl _, fun _ _ _ => rfl⟩, .inl rfl⟩
      have hw : IntKind.i64.wrap (0 : Int) = 0 := by decide
      simp [Builtin.append_, run_underlying ht, run_underlying htn, sizeOf, typeInfo, hi, hs, asInt, asIntOf, hw]
    · subst hx
      exact grow none 0 hv (by omega) (by omega) (run_firstCells_none w.drew i.size 0 0 0)
  · by_cases hroom : n + k ≤ cap
    · have hr := run_zeros_room (P := P) w t tn ty e i z kq kn ht htn hi hz hs hzc hz1 g n cap k cur hg (by simpa using hcs) hroom (by omega) (by omega)
      subst hv
      refine ⟨_, _, hr, ⟨hlen, .inr ⟨g, cap, _, rfl, hbg, setRow_heap w g cur _ e _ hg, hroom, hcm, ?_, ?_⟩⟩, ⟨rfl, rfl, rfl, by simp, fun q _ hq => setRow_other w g q _ (fun e => hq (by simp [Value.ownBlock, e]))⟩, .inl rfl⟩
      · simp at hcs
        simp
        omega
      · rw [Nat.mul_one] at htake
        rw [htake, ← hlen]
        exact List.take_left
    · refine grow (some ⟨g, 0, none⟩) cap hv (by omega) (by omega) ?_
      have hold : ∀ j u, xs[j]? = some u → w.drew.cell? ((⟨g, 0, none⟩ : Addr).add j) = some u := by
        have h := hown.cells (g := g) (by rw [hv]; rfl)
        exact h
      exact run_firstCells_some (P := P) w.drew i.size n ⟨g, 0, none⟩ n cap xs (by rw [hs]; exact hown.1) hold
end
theorem info_pg : (Try.prog.info? 190).map (fun i => (i.zero, i.size, i.bytes)) = some (some (.pointer none), 1, 8) := by kernel_rfl
theorem app_pg {w : World} {ops : Array Oper} {rest : List Oper} {o : Oper} {a : Act} {Q : Exit → Act → World → Prop} (hgd : o.guard = none) (s x : Operand)
    (ho : o.op = .call { callee := .builtin .append, args := #[s, x], argTypes := #[128, 3] }) (base : Nat)
    (v : Value) (n : Nat) (xs : List Value) (hs : a.eval s = v) (hown : w.ownsRow base 190 1 v n xs) (k : Nat) (hx : a.eval x = .int .i64 k)
    (hbytes : (n + k) * 8 ≤ 140737488355328) (hbase : base ≤ w.heap.size)
    (h : ∀ v' w', w'.ownsRow base 190 1 v' (n + k) (xs ++ List.replicate k (.pointer none)) → w.grownBy w' v.ownBlock → (v'.ownBlock = v.ownBlock ∨ v'.ownBlock = some w.heap.size) → wpList Try.prog ops Q rest (a.put o.dst v') w') : wpList Try.prog ops Q (o :: rest) a w := by
  obtain ⟨i0, hi, hz0, hz1, hz2⟩ := info_parts info_pg
  obtain ⟨v', w', hrun, h2, h3, h4⟩ := run_zeros_own (P := Try.prog) w base 128 3 o.type 190 i0 (.pointer none) .i64 .i64 8 Try.underlying128 Try.underlying3 hi hz0 hz1 hz2 rfl rfl v n xs hown k hbytes (by unfold maxLen; omega) hbase
  have hb := h v' w' h2 h3 h4
  refine wpList_plain hgd fun K hK => ?_
  unfold Oper.wp execOp
  simp only [ho, resolve, invoke, builtin, Sem.run_bind, Sem.run_pure, Result.andThen_ok, List.map_toArray, List.map_cons, List.map_nil, hs, hx, hrun]
  exact hK _ _ hb
section
variable {W W' W1 w8 : World} {ow ow' : Nat → Nat} {ex : Nat → Prop} {base ra rb r q o g c i j k n p m a : Nat} {v v8 u : Value} {wd : Nat → Int} {ps : List (Option Nat)} {t e : TypeId} {cs : Array Value} {xs : List Value}
def e3 (a b c : Nat) : Nat → Prop := fun x => x = a ∨ x = b ∨ x = c
/-- an element of a row is turned -/
theorem OR.putV (h : OR W ow base r e 1 (.slice (some ⟨q, 0, none⟩) n c) n xs) (hk : k < n) (u : Value) :
    OR (W.setCell ⟨q, k, none⟩ u) ow base r e 1 (.slice (some ⟨q, 0, none⟩) n c) n (xs.set k u) ∧ Kr (e1 r) ow ow W (W.setCell ⟨q, k, none⟩ u) := by
  have hq : ow q = r := h.role q rfl
  refine ⟨⟨⟨by rw [List.length_set]; exact h.own.1, ?_⟩, h.role⟩, ?_⟩
  · rcases h.own.2 with ⟨he, _⟩ | ⟨q', cap, cur, he, hb, hh, hnc, hcm, hcs, hxs⟩
    · cases he
    · injection he with h1 h2 h3
      injection h1 with h1
      injection h1 with h1
      subst h1 h3
      refine .inr ⟨q, c, cur.setIfInBounds k u, rfl, hb, (show Blk W q e cur from hh).set_ k _, hnc, hcm, by simpa using hcs, ?_⟩
      rw [Array.toList_setIfInBounds, List.take_set, hxs]
  · exact ⟨rfl, rfl, rfl, by simp [World.setCell], fun j hj hn => Below.heap_setCell W ⟨q, k, none⟩ _ j (by rintro rfl; exact hn hq), fun _ _ => rfl⟩
theorem set_same {cs : Array Value} (h : cs[o]? = some v) : cs.setIfInBounds o v = cs := by
  apply Array.ext_getElem?
  intro i
  rw [Array.getElem?_setIfInBounds]
  split
  · subst_vars
    split
    · rw [h]
    · rename_i hlt
      rw [Array.getElem?_eq_none (by omega)] at h
      cases h
  · rfl
/-- the row of pages grows -/
theorem PgAt.more (h : PgAt W ow base ra rb v wd ps) (hB : OB W ow base r q t cs) (hrr : ra ≠ r) (hab : ra ≠ rb) (hbr : rb ≠ r) (hown : w8.ownsRow base 190 1 v8 (ps.length + k) (ps.map pgV ++ List.replicate k (.pointer none))) (hg : W.grownBy w8 v.ownBlock) (hor : v8.ownBlock = v.ownBlock ∨ v8.ownBlock = some W.heap.size) :
    Blk w8 q t cs ∧ OB (w8.setCell ⟨q, o, none⟩ v8) (up ow W.heap.size ra) base r q t (cs.setIfInBounds o v8) ∧ PgAt (w8.setCell ⟨q, o, none⟩ v8) (up ow W.heap.size ra) base ra rb v8 wd (ps ++ List.replicate k none) ∧ Kr (e3 ra rb r) ow (up ow W.heap.size ra) W (w8.setCell ⟨q, o, none⟩ v8) := by
  obtain ⟨h1, h2, h3, h4⟩ := app_set hB h.row hrr (Below.refl _ _) hown hg hor o
  refine ⟨h1, h2, ⟨?_, fun i hi j hj => ?_, fun i p hp => ?_, fun (i j : Nat) p hi hj => ?_, fun x hx => ?_⟩, h4.wider fun x hx => hx.elim .inl fun h => .inr (.inr h)⟩
  · have e1 : (ps ++ List.replicate k none).length = ps.length + k := by simp
    have e2 : (ps ++ List.replicate k none).map pgV = ps.map pgV ++ List.replicate k (.pointer none) := by simp [pgV]
    rw [e1, e2]
    exact h3
  · rcases Nat.lt_or_ge i ps.length with hl | hl
    · rw [List.getElem?_append_left hl] at hi
      exact h.none_ i hi j hj
    · exact h.out _ (by omega)
  · rcases Nat.lt_or_ge i ps.length with hl | hl
    · rw [List.getElem?_append_left hl] at hp
      exact (h.some_ i p hp).kr h4 (ne2 (fun h => hab h.symm) hbr)
    · rw [List.getElem?_append_right hl, List.getElem?_replicate] at hp
      split at hp <;> cases hp
  · have hl : ∀ i : Nat, (ps ++ List.replicate k none)[i]? = some (some p) → ps[i]? = some (some p) := by
      intro i hi
      rcases Nat.lt_or_ge i ps.length with hl | hl
      · rw [List.getElem?_append_left hl] at hi
        exact hi
      · rw [List.getElem?_append_right hl, List.getElem?_replicate] at hi
        split at hi <;> cases hi
    exact h.inj i j p (hl i hi) (hl j hj)
  · exact h.out x (by simp at hx; omega)
/-- a page is made -/
theorem PgAt.page (h : PgAt W ow base ra rb (.slice (some ⟨g, 0, none⟩) n c) wd ps) (hn : n = ps.length) (hi : ps[i]? = some none) (hab : ra ≠ rb) (hbz : base ≤ W.heap.size) :
    PgAt ((W.alloc (.cells (pgC (fun _ => 0) 0).toArray 191)).setCell ⟨g, i, none⟩ (.pointer (some ⟨W.heap.size, 0, none⟩))) (up ow W.heap.size rb) base ra rb (.slice (some ⟨g, 0, none⟩) n c) wd (ps.set i (some W.heap.size)) ∧
      Kr (e1 ra) ow (up ow W.heap.size rb) W ((W.alloc (.cells (pgC (fun _ => 0) 0).toArray 191)).setCell ⟨g, i, none⟩ (.pointer (some ⟨W.heap.size, 0, none⟩))) := by
  subst hn
  have hil := (List.getElem?_eq_some_iff.1 hi).1
  have kr1 : Kr (fun _ => False) ow (up ow W.heap.size rb) W (W.alloc (.cells (pgC (fun _ => 0) 0).toArray 191)) := Kr.of_new ((Below.refl _ _).alloc (Nat.le_refl _) _) ow rb _
  have h1 := h.kr kr1 (fun h => h) (fun h => h)
  obtain ⟨h2, k2⟩ := h1.row.putV hil (.pointer (some ⟨W.heap.size, 0, none⟩))
  have hlt : ∀ (i : Nat) p, ps[i]? = some (some p) → p < W.heap.size := fun i p hp => (h.some_ i p hp).blk.lt
  have hset : ∀ (x : Nat) y, (ps.set i (some W.heap.size))[x]? = some y → (x = i ∧ y = some W.heap.size) ∨ (x ≠ i ∧ ps[x]? = some y) := by
    intro x y hy
    by_cases hx : x = i
    · subst hx
      rw [List.getElem?_set_self hil] at hy
      injection hy with hy
      exact .inl ⟨rfl, hy.symm⟩
    · rw [List.getElem?_set_ne (fun h => hx h.symm)] at hy
      exact .inr ⟨hx, hy⟩
  refine ⟨⟨?_, fun x hx j hj => ?_, fun x p hp => ?_, fun x y p hx hy => ?_, fun x hx => ?_⟩, (kr1.wider fun _ h => h.elim).trans k2⟩
  · have e1 : (ps.set i (some W.heap.size)).length = ps.length := List.length_set ..
    have e2 : (ps.set i (some W.heap.size)).map pgV = (ps.map pgV).set i (.pointer (some ⟨W.heap.size, 0, none⟩)) := by rw [List.map_set]; rfl
    rw [e1, e2]
    exact h2
  · rcases hset x _ hx with ⟨_, h0⟩ | ⟨_, h0⟩
    · cases h0
    · exact h.none_ x h0 j hj
  · rcases hset x _ hp with ⟨rfl, h0⟩ | ⟨hne, h0⟩
    · injection h0 with h0
      subst h0
      have hz : pgC wd x = pgC (fun _ => 0) 0 := by
        unfold pgC
        congr 1
        apply List.map_congr_left
        intro j hj
        exact h.none_ x hi j (List.mem_range.1 hj)
      rw [hz]
      have hb : OB (W.alloc (.cells (pgC (fun _ => 0) 0).toArray 191)) (up ow W.heap.size rb) base rb W.heap.size 191 (pgC (fun _ => 0) 0).toArray := ⟨Blk.new _ _ _, up_new (Nat.le_refl _), hbz⟩
      exact hb.kr k2 (ne1 (fun h => hab h.symm))
    · exact (h1.some_ x p h0).kr k2 (ne1 (fun h => hab h.symm))
  · rcases hset x _ hx with ⟨rfl, h0⟩ | ⟨_, h0⟩ <;> rcases hset y _ hy with ⟨rfl, h0'⟩ | ⟨_, h0'⟩
    · rfl
    · injection h0 with h0
      have := hlt y p h0'
      omega
    · injection h0' with h0'
      have := hlt x p h0
      omega
    · exact h.inj x y p h0 h0'
  · exact h.out x (by simpa using hx)
/-- a page is written to -/
theorem PgAt.write (h : PgAt W ow base ra rb v wd ps) (hi : ps[i]? = some (some p)) (hj : j < 16) (x : Int) (hab : ra ≠ rb) :
    PgAt (W.setCell ⟨p, j, none⟩ (.int .u64 x)) ow base ra rb v (put1 wd (16 * i + j) x) ps ∧ Kr (e1 rb) ow ow W (W.setCell ⟨p, j, none⟩ (.int .u64 x)) := by
  have hP := h.some_ i p hi
  have k := Kr.set hP j (.int .u64 x)
  refine ⟨⟨h.row.kr k (ne1 hab), fun y hy m hm => ?_, fun y q hq => ?_, h.inj, fun y hy => ?_⟩, k⟩
  · unfold put1
    rw [if_neg]
    · exact h.none_ y hy m hm
    · intro he
      have : y = i := by omega
      subst this
      rw [hi] at hy
      cases hy
  · by_cases hyi : y = i
    · subst hyi
      rw [hi] at hq
      injection hq with hq
      injection hq with hq
      subst hq
      have h1 := hP.set_ j (.int .u64 x)
      rw [pgC_set hj] at h1
      exact h1
    · rw [pgC_other hyi hj]
      have hqp : q ≠ p := fun he => by
        subst he
        exact hyi (h.inj y i q hq hi)
      have h0 := h.some_ y q hq
      exact ⟨(Below.heap_setCell W ⟨p, j, none⟩ _ q hqp).trans h0.blk, h0.role, h0.le⟩
  · unfold put1
    rw [if_neg]
    · exact h.out y hy
    · have := (List.getElem?_eq_some_iff.1 hi).1
      omega
end
end Go.Proofs.Ytlnccpojldiogaa

/-
  Package irun: put, the walk.
-/
namespace Go.Proofs.Ytlnccpojldiogaa
set_option linter.unusedVariables false
set_option linter.unusedSimpArgs false
open Go.ChangeShapes Go.WideShapes Go.ChangeAt Go.RowKit

/-- what put leaves -/
def PutR (W : World) (ow : Nat → Nat) (base ra rb r q o : Nat) (t : TypeId) (cs : Array Value) (wd : Nat → Int) (a : Nat) (x : Int) (N : Nat) (w' : World) : Prop :=
  ∃ ow' v' ps', OB w' ow' base r q t (cs.setIfInBounds o v') ∧ PgAt w' ow' base ra rb v' (put1 wd a x) ps' ∧ Kr (e3 ra rb r) ow ow' W w' ∧ ps'.length ≤ N
section
variable {W W' W1 w8 : World} {ow ow' : Nat → Nat} {base ra rb r q o g c i j n p a N : Nat} {v : Value} {wd : Nat → Int} {ps : List (Option Nat)} {t : TypeId} {cs : Array Value} {x : Int}
theorem putR_3 (hB : OB W ow base r q t cs) (ho : cs[o]? = some v) (hab : ra ≠ rb) (hbr : rb ≠ r) (h : PgAt W ow base ra rb v wd ps) (hp : ps[a / 16]? = some (some p)) (hN : ps.length ≤ N) : PutR W ow base ra rb r q o t cs wd a x N (W.setCell ⟨p, a % 16, none⟩ (.int .u64 x)) := by
  obtain ⟨h1, k1⟩ := h.write (i := a / 16) (j := a % 16) hp (Nat.mod_lt _ (by decide)) x hab
  rw [Nat.div_add_mod] at h1
  exact ⟨ow, v, ps, by rw [set_same ho]; exact hB.kr k1 (ne1 (fun h => hbr h.symm)), h1, k1.wider fun y hy => .inr (.inl hy), hN⟩
theorem putR_2 (hB : OB W ow base r q t cs) (ho : cs[o]? = some (.slice (some ⟨g, 0, none⟩) n c)) (hab : ra ≠ rb) (hbr : rb ≠ r) (har : ra ≠ r) (h : PgAt W ow base ra rb (.slice (some ⟨g, 0, none⟩) n c) wd ps) (hn : n = ps.length) (hp : ps[a / 16]? = some none) (hbz : base ≤ W.heap.size) (hN : ps.length ≤ N) :
    PutR W ow base ra rb r q o t cs wd a x N (((W.alloc (.cells (pgC (fun _ => 0) 0).toArray 191)).setCell ⟨g, a / 16, none⟩ (.pointer (some ⟨W.heap.size, 0, none⟩))).setCell ⟨W.heap.size, a % 16, none⟩ (.int .u64 x)) := by
  obtain ⟨h1, k1⟩ := h.page hn hp hab hbz
  have hil := (List.getElem?_eq_some_iff.1 hp).1
  obtain ⟨h2, k2⟩ := h1.write (i := a / 16) (j := a % 16) (p := W.heap.size) (List.getElem?_set_self hil) (Nat.mod_lt _ (by decide)) x hab
  rw [Nat.div_add_mod] at h2
  have hB1 := (hB.kr k1 (ne1 (fun h => har h.symm))).kr k2 (ne1 (fun h => hbr h.symm))
  exact ⟨_, _, _, by rw [set_same ho]; exact hB1, h2, (k1.wider fun y hy => .inl hy).trans (k2.wider fun y hy => .inr (.inl hy)), by rw [List.length_set]; exact hN⟩
theorem PutR.after {v8 : Value} {ow1 : Nat → Nat} (k : Kr (e3 ra rb r) ow ow1 W W1) (h : PutR W1 ow1 base ra rb r q o t (cs.setIfInBounds o v8) wd a x N w8) : PutR W ow base ra rb r q o t cs wd a x N w8 := by
  obtain ⟨ow', v', ps', h1, h2, h3, h4⟩ := h
  refine ⟨ow', v', ps', ?_, h2, k.trans h3, h4⟩
  have : (cs.setIfInBounds o v8).setIfInBounds o v' = cs.setIfInBounds o v' := by
    apply Array.ext_getElem?
    intro i
    simp only [Array.getElem?_setIfInBounds, Array.size_setIfInBounds]
    split <;> rfl
  rw [this] at h1
  exact h1
/-- a page's place in a row -/
theorem PgAt.at_ (h : PgAt W ow base ra rb (.slice (some ⟨g, 0, none⟩) n c) wd ps) (hn : n = ps.length) {pp : Option Nat} (hp : ps[i]? = some pp) : g < W.heap.size ∧ W.cell? ⟨g, i, none⟩ = some (pgV pp) ∧ W.frozen? ⟨g, i, none⟩ = false ∧ i < n ∧ n ≤ c := by
  subst hn
  obtain ⟨e1, e2, e3, e4, e5, _, _⟩ := h.row.cell8 (k := i) (u := pgV pp) (by rw [List.getElem?_map, hp]; rfl)
  exact ⟨e1, e2, e3, e4, e5⟩
set_option maxRecDepth 100000 in
set_option maxHeartbeats 3200000 in
/-- .. where the page is there -/
theorem pput_3 (hB : OB W ow base r q t cs) (ho : cs[o]? = some v) (hab : ra ≠ rb) (hbr : rb ≠ r) (h : PgAt W ow base ra rb v wd ps) (hp : ps[a / 16]? = some (some p)) (ha : a ≤ 1000000) (hl : ps.length ≤ 1000000) :
    Calls Try.prog 44 #[.pointer (some ⟨q, o, none⟩), .int .i64 a, .int .u64 x] W fun e w' => e = .returned (.tuple #[]) ∧ PutR W ow base ra rb r q o t cs wd a x ps.length w' := by
  have HR := Lib.hid (putR_3 (x := x) hB ho hab hbr h hp (Nat.le_refl _))
  have hc : W.cell? ⟨q, o, none⟩ = some v := by rw [hB.blk.cell]; exact ho
  obtain ⟨i, hi⟩ : ∃ i, i = a / 16 := ⟨_, rfl⟩
  obtain ⟨j, hj⟩ : ∃ j, j = a % 16 := ⟨_, rfl⟩
  have hq : (a : Int) / 16 = (i : Int) := by omega
  have hr : (a : Int) % 16 = (j : Int) := by omega
  have hj16 : j < 16 := by omega
  obtain ⟨n, hn⟩ : ∃ n, n = ps.length := ⟨_, rfl⟩
  rw [← hi] at hp
  have hin := (List.getElem?_eq_some_iff.1 hp).1
  obtain ⟨g, cg, rfl⟩ := h.row.form8 (by omega)
  rw [← hn] at h hl hc
  obtain ⟨e1, e2, e3, e4, e5⟩ := h.at_ hn hp
  have hP := h.some_ i p hp
  have e6 : W.cell? ⟨p, j, none⟩ = some (.int .u64 (wd (16 * i + j))) := by rw [hP.blk.cell, List.getElem?_toArray, pgC_at hj16]
  have e7 : W.frozen? ⟨p, j, none⟩ = false := hP.blk.frozen j
  have e2' : W.cell? ⟨g, i, none⟩ = some (.pointer (some ⟨p, 0, none⟩)) := e2
  obtain ⟨s, hs1⟩ : ∃ s : Nat, (i : Int) + 1 = (s : Int) := ⟨i + 1, by omega⟩
  obtain ⟨m, hm⟩ : ∃ m : Int, (s : Int) - (n : Int) = m := ⟨_, rfl⟩
  have hmore : m ≤ 0 := by omega
  have hgt : decide (m > 0) = false := by simp; omega
  have hm63 : -9223372036854775808 ≤ m := by omega
  rw [← hj] at HR
  clear hB ho h hp hP e2 hi hj hn hin
  go_enter Try.func44, Try.ntmps44
  go_wp2
  go_end0
  exact ⟨rfl, HR.out⟩
set_option maxRecDepth 100000 in
set_option maxHeartbeats 3200000 in
/-- .. where a page is to be made -/
theorem pput_2 (hB : OB W ow base r q t cs) (ho : cs[o]? = some v) (hab : ra ≠ rb) (hbr : rb ≠ r) (har : ra ≠ r) (h : PgAt W ow base ra rb v wd ps) (hp : ps[a / 16]? = some none) (ha : a ≤ 1000000) (hl : ps.length ≤ 1000000) (hbz : base ≤ W.heap.size) :
    Calls Try.prog 44 #[.pointer (some ⟨q, o, none⟩), .int .i64 a, .int .u64 x] W fun e w' => e = .returned (.tuple #[]) ∧ PutR W ow base ra rb r q o t cs wd a x ps.length w' := by
  have hc : W.cell? ⟨q, o, none⟩ = some v := by rw [hB.blk.cell]; exact ho
  obtain ⟨i, hi⟩ : ∃ i, i = a / 16 := ⟨_, rfl⟩
  obtain ⟨j, hj⟩ : ∃ j, j = a % 16 := ⟨_, rfl⟩
  have hq : (a : Int) / 16 = (i : Int) := by omega
  have hr : (a : Int) % 16 = (j : Int) := by omega
  have hj16 : j < 16 := by omega
  obtain ⟨n, hn⟩ : ∃ n, n = ps.length := ⟨_, rfl⟩
  rw [← hi] at hp
  have hin := (List.getElem?_eq_some_iff.1 hp).1
  obtain ⟨g, cg, rfl⟩ := h.row.form8 (by omega)
  rw [← hn] at h hl hc ho
  have HR := Lib.hid (putR_2 (x := x) hB ho hab hbr har h hn (by rw [← hi]; exact hp) hbz (Nat.le_refl _))
  rw [← hi, ← hj] at HR
  obtain ⟨e1, e2, e3, e4, e5⟩ := h.at_ hn hp
  have e2' : W.cell? ⟨g, i, none⟩ = some (.pointer none) := e2
  have HN : Hid (PutR W ow base ra rb r q o t cs wd a x ps.length ((W.setCell ⟨g, i, none⟩ (.pointer (some ⟨W.heap.size, 0, none⟩))).alloc (.cells ((pgC (fun _ => 0) 0).set j (.int .u64 x)).toArray 191))) := Lib.hid (by
    have h1 := HR.out
    rw [World.setCell_alloc_past _ g i _ e1, World.setCell_alloc_at _ _ _ j _ (by simp)] at h1
    rw [show (pgC (fun _ => 0) 0).toArray.setIfInBounds j (.int .u64 x) = ((pgC (fun _ => 0) 0).set j (.int .u64 x)).toArray by simp] at h1
    exact h1)
  have hqz : q < W.heap.size := hB.blk.lt
  have hqg : ¬ q = g := fun he => by
    have h1 := h.row.role g rfl
    rw [← he, hB.role] at h1
    exact har h1.symm
  have hgq : ¬ g = q := fun he => hqg he.symm
  have y1 : (W.alloc (.cells (pgC (fun _ => 0) 0).toArray 191)).cell? ⟨W.heap.size, j, none⟩ = some (.int .u64 0) := by rw [(Blk.new W _ _).cell, List.getElem?_toArray, pgC_at hj16]
  have y2 : (W.alloc (.cells (pgC (fun _ => 0) 0).toArray 191)).frozen? ⟨W.heap.size, j, none⟩ = false := (Blk.new W _ _).frozen j
  obtain ⟨s, hs1⟩ : ∃ s : Nat, (i : Int) + 1 = (s : Int) := ⟨i + 1, by omega⟩
  obtain ⟨m, hm⟩ : ∃ m : Int, (s : Int) - (n : Int) = m := ⟨_, rfl⟩
  have hmore : m ≤ 0 := by omega
  have hgt : decide (m > 0) = false := by simp; omega
  have hm63 : -9223372036854775808 ≤ m := by omega
  clear hB ho h hp e2 hi hj hn hin
  go_enter Try.func44, Try.ntmps44
  go_wp2
  go_end0
  exact ⟨rfl, HN.out⟩
set_option maxRecDepth 100000 in
set_option maxHeartbeats 3200000 in
/-- .. where the row is to grow -/
theorem pput_1 (hB : OB W ow base r q t cs) (ho : cs[o]? = some v) (hos : o < cs.size) (hab : ra ≠ rb) (hbr : rb ≠ r) (har : ra ≠ r) (h : PgAt W ow base ra rb v wd ps) (hp : ps.length ≤ a / 16) (ha : a ≤ 1000000) (hl : ps.length ≤ 1000000) (hbz : base ≤ W.heap.size) :
    Calls Try.prog 44 #[.pointer (some ⟨q, o, none⟩), .int .i64 a, .int .u64 x] W fun e w' => e = .returned (.tuple #[]) ∧ PutR W ow base ra rb r q o t cs wd a x (a / 16 + 1) w' := by
  have hc : W.cell? ⟨q, o, none⟩ = some v := by rw [hB.blk.cell]; exact ho
  obtain ⟨i, hi⟩ : ∃ i, i = a / 16 := ⟨_, rfl⟩
  obtain ⟨j, hj⟩ : ∃ j, j = a % 16 := ⟨_, rfl⟩
  have hq : (a : Int) / 16 = (i : Int) := by omega
  have hr : (a : Int) % 16 = (j : Int) := by omega
  have hj16 : j < 16 := by omega
  obtain ⟨n, hn⟩ : ∃ n, n = ps.length := ⟨_, rfl⟩
  obtain ⟨A, cg, rfl⟩ := h.row.slice
  have hown0 := h.row.own
  rw [← hn] at hl hc hown0
  rw [← hi, ← hn] at hp
  obtain ⟨s, hs1⟩ : ∃ s : Nat, (i : Int) + 1 = (s : Int) := ⟨i + 1, by omega⟩
  obtain ⟨k, hk⟩ : ∃ k : Nat, (s : Int) - (n : Int) = (k : Int) := ⟨s - n, by omega⟩
  have hk0 : 0 < k := by omega
  have hgt : decide ((k : Int) > 0) = true := by simp; omega
  have hk1 : k ≤ 1000001 := by omega
  have hik : i + 1 = n + k := by omega
  have HOW := Lib.hid hown0
  have H := Lib.hid h
  have HB := Lib.hid hB
  have HN := Lib.hid hn
  have HI := Lib.hid hi
  have HJ := Lib.hid hj
  have HIK := Lib.hid hik
  have HO := Lib.hid ho
  have hqz : q < W.heap.size := hB.blk.lt
  have hqf : W.frozen? ⟨q, o, none⟩ = false := hB.blk.frozen o
  have hi2 : i < n + k := by omega
  clear hB ho h hi hj hn hown0 hik hp
  go_enter Try.func44, Try.ntmps44
  go_wp2_with (at_builtin; refine app_pg rfl _ _ rfl base (.slice A n cg) n (ps.map pgV) rfl HOW.out k rfl (by omega) hbz ?_; intro v8 w8 hown hgr hor; refine Hid.out ?_)
  obtain ⟨A8, c8, rfl⟩ := own_slice hown
  rw [HN.out] at hown
  have hl8 : ∀ A' n' c', Value.ownBlock (.slice A' n' c') = Value.ownBlock (.slice A' ps.length c') := fun A' n' c' => by cases A' <;> rfl
  obtain ⟨f1, f2, f3, f4⟩ := PgAt.more (o := o) (k := k) H.out HB.out har hab hbr (v8 := .slice A8 (ps.length + k) c8) (by rw [HN.out] at *; exact hown) (by rw [HN.out] at hgr; exact hgr) (by rw [HN.out] at hor; exact hor)
  have f0 : w8.cell? ⟨q, o, none⟩ = some (.slice A ps.length cg) := by rw [f1.cell]; exact HO.out
  have f0f : w8.frozen? ⟨q, o, none⟩ = false := f1.frozen o
  have hps : (ps ++ List.replicate k none)[i]? = some none := by
    rw [List.getElem?_append_right (by have := HIK.out; have := HN.out; omega), List.getElem?_replicate, if_pos (by have := HIK.out; have := HN.out; omega)]
  obtain ⟨g, cg', hg⟩ := f3.row.form8 (by simp; omega)
  have hlen : (ps ++ List.replicate k none).length = n + k := by simp [HN.out]
  rw [hlen] at hg
  have hnk : ps.length + k = n + k := by rw [HN.out]
  rw [hnk] at f2 f3 f4 hg
  injection hg with hg1 _ hg3
  subst hg1 hg3
  have e1 := f3.at_ hlen.symm hps
  obtain ⟨e1, e2, e3, e4, e5⟩ := e1
  have hbz8 : base ≤ (w8.setCell ⟨q, o, none⟩ (.slice (some ⟨g, 0, none⟩) (n + k) c8)).heap.size := Nat.le_trans hbz f4.size
  have hos : o < cs.size := hos
  have hat : (cs.setIfInBounds o (.slice (some ⟨g, 0, none⟩) (n + k) c8))[o]? = some (.slice (some ⟨g, 0, none⟩) (n + k) c8) := by
    rw [Array.getElem?_setIfInBounds]; simp [hos]
  have HR := putR_2 (x := x) (a := a) (N := a / 16 + 1) f2 hat hab hbr har f3 hlen.symm (by rw [← HI.out]; exact hps) hbz8 (by rw [hlen, ← HI.out]; have := HIK.out; omega)
  rw [← HI.out, ← HJ.out] at HR
  have hsz : (w8.setCell ⟨q, o, none⟩ (.slice (some ⟨g, 0, none⟩) (n + k) c8)).heap.size = w8.heap.size := by simp
  rw [World.setCell_alloc_past _ g i _ e1, World.setCell_alloc_at _ _ _ j _ (by simp)] at HR
  rw [show (pgC (fun _ => 0) 0).toArray.setIfInBounds j (.int .u64 x) = ((pgC (fun _ => 0) 0).set j (.int .u64 x)).toArray by simp, hsz] at HR
  have HRA := Lib.hid (PutR.after f4 HR)
  have hqg : ¬ q = g := fun he => by
    have h1 := f3.row.role g rfl
    rw [← he, f2.role] at h1
    exact har h1.symm
  have hgq : ¬ g = q := fun he => hqg he.symm
  have e2' : w8.cell? ⟨g, i, none⟩ = some (.pointer none) := by
    have h1 : (w8.setCell ⟨q, o, none⟩ (.slice (some ⟨g, 0, none⟩) (n + k) c8)).cell? ⟨g, i, none⟩ = some (.pointer none) := e2
    rw [World.cell?_setCell_other w8 ⟨q, o, none⟩ ⟨g, i, none⟩ _ (fun he => by first | exact hgq (congrArg Addr.block he) | exact hqg (congrArg Addr.block he))] at h1
    exact h1
  have e3' : w8.frozen? ⟨g, i, none⟩ = false := by simpa using e3
  rw [hsz] at e1
  have hnp : ps.length = n := HN.out.symm
  rw [hnp] at f0
  have hqz8 : q < w8.heap.size := f1.lt
  clear HR hown hgr hor f1 f2 f3 f4 hps hlen hnk hnp e2 e3 hbz8 hat hl8 hsz hs1 hk
  refine Lib.hid ?_
  go_wp2
  go_end0
  exact ⟨rfl, by rw [← HI.out]; exact HRA.out⟩
/-- a word is written -/
theorem pput_any (hB : OB W ow base r q t cs) (ho : cs[o]? = some v) (hab : ra ≠ rb) (hbr : rb ≠ r) (har : ra ≠ r) (h : PgAt W ow base ra rb v wd ps) (ha : a ≤ 1000000) (hl : ps.length ≤ 1000000) (hbz : base ≤ W.heap.size) :
    Calls Try.prog 44 #[.pointer (some ⟨q, o, none⟩), .int .i64 a, .int .u64 x] W fun e w' => e = .returned (.tuple #[]) ∧ PutR W ow base ra rb r q o t cs wd a x (max ps.length (a / 16 + 1)) w' := by
  have hos : o < cs.size := by
    rcases Nat.lt_or_ge o cs.size with h | h
    · exact h
    · rw [Array.getElem?_eq_none h] at ho
      cases ho
  have fin : ∀ N w', N ≤ max ps.length (a / 16 + 1) → PutR W ow base ra rb r q o t cs wd a x N w' → PutR W ow base ra rb r q o t cs wd a x (max ps.length (a / 16 + 1)) w' := by
    rintro N w' hN ⟨ow', v', ps', h1, h2, h3, h4⟩
    exact ⟨ow', v', ps', h1, h2, h3, by omega⟩
  rcases Nat.lt_or_ge (a / 16) ps.length with hi | hi
  · rcases hp : ps[a / 16]? with _ | _ | p
    · rw [List.getElem?_eq_none_iff] at hp
      omega
    · exact (pput_2 hB ho hab hbr har h hp ha hl hbz).mono fun e w' ⟨he, h1⟩ => ⟨he, fin _ _ (by omega) h1⟩
    · exact (pput_3 hB ho hab hbr h hp ha hl).mono fun e w' ⟨he, h1⟩ => ⟨he, fin _ _ (by omega) h1⟩
  · exact (pput_1 hB ho hos hab hbr har h hi ha hl hbz).mono fun e w' ⟨he, h1⟩ => ⟨he, fin _ _ (by omega) h1⟩
end
end Go.Proofs.Ytlnccpojldiogaa

/-
  A run of package irun in memory: its object, frames, panics, the trace, the registers. Roles: 0 the run, 1 the trace, 2 its tape, 3 its events, 4 the row of frames, 5 the registers, 6 the row of panics, 7 the result's events, 8 arguments of deferred calls, 9 what is not the call's own; 10 what is but for a while; of frame k: 5k + 11 its struct, 5k + 12 its row of pages, 5k + 13 its pages, 5k + 14 its deferred calls.
-/
namespace Go.Proofs.Ytlnccpojldiogaa
set_option linter.unusedVariables false
set_option linter.unusedSimpArgs false
open Go.ChangeShapes Go.WideShapes Go.ChangeAt Go.RowKit

/-- a frame's block, its row of pages, the pages, its deferred calls, the rows of arguments -/
structure IG where
  fb : Nat
  pv : Value
  pps : List (Option Nat)
  dv : Value
  ds : List Value
/-- what stands in the run's object beside numbers; rgb: the registers' block -/
structure IRG where
  fv : Value
  pv : Value
  ev : Value
  tv : Value
  xv : Value
  gs : List IG
  rgb : Nat
def ptrI (g : Nat) : Value := .pointer (some ⟨g, 0, none⟩)
def ifrT (bd : Bool) : TypeId := if bd = true then 144 else 138
def ifrP (bd : Bool) : TypeId := if bd = true then 142 else 136
def ifrC (bd : Bool) (fa fo rgb : Nat) (t : IFr) (g : IG) : Array Value :=
  #[.pointer (some ⟨fa, fo + t.f * 8, none⟩), .int .i64 t.why, .int .u64 t.serial, .int .i64 t.at_, g.pv, g.dv, .int .u64 t.number] ++ (if bd = true then (ptrI rgb :: u64c t.before).toArray else #[.int .i64 t.answer])
/-- a frame as an interface's value -/
def ifrV (bd : Bool) (fb : Nat) : Value := .iface (ifrP bd) (ptrI fb)
def idfc : List IDf → List Value → List Value
  | d :: ds, v :: vs => idfc ds vs ++ [.int .i64 d.fn, v]
  | _, _ => []
def ievc (l : List (Int × Int)) : List Value := l.flatMap fun e => [.int .i64 e.1, .int .u64 e.2]
def ipnc (l : List (Int × Bool)) : List Value := l.reverse.flatMap fun e => [.int .u64 e.1, .bool e.2]
structure IFrAt (W : World) (ow : Nat → Nat) (base : Nat) (bd : Bool) (fa fo rgb k : Nat) (t : IFr) (g : IG) : Prop where
  blk : OB W ow base (5 * k + 11) g.fb (ifrT bd) (ifrC bd fa fo rgb t g)
  pag : PgAt W ow base (5 * k + 12) (5 * k + 13) g.pv t.words g.pps
  dfr : OR W ow base (5 * k + 14) 98 2 g.dv t.defs.length (idfc t.defs g.ds)
  args : ∀ (j : Nat) d, t.defs[j]? = some d → ∃ v, g.ds[j]? = some v ∧ OR W ow base 8 30 1 v d.args.length (u64c d.args)
  lds : g.ds.length = t.defs.length
  lpg : g.pps.length ≤ 200
  lbf : bd = true → t.before.length = 16
def IFrsAt (W : World) (ow : Nat → Nat) (base : Nat) (bd : Bool) (fa fo rgb : Nat) : List IFr → List IG → Prop
  | [], [] => True
  | t :: bl, g :: gs => IFrAt W ow base bd fa fo rgb bl.length t g ∧ IFrsAt W ow base bd fa fo rgb bl gs
  | _, _ => False
structure ITrAt (W : World) (ow : Nat → Nat) (base tg : Nat) (tv xv : Value) (tape : List Int) (evs : List (Int × Int)) : Prop where
  blk : OB W ow base 1 tg 141 #[tv, xv]
  tape : ∃ A n c, tv = .slice A n c ∧ n ≤ c ∧ c ≤ maxLen ∧ tape.length = n ∧ (A = none → c = 0) ∧
    (0 < n → ∃ gt off cs, A = some ⟨gt, off, none⟩ ∧ base ≤ gt ∧ ow gt = 2 ∧ Blk W gt 30 cs ∧ ∀ j x, tape[j]? = some x → cs[off + j]? = some (.int .u64 x))
  evs : OR W ow base 3 79 2 xv evs.length (ievc evs)
/-- the function that makes a frame -/
def nfV (bd : Bool) (rgb : Nat) : Value := if bd = true then .func (.func 24) #[.pointer (some ⟨rgb, 0, none⟩)] #[] else .func (.func 22) #[] #[]
def irunC (bd : Bool) (A : Option Addr) (n c tg : Nat) (st : IMc) (g : IRG) : Array Value :=
  #[.slice A n c, nfV bd g.rgb, ptrI tg, g.fv, .int .u64 st.begun, g.pv, .int .i64 st.waiting, .int .i64 st.doing, g.ev, .int .i64 st.endk, .int .u64 st.endv, .int .i64 st.steps, .int .i64 st.depth, .int .i64 st.defers, .int .i64 st.maxp]
def ifrVs (bd : Bool) (gs : List IG) : List Value := (gs.map fun x => ifrV bd x.fb).reverse
structure IRunAt (w0 : World) (bd : Bool) (rb tg fa fo n c : Nat) (rs : List RG) (st : IMc) (g : IRG) (ow : Nat → Nat) (W : World) : Prop where
  run : OB W ow w0.heap.size 0 rb 91 (irunC bd (some ⟨fa, fo, none⟩) n c tg st g)
  frs : OR W ow w0.heap.size 4 135 1 g.fv (st.frames.length - st.hidn) ((ifrVs bd g.gs).take (st.frames.length - st.hidn))
  frames : IFrsAt W ow w0.heap.size bd fa fo g.rgb st.frames g.gs
  regs : bd = true → OB W ow w0.heap.size 5 g.rgb 94 (u64c st.regs).toArray ∧ st.regs.length = 16
  pan : OR W ow w0.heap.size 6 224 2 g.pv st.panics.length (ipnc st.panics)
  tr : ITrAt W ow w0.heap.size tg g.tv g.xv st.tape st.evs
  res : st.doing ≠ 3 → g.ev = .slice none 0 0
  done : st.doing = 3 → OR W ow w0.heap.size 7 79 2 g.ev st.evs.length (ievc st.evs)
  prog : RdP W w0.heap.size (some ⟨fa, fo, none⟩) n rs
  val : valid (grs rs) bd
  below : Below w0.heap.size w0 W
  frn : ∀ i, i < w0.heap.size → ow i = 9
  arg : ∀ x ∈ st.kb, ow x.1.block = 8 ∧ x.1.block < W.heap.size ∧ ∀ j y, x.2[j]? = some y → W.cell? (x.1.add j) = some y
section
variable {w0 W W' : World} {ow ow' : Nat → Nat} {ex : Nat → Prop} {bd : Bool} {base rb tg fa fo rgb n c k : Nat} {rs : List RG} {st st' : IMc} {g g' : IRG} {t t' : IFr} {bl : List IFr} {gs : List IG} {fg fg' : IG} {tv xv : Value} {tape : List Int} {evs : List (Int × Int)} {v : Value}
theorem IFrAt.kr (h : IFrAt W ow base bd fa fo rgb k t fg) (kr : Kr ex ow ow' W W') (hx : ∀ j, j < 4 → ¬ ex (5 * k + 11 + j)) (h8 : ¬ ex 8) : IFrAt W' ow' base bd fa fo rgb k t fg :=
  ⟨h.blk.kr kr (hx 0 (by omega)), h.pag.kr kr (hx 1 (by omega)) (hx 2 (by omega)), h.dfr.kr kr (hx 3 (by omega)), fun j d hd => by
    obtain ⟨v, e1, e2⟩ := h.args j d hd
    exact ⟨v, e1, e2.kr kr h8⟩, h.lds, h.lpg, h.lbf⟩
theorem IFrsAt.kr (kr : Kr ex ow ow' W W') (h8 : ¬ ex 8) : ∀ {fs : List IFr} {gs : List IG}, IFrsAt W ow base bd fa fo rgb fs gs → (∀ x, 11 ≤ x → x < 5 * fs.length + 11 → ¬ ex x) → IFrsAt W' ow' base bd fa fo rgb fs gs
  | [], [], _, _ => trivial
  | [], _ :: _, h, _ => by cases h
  | _ :: _, [], h, _ => by cases h
  | t :: bl, g :: gs, h, hx => by
    obtain ⟨h1, h2⟩ := h
    exact ⟨h1.kr kr (fun j hj => hx _ (by omega) (by simp; omega)) h8, IFrsAt.kr kr h8 h2 fun x h1 h2 => hx x h1 (by simp; omega)⟩
theorem IFrsAt.len : ∀ {fs : List IFr} {gs : List IG}, IFrsAt W ow base bd fa fo rgb fs gs → gs.length = fs.length
  | [], [], _ => rfl
  | [], _ :: _, h => by cases h
  | _ :: _, [], h => by cases h
  | t :: bl, g :: gs, h => by have := IFrsAt.len h.2; simp [this]
theorem ITrAt.kr (h : ITrAt W ow base tg tv xv tape evs) (kr : Kr ex ow ow' W W') (h1 : ¬ ex 1) (h2 : ¬ ex 2) (h3 : ¬ ex 3) : ITrAt W' ow' base tg tv xv tape evs := by
  refine ⟨h.blk.kr kr h1, ?_, h.evs.kr kr h3⟩
  obtain ⟨A, n, c, e1, e2, e3, e4, e5, e6⟩ := h.tape
  refine ⟨A, n, c, e1, e2, e3, e4, e5, fun hn => ?_⟩
  obtain ⟨gt, off, cs, d1, d2, d3, d4, d5⟩ := e6 hn
  exact ⟨gt, off, cs, d1, d2, (kr.old gt d4.lt).trans d3, (kr.block gt d4.lt (by rw [d3]; exact h2)).trans d4, d5⟩
theorem RdP.kr {B : Nat} {A : Option Addr} (h : RdP W B A n rs) (kr : Kr ex ow ow' W W') (hB : B ≤ W.heap.size) (hf : ∀ i, i < B → ¬ ex (ow i)) : RdP W' B A n rs :=
  h.keep fun p hp => World.cell?_of_block (kr.block p.block (by omega) (hf p.block hp))
/-- all that is not turned stays -/
theorem IRunAt.part (h : IRunAt w0 bd rb tg fa fo n c rs st g ow W) (kr : Kr ex ow ow' W W') (h9 : ¬ ex 9)
    (h1 : OB W' ow' w0.heap.size 0 rb 91 (irunC bd (some ⟨fa, fo, none⟩) n c tg st' g')) (h2 : OR W' ow' w0.heap.size 4 135 1 g'.fv (st'.frames.length - st'.hidn) ((ifrVs bd g'.gs).take (st'.frames.length - st'.hidn))) (h3 : IFrsAt W' ow' w0.heap.size bd fa fo g'.rgb st'.frames g'.gs)
    (h4 : bd = true → OB W' ow' w0.heap.size 5 g'.rgb 94 (u64c st'.regs).toArray ∧ st'.regs.length = 16) (h5 : OR W' ow' w0.heap.size 6 224 2 g'.pv st'.panics.length (ipnc st'.panics)) (h6 : ITrAt W' ow' w0.heap.size tg g'.tv g'.xv st'.tape st'.evs)
    (h7 : st'.doing ≠ 3 → g'.ev = .slice none 0 0) (h8 : st'.doing = 3 → OR W' ow' w0.heap.size 7 79 2 g'.ev st'.evs.length (ievc st'.evs))
    (h88 : ¬ ex 8 := by first | exact fun h => h | exact ne1 (by omega) | exact ne2 (by omega) (by omega)) (hkb : st'.kb = st.kb := by rfl) : IRunAt w0 bd rb tg fa fo n c rs st' g' ow' W' :=
  ⟨h1, h2, h3, h4, h5, h6, h7, h8, h.prog.kr kr h.below.size fun i hi => by rw [h.frn i hi]; exact h9, h.val, Kr.below h.below kr h.below.size fun i hi => by rw [h.frn i hi]; exact h9, fun i hi => (kr.old i (Nat.lt_of_lt_of_le hi h.below.size)).trans (h.frn i hi), fun x hx => by
    rw [hkb] at hx
    obtain ⟨a1, a2, a3⟩ := h.arg x hx
    exact ⟨(kr.old _ a2).trans a1, Nat.lt_of_lt_of_le a2 kr.size, fun j y hj => by
      have e : W'.cell? (x.1.add j) = W.cell? (x.1.add j) := World.cell?_of_block (by
        rw [show (x.1.add j).block = x.1.block from by unfold Addr.add; split <;> rfl]
        exact kr.block x.1.block a2 (by rw [a1]; exact h88))
      rw [e]
      exact a3 j y hj⟩⟩
/-- the row of frames -/
theorem IRunAt.frs0 (h : IRunAt w0 bd rb tg fa fo n c rs st g ow W) (h0 : st.hidn = 0) : OR W ow w0.heap.size 4 135 1 g.fv st.frames.length (ifrVs bd g.gs) := by
  have h1 := h.frs
  have hl : (ifrVs bd g.gs).length = st.frames.length := by unfold ifrVs; rw [List.length_reverse, List.length_map]; exact h.frames.len
  rw [h0, Nat.sub_zero, List.take_of_length_le (by omega)] at h1
  exact h1
/-- the last frame is turned -/
theorem IRunAt.top_ (h : IRunAt w0 bd rb tg fa fo n c rs st g ow W) (hf : st.frames = t :: bl) (hg : g.gs = fg :: gs) (kr : Kr ex ow ow' W W') (hex : ∀ x, ex x → 5 * bl.length + 11 ≤ x) (hn : IFrAt W' ow' w0.heap.size bd fa fo g.rgb bl.length t' fg') (hb : fg'.fb = fg.fb) :
    IRunAt w0 bd rb tg fa fo n c rs { st with frames := t' :: bl } { g with gs := fg' :: gs } ow' W' := by
  have nx : ∀ r, r < 11 → ¬ ex r := fun r hr hx => by have := hex r hx; omega
  have hfr := h.frames
  rw [hf, hg] at hfr
  refine h.part (h88 := nx 8 (by omega)) kr (nx 9 (by omega)) (h.run.kr kr (nx 0 (by omega))) ?_ ⟨hn, hfr.2.kr kr (nx 8 (by omega)) fun x h1 h2 hx => by have := hex _ hx; omega⟩ (fun hb => ⟨(h.regs hb).1.kr kr (nx 5 (by omega)), (h.regs hb).2⟩) (h.pan.kr kr (nx 6 (by omega))) (h.tr.kr kr (nx 1 (by omega)) (nx 2 (by omega)) (nx 3 (by omega))) h.res fun hd => (h.done hd).kr kr (nx 7 (by omega))
  have h4 := h.frs.kr kr (nx 4 (by omega))
  rw [hf, hg] at h4
  have e1 : ifrVs bd (fg' :: gs) = ifrVs bd (fg :: gs) := by unfold ifrVs; simp [hb]
  simp only [List.length_cons] at h4 ⊢
  rw [e1]
  exact h4
/-- the registers are turned -/
theorem IRunAt.reg_ (h : IRunAt w0 bd rb tg fa fo n c rs st g ow W) (kr : Kr (e1 5) ow ow' W W') {r : List Int} (hr : bd = true → OB W' ow' w0.heap.size 5 g.rgb 94 (u64c r).toArray ∧ r.length = 16) : IRunAt w0 bd rb tg fa fo n c rs { st with regs := r } g ow' W' :=
  h.part kr (ne1 (by omega)) (h.run.kr kr (ne1 (by omega))) (h.frs.kr kr (ne1 (by omega))) (h.frames.kr kr (ne1 (by omega)) fun x h1 h2 => ne1 (by omega)) hr (h.pan.kr kr (ne1 (by omega))) (h.tr.kr kr (ne1 (by omega)) (ne1 (by omega)) (ne1 (by omega))) h.res fun hd => (h.done hd).kr kr (ne1 (by omega))
/-- new blocks alone -/
theorem IRunAt.on (h : IRunAt w0 bd rb tg fa fo n c rs st g ow W) (hb : Below W.heap.size W W') : IRunAt w0 bd rb tg fa fo n c rs st g ow W' := by
  have kr : Kr (fun _ => False) ow ow W W' := Kr.of_below hb ow _
  exact h.part kr (fun h => h) (h.run.kr kr (fun h => h)) (h.frs.kr kr (fun h => h)) (h.frames.kr kr (fun h => h) fun x h1 h2 h => h) (fun hb => ⟨(h.regs hb).1.kr kr (fun h => h), (h.regs hb).2⟩) (h.pan.kr kr (fun h => h)) (h.tr.kr kr (fun h => h) (fun h => h) (fun h => h)) h.res fun hd => (h.done hd).kr kr (fun h => h)
end
/-- a run in memory; gl: each frame's block; rgb: the registers' -/
def IRunX (w0 : World) (bd : Bool) (rb tg fa fo n c : Nat) (rs : List RG) (st : IMc) (gl : List Nat) (rgb : Nat) (W : World) : Prop :=
  ∃ g ow, IRunAt w0 bd rb tg fa fo n c rs st g ow W ∧ g.gs.map (fun x => x.fb) = gl ∧ g.rgb = rgb
section
variable {w0 W W' : World} {ow ow' : Nat → Nat} {bd : Bool} {base rb tg fa fo rgb n c k : Nat} {rs : List RG} {st st' : IMc} {g g' : IRG} {t t' : IFr} {bl : List IFr} {gs : List IG} {fg fg' : IG} {gl : List Nat} {fb : Nat}
theorem IRunX.on (h : IRunX w0 bd rb tg fa fo n c rs st gl rgb W) (hb : Below W.heap.size W W') : IRunX w0 bd rb tg fa fo n c rs st gl rgb W' := by
  obtain ⟨g, ow, h1, h2, h3⟩ := h
  exact ⟨g, ow, h1.on hb, h2, h3⟩
theorem IRunX.open_ (h : IRunX w0 bd rb tg fa fo n c rs st (fb :: gl) rgb W) (hf : st.frames = t :: bl) :
    ∃ g ow fg gs, IRunAt w0 bd rb tg fa fo n c rs st g ow W ∧ g.gs = fg :: gs ∧ fg.fb = fb ∧ gs.map (fun x => x.fb) = gl ∧ g.rgb = rgb ∧ IFrAt W ow w0.heap.size bd fa fo g.rgb bl.length t fg := by
  obtain ⟨g, ow, h1, h2, h3⟩ := h
  cases hg : g.gs with
  | nil => rw [hg] at h2; cases h2
  | cons fg gs =>
    rw [hg] at h2
    simp only [List.map_cons, List.cons.injEq] at h2
    have hfr := h1.frames
    rw [hf, hg] at hfr
    exact ⟨g, ow, fg, gs, h1, hg, h2.1, h2.2, h3, hfr.1⟩
theorem IRunX.close_ {g : IRG} (h : IRunAt w0 bd rb tg fa fo n c rs st { g with gs := fg :: gs } ow W) (h1 : fg.fb = fb) (h2 : gs.map (fun x => x.fb) = gl) (h3 : g.rgb = rgb) : IRunX w0 bd rb tg fa fo n c rs st (fb :: gl) rgb W :=
  ⟨_, ow, h, by simp [h1, h2], h3⟩
end
/-! a frame's cells -/
section
variable {bd : Bool} {fa fo rgb : Nat} {t : IFr} {g : IG} {i : Nat}
theorem ifrC_0 : (ifrC bd fa fo rgb t g)[0]? = some (.pointer (some ⟨fa, fo + t.f * 8, none⟩)) := by unfold ifrC; cases bd <;> simp
theorem ifrC_1 : (ifrC bd fa fo rgb t g)[1]? = some (.int .i64 t.why) := by unfold ifrC; cases bd <;> simp
theorem ifrC_2 : (ifrC bd fa fo rgb t g)[2]? = some (.int .u64 t.serial) := by unfold ifrC; cases bd <;> simp
theorem ifrC_3 : (ifrC bd fa fo rgb t g)[3]? = some (.int .i64 t.at_) := by unfold ifrC; cases bd <;> simp
theorem ifrC_4 : (ifrC bd fa fo rgb t g)[4]? = some g.pv := by unfold ifrC; cases bd <;> simp
theorem ifrC_5 : (ifrC bd fa fo rgb t g)[5]? = some g.dv := by unfold ifrC; cases bd <;> simp
theorem ifrC_6 : (ifrC bd fa fo rgb t g)[6]? = some (.int .u64 t.number) := by unfold ifrC; cases bd <;> simp
theorem ifrC_7f : (ifrC false fa fo rgb t g)[7]? = some (.int .i64 t.answer) := by unfold ifrC; simp
theorem ifrC_7t : (ifrC true fa fo rgb t g)[7]? = some (ptrI rgb) := by unfold ifrC; simp
theorem ifrC_s4 (v : Value) (wd : Nat → Int) (ps : List (Option Nat)) : (ifrC bd fa fo rgb t g).setIfInBounds 4 v = ifrC bd fa fo rgb { t with words := wd } { g with pv := v, pps := ps } := by unfold ifrC; cases bd <;> simp [Array.setIfInBounds_append]
theorem ifrC_s3 (x : Int) : (ifrC bd fa fo rgb t g).setIfInBounds 3 (.int .i64 x) = ifrC bd fa fo rgb { t with at_ := x } g := by unfold ifrC; cases bd <;> simp [Array.setIfInBounds_append]
theorem ifrC_s6 (x : Int) : (ifrC bd fa fo rgb t g).setIfInBounds 6 (.int .u64 x) = ifrC bd fa fo rgb { t with number := x } g := by unfold ifrC; cases bd <;> simp [Array.setIfInBounds_append]
end
end Go.Proofs.Ytlnccpojldiogaa
