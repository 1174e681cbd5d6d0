/-
  Texts of one seat, one behind the other: SMach, SMem, SUpd, SPush, STop, SRaise, SZero, KMem, SNew, SArgs.
-/
import Derived.BigQuiet
import Derived.RegionTactic
import Derived.Lib.AppendZerosOnto
import Derived.Deep.RegionLaw
import Derived.Laws.CopyOwn
import Derived.StillTailTactics
import Derived.Deep.DeepCutAuto
import Derived.Test.YtdoabcmfblmklaaMA1

/-
  What a program does, step by step, as plain functions: frames, panics, deferred calls. Nothing here speaks of the code. Rows that grow at their end (frames, stacks, deferred calls, panics) are kept the last one first.
-/
namespace Go.Proofs.Ytdoabcmfblmklaa
set_option linter.unusedVariables false

/-- a deferred call -/
structure Df where
  fn : Nat
  args : List Int
/-- a frame; why: 0 the first, 1 called, 2 deferred, 3 called by a panic -/
structure Fr where
  why : Nat
  f : Nat
  next : Int
  base : Nat
  stack : List Int
  defs : List Df
  number : Int
/-- a run; doing: 0 executing, 1 ending, 2 unwinding, 3 over -/
structure Mc where
  tape : List Int
  evs : List (Int × Int)
  frames : List Fr
  mem : List Int
  panics : List (Int × Bool)
  waiting : Nat
  doing : Int
  endk : Int
  endv : Int
  steps : Nat
  depth : Nat
  defers : Nat
  maxp : Nat
def byZero : Int := 18446744073709551615
def byNull : Int := 18446744073709551614
def fnOf (fs : List Fn) (k : Nat) : Fn := fs.getD k ⟨0, [], false, -1, []⟩
/-- the arguments on a stack: as many as the function has parameters, the last one on top -/
def argsOf (fs : List Fn) (k : Nat) (s : List Int) : List Int := (s.take (fnOf fs k).params.toNat).reverse
def locals (fs : List Fn) (k : Nat) (args : List Int) : List Int := args ++ List.replicate ((fnOf fs k).locals.length - args.length) 0
/-- a frame begins: of function k, with these arguments -/
def Mc.begin (st : Mc) (fs : List Fn) (why k : Nat) (args : List Int) : Mc :=
  { st with frames := ⟨why, k, 0, st.mem.length, [], [], 0⟩ :: st.frames, mem := st.mem ++ locals fs k args, depth := max st.depth (st.frames.length + 1), doing := 0 }
def Mc.over (st : Mc) (k v : Int) : Mc := { st with doing := 3, endk := k, endv := v }
def Mc.raise (st : Mc) (v : Int) : Mc := { st with panics := (v, false) :: st.panics, maxp := max st.maxp (st.panics.length + 1), doing := 2 }
/-- the last frame is turned -/
def Mc.top (st : Mc) (t : Fr) (bl : List Fr) : Mc := { st with frames := t :: bl }
def Fr.push (t : Fr) (v : Int) : Fr := { t with stack := v :: t.stack }
def Fr.cut (t : Fr) (k : Nat) : Fr := { t with stack := t.stack.drop k }
def Fr.goto (t : Fr) (a : Int) : Fr := { t with next := a }
/-- an instruction of the last frame t, over bl. None: it can't be. -/
def exec (fs : List Fn) (st : Mc) (t : Fr) (bl : List Fr) (i : Ins) : Option Mc :=
  if i.op = 1 then some (st.top (t.push i.imm) bl)
  else if i.op = 2 then (st.mem[t.base + i.arg.toNat]?).map fun v => st.top (t.push v) bl
  else if i.op = 3 then match t.stack with
    | v :: s => if t.base + i.arg.toNat < st.mem.length then some { st.top { t with stack := s } bl with mem := st.mem.set (t.base + i.arg.toNat) v } else none
    | [] => none
  else if i.op = 4 then some (st.top (t.push (t.base + i.arg + 1)) bl)
  else if i.op = 5 then match t.stack with
    | p :: s => if p = 0 then some ((st.top { t with stack := s } bl).raise byNull)
      else (st.mem[(p - 1).toNat]?).map fun v => st.top { t with stack := v :: s } bl
    | [] => none
  else if i.op = 6 then match t.stack with
    | v :: p :: s => if p = 0 then some ((st.top { t with stack := s } bl).raise byNull)
      else if (p - 1).toNat < st.mem.length then some { st.top { t with stack := s } bl with mem := st.mem.set (p - 1).toNat v } else none
    | _ => none
  else if i.op = 21 then some (st.top (t.goto i.arg) bl)
  else if i.op = 22 then match t.stack with
    | v :: s => some (st.top ({ t with stack := s, next := if v = 0 then i.arg else t.next }) bl)
    | [] => none
  else if i.op = 23 then if (fnOf fs i.arg.toNat).params.toNat ≤ t.stack.length ∧ i.arg.toNat < fs.length then
      some ((st.top (t.cut (fnOf fs i.arg.toNat).params.toNat) bl).begin fs 1 i.arg.toNat (argsOf fs i.arg.toNat t.stack)) else none
  else if i.op = 24 then if (fnOf fs t.f).result then (match t.stack with
      | v :: s => some { st.top { t with stack := s, number := v } bl with doing := 1 }
      | [] => none) else some { st.top t bl with doing := 1 }
  else if i.op = 25 then if (fnOf fs i.arg.toNat).params.toNat ≤ t.stack.length ∧ i.arg.toNat < fs.length then
      some { st.top { t.cut (fnOf fs i.arg.toNat).params.toNat with defs := ⟨i.arg.toNat, argsOf fs i.arg.toNat t.stack⟩ :: t.defs } bl with waiting := st.waiting + 1, defers := max st.defers (st.waiting + 1) } else none
  else if i.op = 26 then match t.stack with
    | v :: s => some ((st.top { t with stack := s } bl).raise v)
    | [] => none
  else if i.op = 27 then (if t.why = 3 then match st.panics with
      | (v, false) :: ps => some { st.top { t with stack := 1 :: v :: t.stack } bl with panics := (v, true) :: ps }
      | (_, true) :: _ => some (st.top { t with stack := 0 :: 0 :: t.stack } bl)
      | [] => none else some (st.top { t with stack := 0 :: 0 :: t.stack } bl))
  else if i.op = 28 then some { st.top (t.push (st.tape.headD 0)) bl with tape := st.tape.tail, evs := st.evs ++ [(2, st.tape.headD 0)] }
  else if i.op = 29 then match t.stack with
    | v :: s => some { st.top { t with stack := s } bl with evs := st.evs ++ [(1, v)] }
    | [] => none
  else if i.op = 30 then match t.stack with
    | v :: s => some ((st.top { t with stack := s } bl).over 1 v)
    | [] => none
  else if i.op = 31 then match t.stack with
    | v :: s => some (st.top { t with stack := s } bl)
    | [] => none
  else if i.op = 32 then match t.stack with
    | v :: s => some (st.top { t with stack := v :: v :: s } bl)
    | [] => none
  else if 7 ≤ i.op ∧ i.op ≤ 20 then match t.stack with
    | b :: a :: s => if doE i.op b = 0 then some (st.top { t with stack := doV i.op a b :: s } bl) else some ((st.top { t with stack := s } bl).raise byZero)
    | _ => none
  else none
/-- what the kept local of a recovered function holds -/
def kept (fs : List Fn) (mem : List Int) (t : Fr) : Option Int := if (fnOf fs t.f).keep < 0 then some 0 else mem[t.base + (fnOf fs t.f).keep.toNat]?
/-- one thing that a step brings about, where a frame ends or the active panic goes on -/
def settle1 (fs : List Fn) (st : Mc) : Option Mc := match st.frames with
  | [] => none
  | t :: bl => match t.defs with
    | d :: ds => if d.fn < fs.length ∧ 0 < st.waiting then some ({ st.top { t with defs := ds } bl with waiting := st.waiting - 1 }.begin fs (if st.doing = 1 then 2 else 3) d.fn d.args) else none
    | [] => if t.base ≤ st.mem.length then
        (let s1 : Mc := { st with frames := bl, mem := st.mem.take t.base }
        if st.doing = 1 then
          (if t.why = 0 then some (s1.over 1 0)
          else if t.why = 1 then match bl with
            | b :: bl' => some { s1 with frames := (if (fnOf fs t.f).result then b.push t.number else b) :: bl', doing := 0 }
            | [] => none
          else if t.why = 2 then some s1
          else match st.panics, bl with
            | (_, true) :: ps, b :: bl' => (kept fs s1.mem b).map fun v => { s1 with panics := ps, frames := { b with number := v } :: bl' }
            | (_, false) :: _, _ => some { s1 with doing := 2 }
            | _, _ => none)
        else
          (match (if t.why = 3 then (match st.panics with
              | p :: _ :: ps => some (p :: ps)
              | _ => none) else some st.panics) with
          | some ps => (match bl with
            | [] => (match ps with
              | (v, _) :: _ => some ({ s1 with panics := ps }.over 2 v)
              | [] => none)
            | _ :: _ => some { s1 with panics := ps })
          | none => none)) else none
/-- .. and all of it; n: more than there are frames -/
def settle (fs : List Fn) : Nat → Mc → Option Mc
  | 0, _ => none
  | n + 1, st => if st.doing = 1 ∨ st.doing = 2 then (settle1 fs st).bind (settle fs n) else some st
/-- a step -/
def step (fs : List Fn) (st : Mc) : Option Mc := match st.frames with
  | [] => none
  | t :: bl => match (fnOf fs t.f).code[t.next.toNat]? with
    | some i => if 0 ≤ t.next then (exec fs { st with steps := st.steps + 1 } { t with next := t.next + 1 } bl i).bind (settle fs (st.frames.length + 2)) else none
    | none => none
/-- a run from its beginning -/
def start (fs : List Fn) (tape : List Int) : Mc := (⟨tape, [], [], [], [], 0, 0, 0, 0, 0, 0, 0, 0⟩ : Mc).begin fs 0 0 []
/-- steps, as many as there is fuel -/
def runs (fs : List Fn) (st : Mc) : Nat → Option Mc
  | 0 => some st
  | n + 1 => if st.doing = 3 then some st else (step fs st).bind fun st' => runs fs st' n
/-- a whole run -/
def runP (fs : List Fn) (tape : List Int) (fuel : Nat) : Option Mc := (runs fs (start fs tape) fuel).map fun st => if st.doing = 3 then st else st.over 3 0
end Go.Proofs.Ytdoabcmfblmklaa

/-
  A run of package sem in memory: its object, frames, panics, the trace. Roles: 0 the run, 1 the trace, 2 its tape, 3 its events, 4 the row of frames, 5 the memory, 6 the row of panics, 7 panics, 8 arguments of deferred calls, 9 what is not the call's own; 10 what is but for a while; of frame k: 3k + 11 its struct, 3k + 12 its stack, 3k + 13 its deferred calls.
-/
namespace Go.Proofs.Ytdoabcmfblmklaa
set_option linter.unusedVariables false
set_option linter.unusedSimpArgs false
open Go.ChangeShapes Go.WideShapes Go.ChangeAt Go.RowKit

/-- a frame's block, its stack, its deferred calls, the panic that called it, the rows of arguments -/
structure FG where
  fb : Nat
  sv : Value
  dv : Value
  by_ : Nat
  ds : List Value
/-- what stands in the run's object beside numbers -/
structure RG where
  fv : Value
  mv : Value
  pv : Value
  ev : Value
  tv : Value
  xv : Value
  gs : List FG
  pbs : List Nat
def frT (why : Nat) : TypeId := if why = 0 then 77 else if why = 1 then 114 else if why = 2 then 140 else 136
def frP (why : Nat) : TypeId := if why = 0 then 70 else if why = 1 then 112 else if why = 2 then 139 else 133
def ptrV (g : Nat) : Value := .pointer (some ⟨g, 0, none⟩)
def frC (fa fo : Nat) (t : Fr) (g : FG) : Array Value :=
  #[.pointer (some ⟨fa, fo + t.f * 5, none⟩), .int .i64 t.next, .int .i64 t.base, g.sv, g.dv, .int .u64 t.number] ++ (if t.why = 3 then #[ptrV g.by_] else #[])
/-- a frame as an interface's value -/
def frV (why fb : Nat) : Value := .iface (frP why) (ptrV fb)
def dfc : List Df → List Value → List Value
  | d :: ds, v :: vs => dfc ds vs ++ [.int .i64 d.fn, v]
  | _, _ => []
def evc6 (l : List (Int × Int)) : List Value := l.flatMap fun e => [.int .i64 e.1, .int .u64 e.2]
structure FrAt (W : World) (ow : Nat → Nat) (base fa fo k : Nat) (t : Fr) (g : FG) : Prop where
  blk : OB W ow base (3 * k + 11) g.fb (frT t.why) (frC fa fo t g)
  stk : OR W ow base (3 * k + 12) 30 1 g.sv t.stack.length (u64c t.stack.reverse)
  dfr : OR W ow base (3 * k + 13) 118 2 g.dv t.defs.length (dfc t.defs g.ds)
  args : ∀ (j : Nat) d, t.defs[j]? = some d → ∃ v, g.ds[j]? = some v ∧ OR W ow base 8 30 1 v d.args.length (u64c d.args)
  lds : g.ds.length = t.defs.length
def FrsAt (W : World) (ow : Nat → Nat) (base fa fo : Nat) : List Fr → List FG → Prop
  | [], [] => True
  | t :: bl, g :: gs => FrAt W ow base fa fo bl.length t g ∧ FrsAt W ow base fa fo bl gs
  | _, _ => False
/-- the trace's object -/
structure TrAt (W : World) (ow : Nat → Nat) (base tg : Nat) (tv xv : Value) (tape : List Int) (evs : List (Int × Int)) : Prop where
  blk : OB W ow base 1 tg 87 #[tv, xv]
  tape : ∃ A n c, tv = .slice A n c ∧ n ≤ c ∧ c ≤ maxLen ∧ tape.length = n ∧ (A = none → c = 0) ∧
    (0 < n → ∃ gt off cs, A = some ⟨gt, off, none⟩ ∧ base ≤ gt ∧ ow gt = 2 ∧ Blk W gt 30 cs ∧ ∀ j x, tape[j]? = some x → cs[off + j]? = some (.int .u64 x))
  evs : OR W ow base 3 50 2 xv evs.length (evc6 evs)
def PansAt (W : World) (ow : Nat → Nat) (base : Nat) : List (Int × Bool) → List Nat → Prop
  | [], [] => True
  | p :: ps, b :: bs => OB W ow base 7 b 132 #[.int .u64 p.1, .bool p.2] ∧ PansAt W ow base ps bs
  | _, _ => False
def runC (A : Option Addr) (n c tg : Nat) (st : Mc) (g : RG) : Array Value :=
  #[.slice A n c, ptrV tg, g.fv, g.mv, g.pv, .int .i64 st.waiting, .int .i64 st.doing, g.ev, .int .i64 st.endk, .int .u64 st.endv, .int .i64 st.steps, .int .i64 st.depth, .int .i64 st.defers, .int .i64 st.maxp]
def frVs (frames : List Fr) (gs : List FG) : List Value := ((frames.zip gs).map fun x => frV x.1.why x.2.fb).reverse
structure RunAt (w0 : World) (rb tg fa fo n c : Nat) (rs : List Raw) (st : Mc) (g : RG) (ow : Nat → Nat) (W : World) : Prop where
  run : OB W ow w0.heap.size 0 rb 68 (runC (some ⟨fa, fo, none⟩) n c tg st g)
  frs : OR W ow w0.heap.size 4 89 1 g.fv st.frames.length (frVs st.frames g.gs)
  frames : FrsAt W ow w0.heap.size fa fo st.frames g.gs
  mem : OR W ow w0.heap.size 5 30 1 g.mv st.mem.length (u64c st.mem)
  pan : OR W ow w0.heap.size 6 130 1 g.pv st.panics.length (g.pbs.map ptrV).reverse
  pans : PansAt W ow w0.heap.size st.panics g.pbs
  nodup : g.pbs.Nodup
  tr : TrAt W ow w0.heap.size tg g.tv g.xv st.tape st.evs
  res : st.doing ≠ 3 → g.ev = .slice none 0 0
  done : st.doing = 3 → OR W ow w0.heap.size 8 50 2 g.ev st.evs.length (evc6 st.evs)
  prog : RdP W w0.heap.size (some ⟨fa, fo, none⟩) n rs
  below : Below w0.heap.size w0 W
  frn : ∀ i, i < w0.heap.size → ow i = 9
section
variable {w0 W W' : World} {ow ow' : Nat → Nat} {ex : Nat → Prop} {base rb tg fa fo n c k : Nat} {rs : List Raw} {st : Mc} {g : RG} {t : Fr} {bl : List Fr} {gs : List FG} {fg : FG} {tv xv : Value} {tape : List Int} {evs : List (Int × Int)} {ps : List (Int × Bool)} {bs : List Nat}
theorem FrAt.kr (h : FrAt W ow base fa fo k t fg) (kr : Kr ex ow ow' W W') (h0 : ¬ ex (3 * k + 11)) (h1 : ¬ ex (3 * k + 12)) (h2 : ¬ ex (3 * k + 13)) (h8 : ¬ ex 8) : FrAt W' ow' base fa fo k t fg :=
  ⟨h.blk.kr kr h0, h.stk.kr kr h1, h.dfr.kr kr h2, fun j d hd => by
    obtain ⟨v, e1, e2⟩ := h.args j d hd
    exact ⟨v, e1, e2.kr kr h8⟩, h.lds⟩
theorem FrsAt.kr (kr : Kr ex ow ow' W W') (h8 : ¬ ex 8) : ∀ {fs : List Fr} {gs : List FG}, FrsAt W ow base fa fo fs gs → (∀ j, j < fs.length → ¬ ex (3 * j + 11) ∧ ¬ ex (3 * j + 12) ∧ ¬ ex (3 * j + 13)) → FrsAt W' ow' base fa fo fs gs
  | [], [], _, _ => trivial
  | [], _ :: _, h, _ => by cases h
  | _ :: _, [], h, _ => by cases h
  | t :: bl, g :: gs, h, hx => by
    obtain ⟨h1, h2⟩ := h
    have hk := hx bl.length (by simp)
    exact ⟨h1.kr kr hk.1 hk.2.1 hk.2.2 h8, FrsAt.kr kr h8 h2 fun j hj => hx j (by simp; omega)⟩
theorem FrsAt.len : ∀ {fs : List Fr} {gs : List FG}, FrsAt W ow base fa fo fs gs → gs.length = fs.length
  | [], [], _ => rfl
  | [], _ :: _, h => by cases h
  | _ :: _, [], h => by cases h
  | t :: bl, g :: gs, h => by have := FrsAt.len h.2; simp [this]
theorem TrAt.kr (h : TrAt W ow base tg tv xv tape evs) (kr : Kr ex ow ow' W W') (h1 : ¬ ex 1) (h2 : ¬ ex 2) (h3 : ¬ ex 3) : TrAt W' ow' base tg tv xv tape evs := by
  refine ⟨h.blk.kr kr h1, ?_, h.evs.kr kr h3⟩
  obtain ⟨A, n, c, e1, e2, e3, e4, e5, e6⟩ := h.tape
  refine ⟨A, n, c, e1, e2, e3, e4, e5, fun hn => ?_⟩
  obtain ⟨gt, off, cs, d1, d2, d3, d4, d5⟩ := e6 hn
  exact ⟨gt, off, cs, d1, d2, (kr.old gt d4.lt).trans d3, (kr.block gt d4.lt (by rw [d3]; exact h2)).trans d4, d5⟩
theorem PansAt.kr (kr : Kr ex ow ow' W W') (h7 : ¬ ex 7) : ∀ {ps : List (Int × Bool)} {bs : List Nat}, PansAt W ow base ps bs → PansAt W' ow' base ps bs
  | [], [], _ => trivial
  | [], _ :: _, h => by cases h
  | _ :: _, [], h => by cases h
  | p :: ps, b :: bs, h => ⟨h.1.kr kr h7, PansAt.kr kr h7 h.2⟩
theorem PansAt.len : ∀ {ps : List (Int × Bool)} {bs : List Nat}, PansAt W ow base ps bs → bs.length = ps.length
  | [], [], _ => rfl
  | [], _ :: _, h => by cases h
  | _ :: _, [], h => by cases h
  | p :: ps, b :: bs, h => by have := PansAt.len h.2; simp [this]
theorem RdP.kr {B : Nat} {A : Option Addr} (h : RdP W B A n rs) (kr : Kr ex ow ow' W W') (hB : B ≤ W.heap.size) (hf : ∀ i, i < B → ¬ ex (ow i)) : RdP W' B A n rs :=
  h.keep fun p hp => World.cell?_of_block (kr.block p.block (by omega) (hf p.block hp))
end
end Go.Proofs.Ytdoabcmfblmklaa

/-
  What turning one part of a run leaves of the rest; the run as the calls see it.
-/
namespace Go.Proofs.Ytdoabcmfblmklaa
set_option linter.unusedVariables false
set_option linter.unusedSimpArgs false
open Go.ChangeShapes Go.WideShapes Go.ChangeAt Go.RowKit

/-- a run in memory; gs: each frame's block and the block of the panic that called it; pbs: the panics' blocks -/
def RunX (w0 : World) (rb tg fa fo n c : Nat) (rs : List Raw) (st : Mc) (gs : List (Nat × Nat)) (pbs : List Nat) (W : World) : Prop :=
  ∃ g ow, RunAt w0 rb tg fa fo n c rs st g ow W ∧ g.gs.map (fun x => (x.fb, x.by_)) = gs ∧ g.pbs = pbs
section
variable {w0 W W' : World} {ow ow' : Nat → Nat} {ex : Nat → Prop} {base rb tg fa fo n c k : Nat} {rs : List Raw} {st st' : Mc} {g : RG} {t t' : Fr} {bl : List Fr} {gs : List FG} {fg fg' : FG} {gl : List (Nat × Nat)} {pbs : List Nat} {fb b : Nat}
theorem RunAt.top_ (h : RunAt w0 rb tg fa fo n c rs st g ow W) (hf : st.frames = t :: bl) (hg : g.gs = fg :: gs) (kr : Kr ex ow ow' W W') (hex : ∀ x, ex x → 3 * bl.length + 11 ≤ x ∧ x ≤ 3 * bl.length + 13) (hn : FrAt W' ow' w0.heap.size fa fo bl.length t' fg') (hw : t'.why = t.why) (hb : fg'.fb = fg.fb) :
    RunAt w0 rb tg fa fo n c rs { st with frames := t' :: bl } { g with gs := fg' :: gs } ow' W' := by
  have nx : ∀ r, r < 11 → ¬ ex r := fun r hr hx => by have := hex r hx; omega
  have hfr := h.frames
  rw [hf, hg] at hfr
  refine ⟨h.run.kr kr (nx 0 (by omega)), ?_, ⟨hn, hfr.2.kr kr (nx 8 (by omega)) fun j hj => ⟨fun hx => by have := hex _ hx; omega, fun hx => by have := hex _ hx; omega, fun hx => by have := hex _ hx; omega⟩⟩, h.mem.kr kr (nx 5 (by omega)), h.pan.kr kr (nx 6 (by omega)), h.pans.kr kr (nx 7 (by omega)), h.nodup, h.tr.kr kr (nx 1 (by omega)) (nx 2 (by omega)) (nx 3 (by omega)), h.res, fun hd => (h.done hd).kr kr (nx 8 (by omega)), h.prog.kr kr h.below.size fun i hi => by rw [h.frn i hi]; exact nx 9 (by omega), Kr.below h.below kr h.below.size fun i hi => by rw [h.frn i hi]; exact nx 9 (by omega), fun i hi => (kr.old i (Nat.lt_of_lt_of_le hi h.below.size)).trans (h.frn i hi)⟩
  have h4 := h.frs.kr kr (nx 4 (by omega))
  rw [hf, hg] at h4
  have e1 : frVs (t' :: bl) (fg' :: gs) = frVs (t :: bl) (fg :: gs) := by unfold frVs; simp [hw, hb]
  simp only [List.length_cons] at h4 ⊢
  rw [e1]
  exact h4
/-- the run's own numbers are turned -/
theorem RunAt.num (h : RunAt w0 rb tg fa fo n c rs st g ow W) (kr : Kr (e1 0) ow ow' W W') (hr : OB W' ow' w0.heap.size 0 rb 68 (runC (some ⟨fa, fo, none⟩) n c tg st' g)) (h1 : st'.frames = st.frames) (h2 : st'.mem = st.mem) (h3 : st'.panics = st.panics) (h4 : st'.tape = st.tape) (h5 : st'.evs = st.evs) (h6 : st.doing ≠ 3) (h7 : st'.doing ≠ 3) :
    RunAt w0 rb tg fa fo n c rs st' g ow' W' := by
  refine ⟨hr, ?_, ?_, ?_, ?_, ?_, h.nodup, ?_, fun _ => h.res h6, fun hd => absurd hd h7, h.prog.kr kr h.below.size fun i hi => by rw [h.frn i hi]; exact ne1 (by omega), Kr.below h.below kr h.below.size fun i hi => by rw [h.frn i hi]; exact ne1 (by omega), fun i hi => (kr.old i (Nat.lt_of_lt_of_le hi h.below.size)).trans (h.frn i hi)⟩
  · rw [h1]; exact h.frs.kr kr (ne1 (by omega))
  · rw [h1]; exact h.frames.kr kr (ne1 (by omega)) fun j hj => ⟨ne1 (by omega), ne1 (by omega), ne1 (by omega)⟩
  · rw [h2]; exact h.mem.kr kr (ne1 (by omega))
  · rw [h3]; exact h.pan.kr kr (ne1 (by omega))
  · rw [h3]; exact h.pans.kr kr (ne1 (by omega))
  · rw [h4, h5]; exact h.tr.kr kr (ne1 (by omega)) (ne1 (by omega)) (ne1 (by omega))
/-- new blocks alone -/
theorem RunAt.on (h : RunAt w0 rb tg fa fo n c rs st g ow W) (hb : Below W.heap.size W W') : RunAt w0 rb tg fa fo n c rs st g ow W' := by
  have kr : Kr (fun _ => False) ow ow W W' := Kr.of_below hb ow _
  exact ⟨h.run.kr kr (fun h => h), h.frs.kr kr (fun h => h), h.frames.kr kr (fun h => h) fun j hj => ⟨fun h => h, fun h => h, fun h => h⟩, h.mem.kr kr (fun h => h), h.pan.kr kr (fun h => h), h.pans.kr kr (fun h => h), h.nodup, h.tr.kr kr (fun h => h) (fun h => h) (fun h => h), h.res, fun hd => (h.done hd).kr kr (fun h => h), h.prog.kr kr h.below.size fun i hi => fun h => h, Kr.below h.below kr h.below.size fun i hi => fun h => h, h.frn⟩
/-- what is but for a while is turned -/
theorem RunAt.tmp (h : RunAt w0 rb tg fa fo n c rs st g ow W) (kr : Kr (e1 10) ow ow' W W') : RunAt w0 rb tg fa fo n c rs st g ow' W' :=
  ⟨h.run.kr kr (ne1 (by omega)), h.frs.kr kr (ne1 (by omega)), h.frames.kr kr (ne1 (by omega)) fun j hj => ⟨ne1 (by omega), ne1 (by omega), ne1 (by omega)⟩, h.mem.kr kr (ne1 (by omega)), h.pan.kr kr (ne1 (by omega)), h.pans.kr kr (ne1 (by omega)), h.nodup, h.tr.kr kr (ne1 (by omega)) (ne1 (by omega)) (ne1 (by omega)), h.res, fun hd => (h.done hd).kr kr (ne1 (by omega)), h.prog.kr kr h.below.size fun i hi => by rw [h.frn i hi]; exact ne1 (by omega), Kr.below h.below kr h.below.size fun i hi => by rw [h.frn i hi]; exact ne1 (by omega), fun i hi => (kr.old i (Nat.lt_of_lt_of_le hi h.below.size)).trans (h.frn i hi)⟩
theorem RunX.on (h : RunX w0 rb tg fa fo n c rs st gl pbs W) (hb : Below W.heap.size W W') : RunX w0 rb tg fa fo n c rs st gl pbs W' := by
  obtain ⟨g, ow, h1, h2, h3⟩ := h
  exact ⟨g, ow, h1.on hb, h2, h3⟩
theorem RunX.open_ (h : RunX w0 rb tg fa fo n c rs st ((fb, b) :: gl) pbs W) (hf : st.frames = t :: bl) :
    ∃ g ow fg gs, RunAt w0 rb tg fa fo n c rs st g ow W ∧ g.gs = fg :: gs ∧ fg.fb = fb ∧ fg.by_ = b ∧ gs.map (fun x => (x.fb, x.by_)) = gl ∧ g.pbs = pbs ∧ FrAt W ow w0.heap.size fa fo bl.length t fg := by
  obtain ⟨g, ow, h1, h2, h3⟩ := h
  cases hg : g.gs with
  | nil => rw [hg] at h2; cases h2
  | cons fg gs =>
    rw [hg] at h2
    simp only [List.map_cons, List.cons.injEq, Prod.mk.injEq] at h2
    have hfr := h1.frames
    rw [hf, hg] at hfr
    exact ⟨g, ow, fg, gs, h1, hg, h2.1.1, h2.1.2, h2.2, h3, hfr.1⟩
theorem RunX.close_ {g : RG} (h : RunAt w0 rb tg fa fo n c rs st { g with gs := fg :: gs } ow W) (h1 : fg.fb = fb) (h2 : fg.by_ = b) (h3 : gs.map (fun x => (x.fb, x.by_)) = gl) (h4 : g.pbs = pbs) : RunX w0 rb tg fa fo n c rs st ((fb, b) :: gl) pbs W :=
  ⟨_, ow, h, by simp [h1, h2, h3], h4⟩
end
end Go.Proofs.Ytdoabcmfblmklaa

/-
  Package sem: push, pop: the last frame's stack.
-/
namespace Go.Proofs.Ytdoabcmfblmklaa
set_option linter.unusedVariables false
set_option linter.unusedSimpArgs false
open Go.ChangeShapes Go.WideShapes Go.ChangeAt Go.RowKit

theorem info_u64 : (Try.prog.info? 30).map (fun i => (i.zero, i.size, i.bytes)) = some (some (.int .u64 0), 1, 8) := by kernel_rfl
theorem app_u64 {w : World} {ops : Array Oper} {rest : List Oper} {o : Oper} {a : Act} {Q : Exit → Act → World → Prop} (hgd : o.guard = none) (s x : Operand)
    (ho : o.op = .call { callee := .builtin .append, args := #[s, x], argTypes := #[25, 25] }) (base : Nat)
    (v : Value) (n : Nat) (xs : List Value) (hs : a.eval s = v) (hown : w.ownsRow base 30 1 v n xs)
    (B : Nat) (A : Option Addr) (m c : Nat) (news : List Value) (hx : a.eval x = .slice A m c) (hr : Reads w B 1 A m news) (h1 : ∀ u ∈ news, u.oneCell' = true)
    (hbytes : (n + m) * 8 ≤ 140737488355328) (hbase : base ≤ w.heap.size)
    (h : ∀ v' w', w'.ownsRow base 30 1 v' (n + m) (xs ++ news) → w.grownBy w' v.ownBlock → (v'.ownBlock = v.ownBlock ∨ v'.ownBlock = some w.heap.size) → wpList Try.prog ops Q rest (a.put o.dst v') w') : wpList Try.prog ops Q (o :: rest) a w := by
  obtain ⟨i0, hi, hz0, hz1, hz2⟩ := info_parts info_u64
  exact wpList_append_any w hgd s x _ ho base 30 i0 (.int .u64 0) 1 8 Try.underlying25 hi hz0 hz1 hz2 rfl (by decide) v n xs hs hown B A m c news hx hr h1 (by unfold maxLen; omega) hbytes hbase h
section
variable {fa fo : Nat} {t : Fr} {g : FG}
theorem frC_0 : (frC fa fo t g)[0]? = some (.pointer (some ⟨fa, fo + t.f * 5, none⟩)) := by unfold frC; split <;> rfl
theorem frC_1 : (frC fa fo t g)[1]? = some (.int .i64 t.next) := by unfold frC; split <;> rfl
theorem frC_2 : (frC fa fo t g)[2]? = some (.int .i64 t.base) := by unfold frC; split <;> rfl
theorem frC_3 : (frC fa fo t g)[3]? = some g.sv := by unfold frC; split <;> rfl
theorem frC_4 : (frC fa fo t g)[4]? = some g.dv := by unfold frC; split <;> rfl
theorem frC_5 : (frC fa fo t g)[5]? = some (.int .u64 t.number) := by unfold frC; split <;> rfl
theorem frC_6 (h : t.why = 3) : (frC fa fo t g)[6]? = some (.pointer (some ⟨g.by_, 0, none⟩)) := by unfold frC; rw [if_pos h]; rfl
theorem frC_s1 (x : Int) : (frC fa fo t g).setIfInBounds 1 (.int .i64 x) = frC fa fo { t with next := x } g := by unfold frC; by_cases h : t.why = 3 <;> simp [h]
theorem frC_s3 (v : Value) (s : List Int) : (frC fa fo t g).setIfInBounds 3 v = frC fa fo { t with stack := s } { g with sv := v } := by unfold frC; by_cases h : t.why = 3 <;> simp [h]
theorem frC_s4 (v : Value) (s : List Df) (ds : List Value) : (frC fa fo t g).setIfInBounds 4 v = frC fa fo { t with defs := s } { g with dv := v, ds := ds } := by unfold frC; by_cases h : t.why = 3 <;> simp [h]
theorem frC_s5 (x : Int) : (frC fa fo t g).setIfInBounds 5 (.int .u64 x) = frC fa fo { t with number := x } g := by unfold frC; by_cases h : t.why = 3 <;> simp [h]
end
section
variable {w0 W W' w8 W1 : World} {ow ow' : Nat → Nat} {rb tg fa fo n c : Nat} {rs : List Raw} {st : Mc} {t : Fr} {bl : List Fr} {gl : List (Nat × Nat)} {pbs : List Nat} {fb b : Nat}
/-- a frame's stack is another row of its own -/
theorem FrAt.stk_ {base k : Nat} {g : FG} {v : Value} {s : List Int} {ex : Nat → Prop} (h : FrAt W ow base fa fo k t g) (kr : Kr ex ow ow' W W') (hex : ∀ x, ex x → x = 3 * k + 11 ∨ x = 3 * k + 12) (h1 : OB W' ow' base (3 * k + 11) g.fb (frT t.why) ((frC fa fo t g).setIfInBounds 3 v)) (h2 : OR W' ow' base (3 * k + 12) 30 1 v s.length (u64c s.reverse)) :
    FrAt W' ow' base fa fo k { t with stack := s } { g with sv := v } :=
  ⟨by rw [frC_s3 v s] at h1; exact h1, h2, h.dfr.kr kr (fun hx => by have := hex _ hx; omega), fun j d hd => by
    obtain ⟨v, e1, e2⟩ := h.args j d hd
    exact ⟨v, e1, e2.kr kr (fun hx => by have := hex _ hx; omega)⟩, h.lds⟩

set_option maxRecDepth 100000 in
set_option maxHeartbeats 1600000 in
theorem push_any (v : Int) (h : RunX w0 rb tg fa fo n c rs st ((fb, b) :: gl) pbs W) (hf : st.frames = t :: bl) (hs : t.stack.length ≤ 1048576) :
    Calls Try.prog 37 #[.pointer (some ⟨fb, 0, none⟩), .int .u64 v] W fun e w' => e = .returned (.tuple #[]) ∧ RunX w0 rb tg fa fo n c rs (st.top (t.push v) bl) ((fb, b) :: gl) pbs w' := by
  obtain ⟨g, ow, fg, gs, hR, hg, rfl, rfl, hgl, hpb, hF⟩ := h.open_ hf
  have c3 : W.cell? ⟨fg.fb, 3, none⟩ = some fg.sv := by rw [hF.blk.blk.cell]; exact frC_3
  obtain ⟨m, hm⟩ : ∃ m, m = t.stack.length := ⟨_, rfl⟩
  have HST : Hid (OR W ow w0.heap.size (3 * bl.length + 12) 30 1 fg.sv m (u64c t.stack.reverse)) := Lib.hid (by rw [hm]; exact hF.stk)
  rw [← hm] at hs
  obtain ⟨sv, hsv⟩ : ∃ sv, sv = fg.sv := ⟨_, rfl⟩
  rw [← hsv] at c3 HST
  obtain ⟨q, hq⟩ : ∃ q, q = fg.fb := ⟨_, rfl⟩
  rw [← hq] at c3 ⊢
  have hbz : w0.heap.size ≤ W.heap.size := hR.below.size
  have hqz : q < W.heap.size := by rw [hq]; exact hF.blk.blk.lt
  have HM := Lib.hid hm
  have HSV := Lib.hid hsv
  have HQ := Lib.hid hq
  have HRD : Hid (Reads (W.alloc (.cells #[.int .u64 v] 30)) (W.heap.size + 1) 1 (some ⟨W.heap.size, 0, none⟩) 1 [.int .u64 v]) := Lib.hid ⟨rfl, fun _ => ⟨_, rfl, by simp, fun j u hj => by
    have ea : (⟨W.heap.size, 0, none⟩ : Addr).add j = ⟨W.heap.size, j, none⟩ := by simp [Addr.add]; exact Eq.symm
    rw [ea, (Blk.new W _ _).cell]
    simpa using hj⟩⟩
  have H1 : Hid (∀ u ∈ [Value.int .u64 v], u.oneCell' = true) := Lib.hid (u64c_one [v])
  have HOA := Lib.hid (HST.out.own.alloc (.cells #[.int .u64 v] 30))
  have HF := Lib.hid hF
  have HR := Lib.hid hR
  have HFR := Lib.hid hf
  have HG := Lib.hid hg
  have HGL := Lib.hid hgl
  have HPB := Lib.hid hpb
  clear h hR hF hf hg hgl hpb hm hsv hq
  go_enter Try.func37, Try.ntmps37
  go_wp2_with (at_builtin; refine app_u64 rfl _ _ rfl w0.heap.size sv m (u64c t.stack.reverse) rfl HOA.out (W.heap.size + 1) (some ⟨W.heap.size, 0, none⟩) 1 1 [.int .u64 v] rfl HRD.out H1.out (by omega) (by simp; omega) ?_; intro v8 w8 hown hgr hor; refine Hid.out ?_)
  obtain ⟨A8, c8, rfl⟩ := own_slice hown
  have hB : OB W ow w0.heap.size (3 * bl.length + 11) q (frT t.why) (frC fa fo t fg) := by rw [HQ.out]; exact HF.out.blk
  obtain ⟨hb8, hB8, hO8, hkr⟩ := app_set hB HST.out (by omega) ((Below.refl _ _).alloc (Nat.le_refl _) _) hown hgr hor 3
  have d3 : w8.cell? ⟨q, 3, none⟩ = some sv := by rw [hb8.cell, HSV.out]; exact frC_3
  have f3 : w8.frozen? ⟨q, 3, none⟩ = false := hb8.frozen 3
  have HX : Hid (RunX w0 rb tg fa fo n c rs (st.top (t.push v) bl) ((q, fg.by_) :: gl) pbs (w8.setCell ⟨q, 3, none⟩ (.slice A8 (m + 1) c8))) := Lib.hid (by
    have hO9 : OR (w8.setCell ⟨q, 3, none⟩ (.slice A8 (m + 1) c8)) (up ow W.heap.size (3 * bl.length + 12)) w0.heap.size (3 * bl.length + 12) 30 1 (.slice A8 (m + 1) c8) (v :: t.stack).length (u64c (v :: t.stack).reverse) := by
      have e1 : (v :: t.stack).length = m + 1 := by rw [HM.out]; rfl
      have e2 : u64c (v :: t.stack).reverse = u64c t.stack.reverse ++ [.int .u64 v] := by simp [u64c]
      rw [e1, e2]; exact hO8
    rw [HQ.out] at hB8 hO9 hkr ⊢
    refine RunX.close_ (fg := { fg with sv := .slice A8 (m + 1) c8 }) (HR.out.top_ HFR.out HG.out hkr (fun x hx => by rcases hx with h | h <;> omega) (HF.out.stk_ hkr (fun x hx => by rcases hx with h | h <;> omega) hB8 hO9) rfl rfl) rfl rfl HGL.out HPB.out)
  clear hown hgr hor hB hb8 hB8 hO8 hkr
  refine Lib.hid ?_
  go_wp2
  go_end0
  exact ⟨rfl, HX.out⟩

set_option maxRecDepth 100000 in
set_option maxHeartbeats 1600000 in
theorem pop_any (v : Int) (s : List Int) (h : RunX w0 rb tg fa fo n c rs st ((fb, b) :: gl) pbs W) (hf : st.frames = t :: bl) (hs : t.stack = v :: s) (hl : s.length ≤ 1048576) :
    Calls Try.prog 38 #[.pointer (some ⟨fb, 0, none⟩)] W fun e w' => e = .returned (.int .u64 v) ∧ RunX w0 rb tg fa fo n c rs (st.top { t with stack := s } bl) ((fb, b) :: gl) pbs w' := by
  obtain ⟨g, ow, fg, gs, hR, hg, rfl, rfl, hgl, hpb, hF⟩ := h.open_ hf
  obtain ⟨m, hm⟩ : ∃ m, m = s.length := ⟨_, rfl⟩
  rw [← hm] at hl
  have hlen : t.stack.length = m + 1 := by rw [hs, hm]; rfl
  have hat : t.stack.reverse[m]? = some v := by rw [hs, List.reverse_cons, List.getElem?_append_right (by simp [hm])]; simp [hm]
  obtain ⟨p, cp, hp, hp0, hpz, x0, hfz⟩ := hF.stk.at_ hat
  have hB := hF.blk
  obtain ⟨q, hq⟩ : ∃ q, q = fg.fb := ⟨_, rfl⟩
  have c3 : W.cell? ⟨q, 3, none⟩ = some (.slice (some ⟨p, 0, none⟩) (m + 1) cp) := by rw [hq, hB.blk.cell, ← hlen, ← hp]; exact frC_3
  have f3 : W.frozen? ⟨q, 3, none⟩ = false := by rw [hq]; exact hB.blk.frozen 3
  have hmc : m + 1 ≤ cp := by have h1 := hF.stk.own; rw [hp, hlen] at h1; exact own_cap h1
  have HX : Hid (RunX w0 rb tg fa fo n c rs (st.top { t with stack := s } bl) ((fg.fb, fg.by_) :: gl) pbs (W.setCell ⟨q, 3, none⟩ (.slice (some ⟨p, 0, none⟩) m cp))) := Lib.hid (by
    have hO := hF.stk
    rw [hp, hlen] at hO
    obtain ⟨hB8, hO8, hkr⟩ := cut_set (k := m) hB hO (by omega) (by omega) 3
    have hO9 : OR (W.setCell ⟨fg.fb, 3, none⟩ (.slice (some ⟨p, 0, none⟩) m cp)) ow w0.heap.size (3 * bl.length + 12) 30 1 (.slice (some ⟨p, 0, none⟩) m cp) s.length (u64c s.reverse) := by
      have e2 : (u64c t.stack.reverse).take (m * 1) = u64c s.reverse := by rw [u64c_take, hs, List.reverse_cons, List.take_left' (by simp [hm])]
      rw [← e2, ← hm]; exact hO8
    rw [hq]
    refine RunX.close_ (fg := { fg with sv := .slice (some ⟨p, 0, none⟩) m cp }) (hR.top_ hf hg hkr (fun x hx => by have : x = _ := hx; omega) (hF.stk_ hkr (fun x hx => .inl hx) hB8 hO9) rfl rfl) rfl rfl hgl hpb)
  have hqz : q < W.heap.size := by rw [hq]; exact hB.blk.lt
  rw [← hq]
  rw [← hq] at HX
  have hm1 : ((m : Int) + 1) - 1 = (m : Int) := by omega
  have hm0 : (0 : Int) ≤ (m : Int) := by omega
  have hmm : (m : Int) < (m : Int) + 1 := by omega
  have hmn : m < m + 1 := by omega
  have hmk : m ≤ cp := by omega
  clear h hR hF hf hg hgl hpb hm hq hB hat hp hs hlen
  go_enter Try.func38, Try.ntmps38
  go_wp2
  go_ret
  exact ⟨rfl, HX.out⟩
end
end Go.Proofs.Ytdoabcmfblmklaa

/-
  Package sem: top, last: the last frame.
-/
namespace Go.Proofs.Ytdoabcmfblmklaa
set_option linter.unusedVariables false
set_option linter.unusedSimpArgs false
open Go.ChangeShapes Go.WideShapes Go.ChangeAt Go.RowKit

section
variable {w0 W W' w8 W1 : World} {ow ow' : Nat → Nat} {rb tg fa fo n c : Nat} {rs : List Raw} {st : Mc} {t : Fr} {bl : List Fr} {gl : List (Nat × Nat)} {pbs : List Nat} {fb b : Nat}
/-- a cell of a row -/
theorem OR.cell_ {base r q k m c : Nat} {e : TypeId} {xs : List Value} {u : Value} (h : OR W ow base r e 1 (.slice (some ⟨q, 0, none⟩) m c) m xs) (hx : xs[k]? = some u) : q < W.heap.size ∧ W.cell? ⟨q, k, none⟩ = some u ∧ W.frozen? ⟨q, k, none⟩ = false ∧ k < m ∧ m ≤ c ∧ base ≤ q := by
  have hk : k < m := by
    have h1 := h.own.1
    have := (List.getElem?_eq_some_iff.1 hx).1
    omega
  rcases h.own.2 with ⟨he, _⟩ | ⟨q', cap, cur, he, hb, hh, hnc, hcm, hcs, hxs⟩
  · cases he
  · injection he with h1 h2 h3
    injection h1 with h1
    injection h1 with h1
    subst h1 h3
    have hbk : Blk W q e cur := hh
    refine ⟨hbk.lt, ?_, hbk.frozen k, hk, hnc, hb⟩
    rw [hbk.cell]
    have h2 : (cur.toList.take (m * 1))[k]? = some u := by rw [hxs]; exact hx
    rw [List.getElem?_take, if_pos (by omega)] at h2
    rw [← Array.getElem?_toList]
    exact h2
theorem OR.form {base r m : Nat} {e : TypeId} {size : Nat} {v : Value} {xs : List Value} (h : OR W ow base r e size v m xs) (hm : 0 < m) : ∃ q c, v = .slice (some ⟨q, 0, none⟩) m c := by
  rcases h.own.2 with ⟨_, h0⟩ | ⟨q, cap, cur, he, _⟩
  · omega
  · exact ⟨q, cap, he⟩
theorem frVs_last {fg : FG} {gs : List FG} (h : gs.length = bl.length) : (frVs (t :: bl) (fg :: gs))[bl.length]? = some (frV t.why fg.fb) := by
  unfold frVs
  simp only [List.zip_cons_cons, List.map_cons, List.reverse_cons]
  rw [List.getElem?_append_right (by simp [h])]
  simp [h]
theorem RunX.last_ (h : RunX w0 rb tg fa fo n c rs st ((fb, b) :: gl) pbs W) (hf : st.frames = t :: bl) :
    ∃ q cq, W.cell? ⟨rb, 2, none⟩ = some (.slice (some ⟨q, 0, none⟩) (bl.length + 1) cq) ∧ W.cell? ⟨q, bl.length, none⟩ = some (.iface (frP t.why) (.pointer (some ⟨fb, 0, none⟩))) ∧ q < W.heap.size ∧ rb < W.heap.size ∧ fb < W.heap.size ∧ bl.length + 1 ≤ cq := by
  obtain ⟨g, ow, fg, gs, hR, hg, rfl, rfl, hgl, hpb, hF⟩ := h.open_ hf
  have h4 := hR.frs
  have hfr := hR.frames
  rw [hf, hg] at h4 hfr
  obtain ⟨q, cq, hq⟩ := h4.form (by simp)
  rw [hq] at h4
  obtain ⟨e1, e2, _, _, e5, _⟩ := h4.cell_ (k := bl.length) (frVs_last hfr.2.len)
  refine ⟨q, cq, ?_, e2, e1, hR.run.blk.lt, hF.blk.blk.lt, e5⟩
  rw [hR.run.blk.cell]
  show some g.fv = _
  rw [hq]; rfl

set_option maxRecDepth 100000 in
set_option maxHeartbeats 1600000 in
theorem top_any (h : RunX w0 rb tg fa fo n c rs st ((fb, b) :: gl) pbs W) (hf : st.frames = t :: bl) (hs : bl.length ≤ 1048577) :
    Calls Try.prog 36 #[.pointer (some ⟨rb, 0, none⟩)] W fun e w' => e = .returned (.iface (frP t.why) (.pointer (some ⟨fb, 0, none⟩))) ∧ Below W.heap.size W w' := by
  obtain ⟨q, cq, x0, x1, hqz, hrz, _, hc⟩ := h.last_ hf
  obtain ⟨m, hm⟩ : ∃ m, m = bl.length := ⟨_, rfl⟩
  rw [← hm] at x0 x1 hc hs
  have hm1 : ((m : Int) + 1) - 1 = (m : Int) := by omega
  have hm0 : (0 : Int) ≤ (m : Int) := by omega
  have hmm : (m : Int) < (m : Int) + 1 := by omega
  have hmn : m < m + 1 := by omega
  have HB : Hid (Below W.heap.size W W) := Lib.hid (Below.refl _ _)
  clear h hf hm
  go_enter Try.func36, Try.ntmps36
  go_wp2
  go_quiet (fail)
  go_wp2
  go_ret
  exact ⟨rfl, below_drewN HB.out _⟩

theorem body_first (fb : Nat) (W : World) : (method 278 70 (.pointer (some ⟨fb, 0, none⟩)) "windlass/sem.body").run Try.prog W = .ok (105, .pointer (some ⟨fb, 0, none⟩)) W := by kernel_rfl
theorem ended_first (fb : Nat) (W : World) : (method 278 70 (.pointer (some ⟨fb, 0, none⟩)) "windlass/sem.ended").run Try.prog W = .ok (106, .pointer (some ⟨fb, 0, none⟩)) W := by kernel_rfl
theorem body_called (fb : Nat) (W : World) : (method 278 112 (.pointer (some ⟨fb, 0, none⟩)) "windlass/sem.body").run Try.prog W = .ok (105, .pointer (some ⟨fb, 0, none⟩)) W := by kernel_rfl
theorem ended_called (fb : Nat) (W : World) : (method 278 112 (.pointer (some ⟨fb, 0, none⟩)) "windlass/sem.ended").run Try.prog W = .ok (107, .pointer (some ⟨fb, 0, none⟩)) W := by kernel_rfl
theorem body_deferred (fb : Nat) (W : World) : (method 278 139 (.pointer (some ⟨fb, 0, none⟩)) "windlass/sem.body").run Try.prog W = .ok (105, .pointer (some ⟨fb, 0, none⟩)) W := by kernel_rfl
theorem ended_deferred (fb : Nat) (W : World) : (method 278 139 (.pointer (some ⟨fb, 0, none⟩)) "windlass/sem.ended").run Try.prog W = .ok (110, .pointer (some ⟨fb, 0, none⟩)) W := by kernel_rfl
theorem body_panic (fb : Nat) (W : World) : (method 278 133 (.pointer (some ⟨fb, 0, none⟩)) "windlass/sem.body").run Try.prog W = .ok (105, .pointer (some ⟨fb, 0, none⟩)) W := by kernel_rfl
theorem ended_panic (fb : Nat) (W : World) : (method 278 133 (.pointer (some ⟨fb, 0, none⟩)) "windlass/sem.ended").run Try.prog W = .ok (108, .pointer (some ⟨fb, 0, none⟩)) W := by kernel_rfl
theorem body_any (fb : Nat) (W : World) : Calls Try.prog 105 #[.pointer (some ⟨fb, 0, none⟩)] W fun e w' => e = .returned (.pointer (some ⟨fb, 0, none⟩)) ∧ W = w' := by
  go_enter Try.func105, Try.ntmps105
  go_wp2
  go_ret
  exact ⟨rfl, rfl⟩
set_option maxRecDepth 100000 in
set_option maxHeartbeats 1600000 in
theorem last_any (h : RunX w0 rb tg fa fo n c rs st ((fb, b) :: gl) pbs W) (hf : st.frames = t :: bl) (hs : bl.length ≤ 1048577) :
    Calls Try.prog 24 #[.pointer (some ⟨rb, 0, none⟩)] W fun e w' => e = .returned (.pointer (some ⟨fb, 0, none⟩)) ∧ Below W.heap.size W w' := by
  have HT := Lib.hid (top_any h hf hs)
  obtain ⟨y, hy⟩ : ∃ y, y = t.why := ⟨_, rfl⟩
  rw [← hy] at HT
  clear h hf hs hy
  by_cases y0 : y = 0
  · skip
    rw [show frP y = 70 by rw [y0]; rfl] at HT
    have hm := body_first fb
    go_enter Try.func24, Try.ntmps24
    go_wp2_with (first
      | (go_at_call 36; refine HT.out.mono ?_; rintro e w2 ⟨rfl, hb2⟩; have HB2 := Lib.hid hb2; clear hb2)
      | (go_at_call 105; refine (body_any fb _).mono ?_; rintro e w3 ⟨rfl, rfl⟩))
    go_ret
    exact ⟨rfl, HB2.out⟩
  by_cases y1 : y = 1
  · skip
    rw [show frP y = 112 by rw [y1]; rfl] at HT
    have hm := body_called fb
    go_enter Try.func24, Try.ntmps24
    go_wp2_with (first
      | (go_at_call 36; refine HT.out.mono ?_; rintro e w2 ⟨rfl, hb2⟩; have HB2 := Lib.hid hb2; clear hb2)
      | (go_at_call 105; refine (body_any fb _).mono ?_; rintro e w3 ⟨rfl, rfl⟩))
    go_ret
    exact ⟨rfl, HB2.out⟩
  by_cases y2 : y = 2
  · skip
    rw [show frP y = 139 by rw [y2]; rfl] at HT
    have hm := body_deferred fb
    go_enter Try.func24, Try.ntmps24
    go_wp2_with (first
      | (go_at_call 36; refine HT.out.mono ?_; rintro e w2 ⟨rfl, hb2⟩; have HB2 := Lib.hid hb2; clear hb2)
      | (go_at_call 105; refine (body_any fb _).mono ?_; rintro e w3 ⟨rfl, rfl⟩))
    go_ret
    exact ⟨rfl, HB2.out⟩
  · skip
    rw [show frP y = 133 by unfold frP; rw [if_neg y0, if_neg y1, if_neg y2]] at HT
    have hm := body_panic fb
    go_enter Try.func24, Try.ntmps24
    go_wp2_with (first
      | (go_at_call 36; refine HT.out.mono ?_; rintro e w2 ⟨rfl, hb2⟩; have HB2 := Lib.hid hb2; clear hb2)
      | (go_at_call 105; refine (body_any fb _).mono ?_; rintro e w3 ⟨rfl, rfl⟩))
    go_ret
    exact ⟨rfl, HB2.out⟩
end
end Go.Proofs.Ytdoabcmfblmklaa

/-
  Package sem: raise, active.
-/
namespace Go.Proofs.Ytdoabcmfblmklaa
set_option linter.unusedVariables false
set_option linter.unusedSimpArgs false
open Go.ChangeShapes Go.WideShapes Go.ChangeAt Go.RowKit

theorem info_rsd : (Try.prog.info? 130).map (fun i => (i.zero, i.size, i.bytes)) = some (some (.pointer none), 1, 8) := by kernel_rfl
theorem app_rsd {w : World} {ops : Array Oper} {rest : List Oper} {o : Oper} {a : Act} {Q : Exit → Act → World → Prop} (hgd : o.guard = none) (s x : Operand)
    (ho : o.op = .call { callee := .builtin .append, args := #[s, x], argTypes := #[65, 65] }) (base : Nat)
    (v : Value) (n : Nat) (xs : List Value) (hs : a.eval s = v) (hown : w.ownsRow base 130 1 v n xs)
    (B : Nat) (A : Option Addr) (m c : Nat) (news : List Value) (hx : a.eval x = .slice A m c) (hr : Reads w B 1 A m news) (h1 : ∀ u ∈ news, u.oneCell' = true)
    (hbytes : (n + m) * 8 ≤ 140737488355328) (hbase : base ≤ w.heap.size)
    (h : ∀ v' w', w'.ownsRow base 130 1 v' (n + m) (xs ++ news) → w.grownBy w' v.ownBlock → (v'.ownBlock = v.ownBlock ∨ v'.ownBlock = some w.heap.size) → wpList Try.prog ops Q rest (a.put o.dst v') w') : wpList Try.prog ops Q (o :: rest) a w := by
  obtain ⟨i0, hi, hz0, hz1, hz2⟩ := info_parts info_rsd
  exact wpList_append_any w hgd s x _ ho base 130 i0 (.pointer none) 1 8 Try.underlying65 hi hz0 hz1 hz2 rfl (by decide) v n xs hs hown B A m c news hx hr h1 (by unfold maxLen; omega) hbytes hbase h
theorem reads_new (W : World) (t : TypeId) (u : Value) : Reads (W.alloc (.cells #[u] t)) (W.heap.size + 1) 1 (some ⟨W.heap.size, 0, none⟩) 1 [u] := ⟨rfl, fun _ => ⟨_, rfl, by simp, fun j x hj => by
  have ea : (⟨W.heap.size, 0, none⟩ : Addr).add j = ⟨W.heap.size, j, none⟩ := by simp [Addr.add]; exact Eq.symm
  rw [ea, (Blk.new W _ _).cell]
  simpa using hj⟩⟩
section
variable {w0 W W' w8 W1 : World} {ow ow' : Nat → Nat} {ex : Nat → Prop} {rb tg fa fo n c : Nat} {rs : List Raw} {st st' : Mc} {g g' : RG} {t : Fr} {bl : List Fr} {gl : List (Nat × Nat)} {pbs : List Nat} {fb b : Nat}
/-- whatever of the run's own rows has turned: the trace, the program stay -/
theorem RunAt.low (h : RunAt w0 rb tg fa fo n c rs st g ow W) (kr : Kr ex ow ow' W W') (hex : ∀ x, ex x → x = 0 ∨ x = 4 ∨ x = 5 ∨ x = 6 ∨ x = 7 ∨ 10 ≤ x)
    (h1 : OB W' ow' w0.heap.size 0 rb 68 (runC (some ⟨fa, fo, none⟩) n c tg st' g')) (h2 : OR W' ow' w0.heap.size 4 89 1 g'.fv st'.frames.length (frVs st'.frames g'.gs)) (h3 : FrsAt W' ow' w0.heap.size fa fo st'.frames g'.gs) (h4 : OR W' ow' w0.heap.size 5 30 1 g'.mv st'.mem.length (u64c st'.mem))
    (h5 : OR W' ow' w0.heap.size 6 130 1 g'.pv st'.panics.length (g'.pbs.map ptrV).reverse) (h6 : PansAt W' ow' w0.heap.size st'.panics g'.pbs) (h7 : g'.pbs.Nodup) (e1 : st'.tape = st.tape) (e2 : st'.evs = st.evs) (e3 : st.doing ≠ 3) (e4 : st'.doing ≠ 3) (e5 : g'.ev = g.ev) (e6 : g'.tv = g.tv) (e7 : g'.xv = g.xv) :
    RunAt w0 rb tg fa fo n c rs st' g' ow' W' := by
  have nx : ∀ r, r = 1 ∨ r = 2 ∨ r = 3 ∨ r = 8 ∨ r = 9 → ¬ ex r := fun r hr hx => by have := hex r hx; omega
  exact ⟨h1, h2, h3, h4, h5, h6, h7, by rw [e1, e2, e6, e7]; exact h.tr.kr kr (nx 1 (by omega)) (nx 2 (by omega)) (nx 3 (by omega)), fun _ => by rw [e5]; exact h.res e3, fun hd => absurd hd e4, h.prog.kr kr h.below.size fun i hi => by rw [h.frn i hi]; exact nx 9 (by omega), Kr.below h.below kr h.below.size fun i hi => by rw [h.frn i hi]; exact nx 9 (by omega), fun i hi => (kr.old i (Nat.lt_of_lt_of_le hi h.below.size)).trans (h.frn i hi)⟩
/-- new blocks, of a role -/
theorem RunAt.new (h : RunAt w0 rb tg fa fo n c rs st g ow W) (hb : Below W.heap.size W W') (r : Nat) : RunAt w0 rb tg fa fo n c rs st g (up ow W.heap.size r) W' := by
  have kr : Kr (fun _ => False) ow (up ow W.heap.size r) W W' := Kr.of_new hb ow r _
  exact ⟨h.run.kr kr (fun h => h), h.frs.kr kr (fun h => h), h.frames.kr kr (fun h => h) fun j hj => ⟨fun h => h, fun h => h, fun h => h⟩, h.mem.kr kr (fun h => h), h.pan.kr kr (fun h => h), h.pans.kr kr (fun h => h), h.nodup, h.tr.kr kr (fun h => h) (fun h => h) (fun h => h), h.res, fun hd => (h.done hd).kr kr (fun h => h), h.prog.kr kr h.below.size fun i hi => fun h => h, Kr.below h.below kr h.below.size fun i hi => fun h => h, fun i hi => (up_old (Nat.lt_of_lt_of_le hi h.below.size)).trans (h.frn i hi)⟩
theorem PansAt.lt {base : Nat} : ∀ {ps : List (Int × Bool)} {bs : List Nat}, PansAt W ow base ps bs → ∀ x ∈ bs, x < W.heap.size
  | [], [], _, x, hx => by cases hx
  | [], _ :: _, h, _, _ => by cases h
  | _ :: _, [], h, _, _ => by cases h
  | p :: ps, b :: bs, h, x, hx => by
    rcases List.mem_cons.1 hx with rfl | hx
    · exact h.1.blk.lt
    · exact PansAt.lt h.2 x hx

set_option maxRecDepth 100000 in
set_option maxHeartbeats 1600000 in
theorem raise_any (v : Int) (h : RunX w0 rb tg fa fo n c rs st gl pbs W) (hd : st.doing ≠ 3) (hs : st.panics.length ≤ 1048576) (hmx : st.maxp ≤ 1048577) :
    Calls Try.prog 44 #[.pointer (some ⟨rb, 0, none⟩), .int .u64 v] W fun e w' => e = .returned (.tuple #[]) ∧ ∃ x, RunX w0 rb tg fa fo n c rs (st.raise v) gl (x :: pbs) w' := by
  obtain ⟨g, ow, hR, hgl, rfl⟩ := h
  obtain ⟨m, hm⟩ : ∃ m, m = st.panics.length := ⟨_, rfl⟩
  obtain ⟨mx, hx⟩ : ∃ m, m = st.maxp := ⟨_, rfl⟩
  have hbz : w0.heap.size ≤ W.heap.size := hR.below.size
  have hrz : rb < W.heap.size := hR.run.blk.lt
  -- the panic
  have hR1 := hR.new (W' := W.alloc (.cells #[.int .u64 v, .bool false] 132)) ((Below.refl _ _).alloc (Nat.le_refl _) _) 7
  have hP1 : OB (W.alloc (.cells #[.int .u64 v, .bool false] 132)) (up ow W.heap.size 7) w0.heap.size 7 W.heap.size 132 #[.int .u64 v, .bool false] := ⟨Blk.new _ _ _, up_new (Nat.le_refl _), hbz⟩
  obtain ⟨W1, hW1⟩ : ∃ W1, W1 = W.alloc (.cells #[.int .u64 v, .bool false] 132) := ⟨_, rfl⟩
  have hz1 : W1.heap.size = W.heap.size + 1 := by rw [hW1]; simp
  rw [← hW1] at hR1 hP1
  have c4 : W.cell? ⟨rb, 4, none⟩ = some g.pv := hR.run.blk.cell 4
  obtain ⟨pv, hpv⟩ : ∃ pv, pv = g.pv := ⟨_, rfl⟩
  have hRD := reads_new W1 130 (.pointer (some ⟨W.heap.size, 0, none⟩))
  have hOA := hR1.pan.own.alloc (.cells #[.pointer (some ⟨W.heap.size, 0, none⟩)] 130)
  rw [← hm] at hOA hs
  rw [← hx] at hmx
  rw [← hpv] at c4 hOA
  rw [hz1, hW1] at hRD
  rw [hW1] at hOA
  have HRD := Lib.hid hRD
  have HOA := Lib.hid hOA
  have HPV := Lib.hid hpv
  have HM := Lib.hid hm
  have HX := Lib.hid hx
  have HW1 := Lib.hid hW1
  have HZ1 := Lib.hid hz1
  have HR1 := Lib.hid hR1
  have HP1 := Lib.hid hP1
  have HGL := Lib.hid hgl
  have HD := Lib.hid hd
  have H1 : Hid (∀ u ∈ [Value.pointer (some ⟨W.heap.size, 0, none⟩)], u.oneCell' = true) := Lib.hid (fun u hu => by simp at hu; subst hu; rfl)
  have HLT : Hid (W.heap.size ∉ g.pbs) := Lib.hid (fun hh => by have := hR.pans.lt _ hh; omega)
  have HND := Lib.hid hR.nodup
  clear hRD hOA hpv hm hx hW1 hz1 hR1 hP1 hgl hR hd
  go_enter Try.func44, Try.ntmps44
  go_wp2_with (at_builtin; refine app_rsd rfl _ _ rfl w0.heap.size pv m (g.pbs.map ptrV).reverse rfl HOA.out (W.heap.size + 1 + 1) (some ⟨W.heap.size + 1, 0, none⟩) 1 1 [.pointer (some ⟨W.heap.size, 0, none⟩)] rfl HRD.out H1.out (by omega) (by simp; omega) ?_; intro v8 w8 hown hgr hor; refine Hid.out ?_)
  obtain ⟨A8, c8, rfl⟩ := own_slice hown
  rw [← HW1.out] at hgr hor
  have hOR := HR1.out.pan
  rw [← HPV.out, ← HM.out] at hOR
  obtain ⟨hb8, hB8, hO8, hkr⟩ := app_set HR1.out.run hOR (by omega) ((Below.refl _ _).alloc (Nat.le_refl _) _) hown hgr hor 4
  have d4 : w8.cell? ⟨rb, 4, none⟩ = some pv := by rw [hb8.cell, HPV.out]; rfl
  have f4 : w8.frozen? ⟨rb, 4, none⟩ = false := hb8.frozen 4
  have e13 : w8.cell? ⟨rb, 13, none⟩ = some (.int .i64 mx) := by rw [hb8.cell, HX.out]; rfl
  have e6 : w8.cell? ⟨rb, 6, none⟩ = some (.int .i64 st.doing) := by rw [hb8.cell]; rfl
  have f13 : w8.frozen? ⟨rb, 13, none⟩ = false := hb8.frozen 13
  have f6 : w8.frozen? ⟨rb, 6, none⟩ = false := hb8.frozen 6
  have HFIN : Hid (∀ y : Int, y = ((max mx (m + 1) : Nat) : Int) → RunX w0 rb tg fa fo n c rs (st.raise v) gl (W.heap.size :: g.pbs) (((w8.setCell ⟨rb, 4, none⟩ (.slice A8 (m + 1) c8)).setCell ⟨rb, 13, none⟩ (.int .i64 y)).setCell ⟨rb, 6, none⟩ (.int .i64 2)).drew) := Lib.hid fun y hy => by
    have hB9 := hB8.set_ 13 (.int .i64 y)
    have hBa := hB9.set_ 6 (.int .i64 2)
    have ka := (Kr.set hB8 13 (.int .i64 y)).trans (Kr.set hB9 6 (.int .i64 2))
    have k := hkr.trans (ka.wider (ex' := e2 6 0) fun x h => .inr h)
    refine RunX.on ?_ (Below.refl _ _).drew
    refine ⟨{ g with pv := .slice A8 (m + 1) c8, pbs := W.heap.size :: g.pbs }, _, HR1.out.low (g' := { g with pv := .slice A8 (m + 1) c8, pbs := W.heap.size :: g.pbs }) (st' := st.raise v) k (fun x hx => by rcases hx with h | h <;> omega) ?_ (HR1.out.frs.kr k (ne2 (by omega) (by omega))) (HR1.out.frames.kr k (ne2 (by omega) (by omega)) fun j hj => ⟨ne2 (by omega) (by omega), ne2 (by omega) (by omega), ne2 (by omega) (by omega)⟩) (HR1.out.mem.kr k (ne2 (by omega) (by omega))) ?_ ⟨HP1.out.kr k (ne2 (by omega) (by omega)), HR1.out.pans.kr k (ne2 (by omega) (by omega))⟩ (List.nodup_cons.2 ⟨HLT.out, HND.out⟩) rfl rfl HD.out (by show (2 : Int) ≠ 3; omega) rfl rfl rfl, HGL.out, rfl⟩
    · subst hy
      rw [HX.out, HM.out] at hBa
      rw [HX.out, HM.out]
      exact hBa
    · have h9 := hO8.kr ka (ne1 (by omega))
      have e1 : (st.raise v).panics.length = m + 1 := by rw [HM.out]; rfl
      have e2 : ((W.heap.size :: g.pbs).map ptrV).reverse = (g.pbs.map ptrV).reverse ++ [.pointer (some ⟨W.heap.size, 0, none⟩)] := by simp [ptrV]
      show OR _ _ _ _ _ _ _ (st.raise v).panics.length ((W.heap.size :: g.pbs).map ptrV).reverse
      rw [e1, e2]
      exact h9
  refine Lib.hid ?_
  clear hown hgr hor hOR hb8 hB8 hO8 hkr
  go_wp2
  go_region
  go_wp2
  all_goals
    go_end0
    refine ⟨rfl, _, HFIN.out _ ?_⟩
    omega
end
end Go.Proofs.Ytdoabcmfblmklaa

/-
  append(s, make([]uint64, k)...) onto a row of the call's own: zeros behind what it holds.
-/
namespace Go.Proofs.Ytdoabcmfblmklaa
set_option linter.unusedVariables false
set_option linter.unusedSimpArgs false
open Go.ChangeShapes Go.WideShapes Go.ChangeAt Go.RowKit

theorem zeroCells_one (z : Value) (k : Nat) : (Builtin.zeroCells #[z] k).toList = List.replicate k z := by
  apply List.ext_getElem
  · simp [Builtin.zeroCells]
  · intro i h1 h2
    simp [Builtin.zeroCells, Nat.mod_one]
section
variable {P : Program} (w : World)
theorem run_zeros_room (t tn ty e : TypeId) (i : TypeInfo) (z : Value) (kq kn : IntKind) (ht : P.underlying t = some (.slice e)) (htn : P.underlying tn = some (.int kn)) (hi : P.info? e = some i) (hz : i.zero = some z) (hs : i.size = 1) (hzc : z.cells = #[z]) (hz1 : z.oneCell' = true)
    (g n cap k : Nat) (cur : Array Value) (hg : w.heap[g]? = some (.cells cur e (0, 0))) (hcs : cur.size = cap) (hroom : n + k ≤ cap) (h63 : ((n + k : Nat) : Int) ≤ 9223372036854775807) (h48 : k * i.bytes ≤ 281474976710656) :
    (Builtin.append_ #[t, tn] ty #[.slice (some ⟨g, 0, none⟩) n cap, .int kq k]).run P w =
      .ok (.slice (some ⟨g, 0, none⟩) (n + k) cap) (w.setRow g (cur.toList.take n ++ List.replicate k z ++ cur.toList.drop (n + k)).toArray) := by
  have hw : IntKind.i64.wrap (k : Int) = k := by rw [IntKind.wrap_i64]; omega
  have h48i : ¬ (281474976710656 < (k : Int) * (i.bytes : Int)) := by
    rw [← Int.natCast_mul]
    omega
  have hneg : ¬ ((k : Int) < 0) := by omega
  have hst := run_storeCells_at P g n e (List.replicate k z) 0 cur w hg (by simp; omega) (fun u hu => by obtain ⟨_, rfl⟩ := List.mem_replicate.1 hu; exact hz1)
  simp only [Nat.add_zero, List.length_replicate] at hst
  by_cases hk : k = 0
  · subst hk
    simp only [List.replicate_zero] at hst
    have hw0 : IntKind.i64.wrap (0 : Int) = 0 := by decide
    have hn0 : n ≤ cap := by omega
    have hr0 : (w.setRow g (List.take n cur.toList ++ [] ++ List.drop (n + 0) cur.toList).toArray) = w.setRow g (List.take n cur.toList ++ List.drop n cur.toList).toArray := by simp
    rw [hr0] at hst
    simp [Builtin.append_, run_underlying ht, run_underlying htn, sizeOf, typeInfo, zeroValue, hi, hz, hs, asInt, asIntOf, hw0, hn0, Addr.add_lit, hst]
  · have hzz : (Builtin.zeroCells z.cells k).toList = List.replicate k z := by rw [hzc]; exact zeroCells_one z k
    simp [Builtin.append_, run_underlying ht, run_underlying htn, sizeOf, typeInfo, zeroValue, hi, hz, hs, asInt, asIntOf, hw, hneg, h48i, hk, hroom, Addr.add_lit, hzz, hst]
theorem run_zeros_own (base : Nat) (t tn ty e : TypeId) (i : TypeInfo) (z : Value) (kq kn : IntKind) (bytes : Nat) (ht : P.underlying t = some (.slice e)) (htn : P.underlying tn = some (.int kn)) (hi : P.info? e = some i) (hz : i.zero = some z) (hs : i.size = 1) (hby : i.bytes = bytes) (hzc : z.cells = #[z]) (hz1 : z.oneCell' = true)
    (v : Value) (n : Nat) (xs : List Value) (hown : w.ownsRow base e 1 v n xs) (k : Nat) (hbytes : (n + k) * bytes ≤ 140737488355328) (h63 : n + k ≤ maxLen) (hbase : base ≤ w.heap.size) :
    ∃ v' w', (Builtin.append_ #[t, tn] ty #[v, .int kq k]).run P w = .ok v' w' ∧ w'.ownsRow base e 1 v' (n + k) (xs ++ List.replicate k z) ∧ w.grownBy w' v.ownBlock ∧ (v'.ownBlock = v.ownBlock ∨ v'.ownBlock = some w.heap.size) := by
  subst hby
  have hsmall : n + k ≤ 9223372036854775807 := by simp only [maxLen] at h63; omega
  have hkb : k * i.bytes ≤ 140737488355328 := Nat.le_trans (Nat.mul_le_mul_right _ (by omega)) hbytes
  have hlen : (xs ++ List.replicate k z).length = (n + k) * 1 := by rw [List.length_append, hown.1, List.length_replicate]; omega
  have grow : ∀ (A : Option Addr) (cap : Nat), v = .slice A n cap → cap < n + k → 0 < k → (Builtin.firstCells i.size n (.slice A n cap)).run P w.drew = .ok xs.toArray w.drew →
      ∃ v' w', (Builtin.append_ #[t, tn] ty #[v, .int kq k]).run P w = .ok v' w' ∧ w'.ownsRow base e 1 v' (n + k) (xs ++ List.replicate k z) ∧ w.grownBy w' v.ownBlock ∧ (v'.ownBlock = v.ownBlock ∨ v'.ownBlock = some w.heap.size) := by
    intro A cap hv hc hk hold
    have hr := Lib.run_append_grow_zeros w t tn ty e i z kq kn ht htn hi hz A n cap xs hold k hk (by omega) hc (by omega) (by omega) (growslice_fits (by omega) hbytes)
    have hge := grownCap_ge w (n + k) cap e
    have hcm : grownCap w (n + k) cap e ≤ maxLen := grownCap_le_maxLen w (n + k) cap e h63
    subst hv
    refine ⟨_, _, hr, ⟨hlen, .inr ⟨w.heap.size, _, _, rfl, hbase, heap_alloc_new w.drew _, hge, hcm, ?_, ?_⟩⟩, ⟨rfl, rfl, rfl, by simp, fun q hq _ => Below.heap_alloc w.drew _ q hq⟩, .inr rfl⟩
    · have h1 := hown.1
      simp [size_zeroCells, hzc]
      omega
    · rw [hzc]
      simp only [Array.toList_append, zeroCells_one, List.toList_toArray]
      rw [← hlen]
      exact List.take_left
  rcases hown.2 with ⟨hv, hn⟩ | ⟨g, cap, cur, hv, hbg, hg, hnc, hcm, hcs, htake⟩
  · subst hn
    have hx : xs = [] := List.eq_nil_of_length_eq_zero (by simpa using hown.1)
    by_cases hk : k = 0
    · subst hk hx hv
      refine ⟨.slice none 0 0, w, ?_, ⟨by simp, .inl ⟨rfl, rfl⟩⟩, ⟨rfl, rfl, rfl, Nat.le_refl _, fun _ _ _ => rfl⟩, .inl rfl⟩
      have hw : IntKind.i64.wrap (0 : Int) = 0 := by decide
      simp [Builtin.append_, run_underlying ht, run_underlying htn, sizeOf, typeInfo, hi, hs, asInt, asIntOf, hw]
    · subst hx
      exact grow none 0 hv (by omega) (by omega) (run_firstCells_none w.drew i.size 0 0 0)
  · by_cases hroom : n + k ≤ cap
    · have hr := run_zeros_room (P := P) w t tn ty e i z kq kn ht htn hi hz hs hzc hz1 g n cap k cur hg (by simpa using hcs) hroom (by omega) (by omega)
      subst hv
      refine ⟨_, _, hr, ⟨hlen, .inr ⟨g, cap, _, rfl, hbg, setRow_heap w g cur _ e _ hg, hroom, hcm, ?_, ?_⟩⟩, ⟨rfl, rfl, rfl, by simp, fun q _ hq => setRow_other w g q _ (fun e => hq (by simp [Value.ownBlock, e]))⟩, .inl rfl⟩
      · simp at hcs
        simp
        omega
      · rw [Nat.mul_one] at htake
        rw [htake, ← hlen]
        exact List.take_left
    · refine grow (some ⟨g, 0, none⟩) cap hv (by omega) (by omega) ?_
      have hold : ∀ j u, xs[j]? = some u → w.drew.cell? ((⟨g, 0, none⟩ : Addr).add j) = some u := by
        have h := hown.cells (g := g) (by rw [hv]; rfl)
        exact h
      exact run_firstCells_some (P := P) w.drew i.size n ⟨g, 0, none⟩ n cap xs (by rw [hs]; exact hown.1) hold
end
theorem step_zeros {w : World} {ops : Array Oper} {o : Oper} {a : Act} {K : Act → World → Prop} {Q : Exit → Act → World → Prop} {E : Prop} (hgd : o.guard = none) (s x : Operand)
    (ho : o.op = .call { callee := .builtin .append, args := #[s, x], argTypes := #[25, 3] }) (base : Nat)
    (v : Value) (n : Nat) (xs : List Value) (hs : a.eval s = v) (hown : w.ownsRow base 30 1 v n xs) (k : Nat) (hx : a.eval x = .int .i64 k)
    (hbytes : (n + k) * 8 ≤ 140737488355328) (hbase : base ≤ w.heap.size)
    (h : ∀ v' w', w'.ownsRow base 30 1 v' (n + k) (xs ++ List.replicate k (.int .u64 0)) → w.grownBy w' v.ownBlock → (v'.ownBlock = v.ownBlock ∨ v'.ownBlock = some w.heap.size) → K (a.put o.dst v') w') :
    if Region.wanted o (yielded ops a.tmps) = true then Oper.wp Try.prog o a w K Q else E := by
  obtain ⟨i0, hi, hz0, hz1, hz2⟩ := info_parts info_u64
  obtain ⟨v', w', hrun, h2, h3, h4⟩ := run_zeros_own (P := Try.prog) w base 25 3 o.type 30 i0 (.int .u64 0) .i64 .i64 8 Try.underlying25 Try.underlying3 hi hz0 hz1 hz2 rfl rfl v n xs hown k hbytes (by unfold maxLen; omega) hbase
  have hw : Region.wanted o (yielded ops a.tmps) = true := by simp [Region.wanted, hgd]
  rw [if_pos hw]
  unfold Oper.wp execOp
  simp only [ho, resolve, invoke, builtin, Sem.run_bind, Sem.run_pure, Result.andThen_ok, List.map_toArray, List.map_cons, List.map_nil, hs, hx, hrun]
  exact h v' w' h2 h3 h4
end Go.Proofs.Ytdoabcmfblmklaa

/-
  Words for a program in memory of the call's own.
-/
namespace Go.Proofs.Ytdoabcmfblmklaa
set_option linter.unusedVariables false
open Go.ChangeShapes Go.WideShapes Go.ChangeAt Go.RowKit

/-- a function's two slices, each a row of the call's own -/
structure OwnF (w : World) (base : Nat) (r : Raw) : Prop where
  locals : w.ownsRow base 47 1 (.slice r.lo r.fn.locals.length r.lc) r.fn.locals.length (u8c r.fn.locals)
  code : w.ownsRow base 43 3 (.slice r.co r.fn.code.length r.cc) r.fn.code.length (insc r.fn.code)
theorem OwnF.rdF {w : World} {base : Nat} {r : Raw} (h : OwnF w base r) : RdF w w.heap.size r := ⟨Reads.of_own h.locals, Reads.of_own h.code, own_cap h.locals⟩
theorem own_lt {W : World} {base size k : Nat} {e : TypeId} {v : Value} {xs : List Value} (h : W.ownsRow base e size v k xs) {g : Nat} (hg : v.ownBlock = some g) : base ≤ g ∧ g < W.heap.size := own_block_le h hg
theorem own_al {w : World} {base size n : Nat} {e : TypeId} {v : Value} {xs : List Value} (h : w.ownsRow base e size v n xs) (o : Obj) : (w.alloc o).ownsRow base e size v n xs := h.alloc o
theorem grown_of_drew {a b : World} {row : Option Nat} (h : a.drew.grownBy b row) : a.grownBy b row := ⟨h.os, h.tape, h.output, h.size, h.block⟩
theorem reads_blk {w : World} {g size n : Nat} {t : TypeId} {cs : List Value} (h : Blk w g t cs.toArray) (hn : cs.length = n * size) : Reads w w.heap.size size (some ⟨g, 0, none⟩) n cs :=
  ⟨hn, fun _ => ⟨_, rfl, h.lt, fun j u hj => by
    have ea : (⟨g, 0, none⟩ : Addr).add j = ⟨g, j, none⟩ := by simp [Addr.add]; exact Eq.symm
    rw [ea, h.cell]
    simpa using hj⟩⟩
theorem made_rep (z : Value) (k : Nat) : madeCells #[z] k = (List.replicate k z).toArray := by
  apply Array.ext
  · simp [madeCells]
  · intro i h1 h2
    simp [madeCells, Nat.mod_one]
/-- a new row of kinds: of the call's own -/
def NewK (w : World) (l : List Int) (e : Ending) (w' : World) : Prop :=
  ∃ A m c, e = .returned (.slice A m c) ∧ m = l.length ∧ w'.ownsRow w.heap.size 47 1 (.slice A m c) m (u8c l) ∧ Below w.heap.size w w'
/-- kinds that can be read -/
def RdK (w : World) (l : List Int) (e : Ending) (w' : World) : Prop :=
  ∃ A m c, e = .returned (.slice A m c) ∧ m = l.length ∧ m ≤ c ∧ Reads w' w'.heap.size 1 A m (u8c l) ∧ Below w.heap.size w w'
theorem NewK.rdK {w w' : World} {l : List Int} {e : Ending} (h : NewK w l e w') : RdK w l e w' := by
  obtain ⟨A, m, c, rfl, hm, ho, hb⟩ := h
  exact ⟨A, m, c, rfl, hm, own_cap ho, Reads.of_own ho, hb⟩
end Go.Proofs.Ytdoabcmfblmklaa

/-
  Package sem: newCall: a function's locals are laid behind the memory.
-/
namespace Go.Proofs.Ytdoabcmfblmklaa
set_option linter.unusedVariables false
set_option linter.unusedSimpArgs false
open Go.ChangeShapes Go.WideShapes Go.ChangeAt Go.RowKit

theorem fnOf_at {rs : List Raw} {k : Nat} {r : Raw} (h : rs[k]? = some r) : fnOf (fns rs) k = r.fn := by
  unfold fnOf fns
  rw [List.getD_eq_getElem?_getD, List.getElem?_map, h]; rfl
/-- a new call's struct -/
def callV (fa fo k base : Nat) : Value := .agg #[.pointer (some ⟨fa, fo + k * 5, none⟩), .int .i64 0, .int .i64 base, .slice none 0 0, .slice none 0 0, .int .u64 0]
theorem info_u64s : (Try.prog.info? 30).map (·.size) = some 1 := by kernel_rfl
section
variable {w0 W W' w8 W1 : World} {ow ow' : Nat → Nat} {ex : Nat → Prop} {rb tg fa fo n c : Nat} {rs : List Raw} {st st' : Mc} {g g' : RG} {t : Fr} {bl : List Fr} {gl : List (Nat × Nat)} {pbs : List Nat} {fb b : Nat}
/-- a run, and arguments that can be read: neither in the memory nor in the run's object -/
def RunA (w0 : World) (rb tg fa fo n c : Nat) (rs : List Raw) (st : Mc) (gs : List (Nat × Nat)) (pbs : List Nat) (AA : Option Addr) (p : Nat) (args : List Int) (W : World) : Prop :=
  ∃ g ow, RunAt w0 rb tg fa fo n c rs st g ow W ∧ g.gs.map (fun x => (x.fb, x.by_)) = gs ∧ g.pbs = pbs ∧ Reads W W.heap.size 1 AA p (u64c args) ∧ (∀ ad, AA = some ad → ow ad.block ≠ 5 ∧ ow ad.block ≠ 0)
/-- the memory's row has turned, and the run's object -/
theorem RunAt.mem_ {mem : List Int} {mv : Value} (h : RunAt w0 rb tg fa fo n c rs st g ow W) (kr : Kr ex ow ow' W W') (hex : ∀ x, ex x → x = 0 ∨ x = 5) (hd : st.doing ≠ 3)
    (h1 : OB W' ow' w0.heap.size 0 rb 68 (runC (some ⟨fa, fo, none⟩) n c tg st { g with mv := mv })) (h4 : OR W' ow' w0.heap.size 5 30 1 mv mem.length (u64c mem)) :
    RunAt w0 rb tg fa fo n c rs { st with mem := mem } { g with mv := mv } ow' W' := by
  have nx : ∀ r, r ≠ 0 → r ≠ 5 → ¬ ex r := fun r h0 h5 hx => by have := hex r hx; omega
  exact h.low kr (fun x hx => by have := hex x hx; omega) h1 (h.frs.kr kr (nx 4 (by omega) (by omega))) (h.frames.kr kr (nx 8 (by omega) (by omega)) fun j hj => ⟨nx _ (by omega) (by omega), nx _ (by omega) (by omega), nx _ (by omega) (by omega)⟩) h4 (h.pan.kr kr (nx 6 (by omega) (by omega))) (h.pans.kr kr (nx 7 (by omega) (by omega))) h.nodup rfl rfl hd hd rfl rfl rfl
theorem own_setRow {base q m cap : Nat} {e : TypeId} {xs ys : List Value} (h : W.ownsRow base e 1 (.slice (some ⟨q, 0, none⟩) m cap) m xs) (cur : Array Value) (hc : W.heap[q]? = some (.cells cur e (0, 0))) (new : List Value) (hl : new.length = cur.size) (hy : new.take m = ys) : (W.setRow q new.toArray).ownsRow base e 1 (.slice (some ⟨q, 0, none⟩) m cap) m ys := by
  rcases h.2 with ⟨he, _⟩ | ⟨q', cap', cur', he, hb, hh, hnc, hcm, hcs, hxs⟩
  · cases he
  · injection he with h1 h2 h3
    injection h1 with h1
    injection h1 with h1
    subst h1 h3
    have hce : cur' = cur := by rw [hc] at hh; injection hh with hh; injection hh with hh _; exact hh.symm
    subst hce
    refine ⟨?_, .inr ⟨q, cap, _, rfl, hb, setRow_heap W q cur' _ e _ hc, hnc, hcm, by simpa [hl] using hcs, ?_⟩⟩
    · rw [← hy, List.length_take, hl]; omega
    · rw [List.toList_toArray, Nat.mul_one, hy]
theorem Kr.setRow {r q : Nat} (hq : ow q = r) (new : Array Value) : Kr (e1 r) ow ow W (W.setRow q new) :=
  ⟨rfl, rfl, rfl, by simp [World.setRow], fun k hk hn => setRow_other W q k new (by rintro rfl; exact hn hq), fun _ _ => rfl⟩

theorem splice_take {cur : List Value} {mem args : List Int} {m nl p : Nat} (hx : cur.take (m + nl) = u64c (mem ++ List.replicate nl 0)) (hm : mem.length = m) (hp : args.length = p) (hpn : p ≤ nl) :
    (cur.take m ++ (u64c args ++ cur.drop (m + (u64c args).length))).take (m + nl) = u64c (mem ++ (args ++ List.replicate (nl - p) 0)) := by
  obtain ⟨R, hR⟩ : ∃ R, cur = u64c mem ++ (List.replicate nl (.int .u64 0) ++ R) := ⟨cur.drop (m + nl), by
    have h := List.take_append_drop (m + nl) cur
    rw [hx] at h
    rw [← List.append_assoc]
    refine h.symm.trans ?_
    simp [u64c]⟩
  have hlm : (u64c mem).length = m := by rw [length_u64c, hm]
  have hla : (u64c args).length = p := by rw [length_u64c, hp]
  have e1 : cur.take m = u64c mem := by rw [hR, List.take_left' hlm]
  have e2 : cur.drop (m + p) = List.replicate (nl - p) (.int .u64 0) ++ R := by
    rw [hR, ← hlm, List.drop_append, List.drop_append]
    simp [List.drop_replicate]
    rw [show p - nl = 0 by omega, List.drop_of_length_le (by omega)]; rfl
  rw [hla, e1, e2]
  have e3 : u64c mem ++ (u64c args ++ (List.replicate (nl - p) (.int .u64 0) ++ R)) = u64c (mem ++ (args ++ List.replicate (nl - p) 0)) ++ R := by simp [u64c]
  rw [e3, List.take_left']
  rw [length_u64c]
  simp [hm, hp]
  omega
/-- the result's struct is laid -/
theorem RunAt.lay {T : Nat} {cs : Array Value} (h : RunAt w0 rb tg fa fo n c rs st g ow W) (hT : OB W ow w0.heap.size 10 T 74 cs) (v0 v1 v2 v3 v4 v5 : Value) :
    RunAt w0 rb tg fa fo n c rs st g ow ((((((W.setCell ⟨T, 0, none⟩ v0).setCell ⟨T, 1, none⟩ v1).setCell ⟨T, 2, none⟩ v2).setCell ⟨T, 3, none⟩ v3).setCell ⟨T, 4, none⟩ v4).setCell ⟨T, 5, none⟩ v5) := by
  have h0 := hT.set_ 0 v0
  have h1 := h0.set_ 1 v1
  have h2 := h1.set_ 2 v2
  have h3 := h2.set_ 3 v3
  have h4 := h3.set_ 4 v4
  exact (((((h.tmp (Kr.set hT 0 v0)).tmp (Kr.set h0 1 v1)).tmp (Kr.set h1 2 v2)).tmp (Kr.set h2 3 v3)).tmp (Kr.set h3 4 v4)).tmp (Kr.set h4 5 v5)

theorem lay_cells {T : Nat} {cs : Array Value} (h : Blk W T 74 cs) (hc : cs.size = 6) (v0 v1 v2 v3 v4 v5 : Value) (W6 : World) (hW : W6 = (((((W.setCell ⟨T, 0, none⟩ v0).setCell ⟨T, 1, none⟩ v1).setCell ⟨T, 2, none⟩ v2).setCell ⟨T, 3, none⟩ v3).setCell ⟨T, 4, none⟩ v4).setCell ⟨T, 5, none⟩ v5) :
    W6.cell? ⟨T, 0, none⟩ = some v0 ∧ W6.cell? ⟨T, 1, none⟩ = some v1 ∧ W6.cell? ⟨T, 2, none⟩ = some v2 ∧ W6.cell? ⟨T, 3, none⟩ = some v3 ∧ W6.cell? ⟨T, 4, none⟩ = some v4 ∧ W6.cell? ⟨T, 5, none⟩ = some v5 := by
  have h6 := (((((h.set_ 0 v0).set_ 1 v1).set_ 2 v2).set_ 3 v3).set_ 4 v4).set_ 5 v5
  rw [← hW] at h6
  refine ⟨?_, ?_, ?_, ?_, ?_, ?_⟩ <;> rw [h6.cell] <;> simp [Array.getElem?_setIfInBounds, hc]

set_option maxRecDepth 100000 in
set_option maxHeartbeats 3200000 in
theorem newCall_any (k B p cA : Nat) (AA : Option Addr) (args : List Int) (r : Raw) (h : RunA w0 rb tg fa fo n c rs st gl pbs AA p args W) (hd : st.doing ≠ 3) (hr : rs[k]? = some r) (hpl : args.length = p) (hpn : p ≤ r.fn.locals.length) (hnl : r.fn.locals.length ≤ 255) (hs : st.mem.length ≤ 1000000000) (hpc : p ≤ cA) (hpz : AA = none → p = 0) :
    Calls Try.prog 15 #[.pointer (some ⟨rb, 0, none⟩), .int .i64 k, .slice AA p cA] W fun e w' => e = .returned (callV fa fo k st.mem.length) ∧ RunX w0 rb tg fa fo n c rs { st with mem := st.mem ++ locals (fns rs) k args } gl pbs w' := by
  obtain ⟨g, ow, hR, hgl, rfl, hA, hAr⟩ := h
  have hk : k < n := by rw [← hR.prog.len]; exact (List.getElem?_eq_some_iff.1 hr).1
  obtain ⟨b0, off0, r', hA0, hb0, HX, HRF, HWF, x0, x1, x2, x3, x4⟩ := hR.prog.fn hk
  have hrr : r' = r := by have h := HX.out; rw [hr] at h; injection h with h; exact h.symm
  subst hrr
  obtain ⟨rfl, rfl⟩ : fa = b0 ∧ fo = off0 := by injection hA0 with hA0; injection hA0 with h1 h2; exact ⟨h1, h2⟩
  obtain ⟨nl, hnl'⟩ : ∃ nl, nl = r'.fn.locals.length := ⟨_, rfl⟩
  obtain ⟨m, hm⟩ : ∃ m, m = st.mem.length := ⟨_, rfl⟩
  have hbz : w0.heap.size ≤ W.heap.size := hR.below.size
  have hfz : fa < W.heap.size := by omega
  have hrz : rb < W.heap.size := hR.run.blk.lt
  -- the result's own block
  obtain ⟨o1, ho1⟩ : ∃ o1, o1 = Obj.cells #[.pointer none, .int .i64 0, .int .i64 0, .slice none 0 0, .slice none 0 0, .int .u64 0] 74 := ⟨_, rfl⟩
  have hR1 := hR.new (W' := W.alloc o1) ((Below.refl _ _).alloc (Nat.le_refl _) _) 10
  have hT1 : OB (W.alloc o1) (up ow W.heap.size 10) w0.heap.size 10 W.heap.size 74 #[.pointer none, .int .i64 0, .int .i64 0, .slice none 0 0, .slice none 0 0, .int .u64 0] := ⟨by rw [ho1]; exact Blk.new _ _ _, up_new (Nat.le_refl _), hbz⟩
  have c0 : W.cell? ⟨rb, 0, none⟩ = some (.slice (some ⟨fa, fo, none⟩) n c) := hR.run.blk.cell 0
  have c3 : W.cell? ⟨rb, 3, none⟩ = some g.mv := hR.run.blk.cell 3
  obtain ⟨mv, hmv⟩ : ∃ mv, mv = g.mv := ⟨_, rfl⟩
  obtain ⟨Am, cm, hms⟩ := hR.mem.slice
  have hmvs : mv = .slice Am m cm := by rw [hmv, hms, hm]
  rw [← hnl'] at x1 hpn hnl
  rw [← hm] at hs ⊢
  rw [← hmv, hmvs] at c3
  have hOA : Hid ((W.alloc o1).drew.ownsRow w0.heap.size 30 1 (.slice Am m cm) m (u64c st.mem)) := Lib.hid (by rw [← hmvs, hmv, hm]; exact hR1.mem.own)
  have hOA' : Hid ((W.alloc o1).ownsRow w0.heap.size 30 1 (.slice Am m cm) m (u64c st.mem)) := Lib.hid (by rw [← hmvs, hmv, hm]; exact hR1.mem.own)
  rw [ho1] at hOA hOA'
  have HAPP : Hid (∀ v8 w8, w8.ownsRow w0.heap.size 30 1 v8 (m + nl) (u64c st.mem ++ List.replicate nl (.int .u64 0)) → (W.alloc o1).grownBy w8 (Value.slice Am m cm).ownBlock → (v8.ownBlock = (Value.slice Am m cm).ownBlock ∨ v8.ownBlock = some (W.alloc o1).heap.size) →
      ∃ A8 c8, v8 = .slice A8 (m + nl) c8 ∧ w8.cell? ⟨rb, 3, none⟩ = some (.slice Am m cm) ∧ w8.frozen? ⟨rb, 3, none⟩ = false ∧ rb < w8.heap.size ∧ ∃ ow8, RunAt w0 rb tg fa fo n c rs { st with mem := st.mem ++ List.replicate nl 0 } { g with mv := v8 } ow8 (w8.setCell ⟨rb, 3, none⟩ v8) ∧ OB (w8.setCell ⟨rb, 3, none⟩ v8) ow8 w0.heap.size 10 W.heap.size 74 #[.pointer none, .int .i64 0, .int .i64 0, .slice none 0 0, .slice none 0 0, .int .u64 0] ∧
        (∀ i, i < W.heap.size → ow i ≠ 5 → ow i ≠ 0 → (w8.setCell ⟨rb, 3, none⟩ v8).heap[i]? = W.heap[i]?) ∧ W.heap.size < w8.heap.size) := Lib.hid fun v8 w8 hown hgr hor => by
    obtain ⟨A8, c8, rfl⟩ := own_slice hown
    have hO := hR1.mem
    rw [← hm, ← hmv, hmvs] at hO
    obtain ⟨hb8, hB8, hO8, hkr⟩ := app_set hR1.run hO (by omega) (Below.refl _ _) hown hgr hor 3
    have hz := hgr.size
    simp at hz
    refine ⟨A8, c8, rfl, ?_, hb8.frozen 3, hb8.lt, _, hR1.mem_ hkr (fun x hx => by rcases hx with h | h <;> omega) hd hB8 ?_, hT1.kr hkr (ne2 (by omega) (by omega)), fun i hi h5 h0 => ?_, by omega⟩
    · rw [hb8.cell, ← hmvs, hmv]; rfl
    · have e1 : (st.mem ++ List.replicate nl 0).length = m + nl := by rw [List.length_append, List.length_replicate, ← hm]
      have e2 : u64c (st.mem ++ List.replicate nl 0) = u64c st.mem ++ List.replicate nl (.int .u64 0) := by simp [u64c]
      rw [e1, e2]; exact hO8
    · have h1 := hkr.block i (by simp; omega) (by rw [up_old hi]; exact ne2 h5 h0)
      exact h1.trans (Below.heap_alloc W o1 i hi)
  have HNL := Lib.hid hnl'
  have HM := Lib.hid hm
  rw [ho1] at HAPP
  have HA := Lib.hid hA
  have HAR := Lib.hid hAr
  have HO1 := Lib.hid ho1
  have HR1 := Lib.hid hR1
  have HT1 := Lib.hid hT1
  have HGL := Lib.hid hgl
  have HD := Lib.hid hd
  have HPL := Lib.hid hpl
  have HFN : Hid (locals (fns rs) k args = args ++ List.replicate (nl - p) 0) := Lib.hid (by unfold locals; rw [fnOf_at hr, ← hnl', hpl])
  clear hnl' hm hmv hmvs ho1 hR1 hT1 hgl hd hpl hR hr hA hAr hms HX HRF HWF x0 x2 x3 x4 hA0 hb0
  go_enter Try.func15, Try.ntmps15
  go_upto_region 3 with fail
  go_cut [] (fun wx => ∃ A8 c8 ow8, Hid (RunAt w0 rb tg fa fo n c rs { st with mem := st.mem ++ List.replicate nl 0 } { g with mv := .slice A8 (m + nl) c8 } ow8 wx) ∧ Hid (OB wx ow8 w0.heap.size 10 W.heap.size 74 #[.pointer none, .int .i64 0, .int .i64 0, .slice none 0 0, .slice none 0 0, .int .u64 0]) ∧ Hid (∀ i, i < W.heap.size → ow i ≠ 5 → ow i ≠ 0 → wx.heap[i]? = W.heap[i]?) ∧ W.heap.size < wx.heap.size)
  case first =>
    go_region_law (refine step_zeros rfl _ _ rfl w0.heap.size (.slice Am m cm) m (u64c st.mem) rfl (by first | exact hOA.out | exact hOA'.out) nl rfl (by omega) (by simp; omega) ?_; intro v8 w8 hown hgr hor; obtain ⟨A8, c8, rfl, d3, f3, hrb8, ow8, hr8, ht8, hk8, hz8⟩ := HAPP.out _ _ hown (by first | exact grown_of_drew hgr | exact hgr) hor; have HR8 := Lib.hid hr8; have HT8 := Lib.hid ht8; have HK8 := Lib.hid hk8; clear hown hgr hor hr8 ht8 hk8)
    all_goals
      go_wp2
      go_meet
    all_goals
      exact ⟨A8, c8, ow8, HR8, HT8, HK8, by simp [World.setCell]; omega⟩
  case rest =>
    obtain ⟨A8, c8, ow8, HR8, HT8, HK8, hz8⟩ := hcut
    have c3' : wc.cell? ⟨rb, 3, none⟩ = some (.slice A8 (m + nl) c8) := HR8.out.run.blk.cell 3
    have t0 := HT8.out.blk.cell 0
    have t1 := HT8.out.blk.cell 1
    have t2 := HT8.out.blk.cell 2
    have t3 := HT8.out.blk.cell 3
    have t4 := HT8.out.blk.cell 4
    have t5 := HT8.out.blk.cell 5
    have g0 := HT8.out.blk.frozen 0
    have g1 := HT8.out.blk.frozen 1
    have g2 := HT8.out.blk.frozen 2
    have g3 := HT8.out.blk.frozen 3
    have g4 := HT8.out.blk.frozen 4
    have g5 := HT8.out.blk.frozen 5
    have hM8 : OR wc ow8 w0.heap.size 5 30 1 (.slice A8 (m + nl) c8) (m + nl) (u64c (st.mem ++ List.replicate nl 0)) := by
      have h := HR8.out.mem
      have e1 : (st.mem ++ List.replicate nl (0 : Int)).length = m + nl := by rw [List.length_append, List.length_replicate, ← HM.out]
      simp only [e1] at h
      exact h
    have hcap : m + nl ≤ c8 := own_cap hM8.own
    have HM8 := Lib.hid hM8
    clear hM8 c0 c3
    rcases Nat.eq_zero_or_pos p with hp0 | hp0
    · have HARG : Hid (args = []) := Lib.hid (List.eq_nil_of_length_eq_zero (by rw [HPL.out, hp0]))
      have HFIN : Hid (∀ v0 v1 v2 v3 v4 v5, RunX w0 rb tg fa fo n c rs { st with mem := st.mem ++ locals (fns rs) k args } gl g.pbs ((((((wc.setCell ⟨W.heap.size, 0, none⟩ v0).setCell ⟨W.heap.size, 1, none⟩ v1).setCell ⟨W.heap.size, 2, none⟩ v2).setCell ⟨W.heap.size, 3, none⟩ v3).setCell ⟨W.heap.size, 4, none⟩ v4).setCell ⟨W.heap.size, 5, none⟩ v5)) := Lib.hid fun v0 v1 v2 v3 v4 v5 => by
        rw [HFN.out, HARG.out, hp0, Nat.sub_zero, List.nil_append]
        exact ⟨_, _, HR8.out.lay HT8.out v0 v1 v2 v3 v4 v5, HGL.out, rfl⟩
      subst hp0
      have hmin : Nat.min 0 nl = 0 := Nat.zero_min nl
      have hcopy : ∀ (W : World) (dp : Option Addr) (dc : Nat), (Builtin.copy_ #[25, 25] 3 #[.slice dp nl dc, .slice AA 0 cA]).run Try.prog W = .ok (goInt 0) W := fun W dp dc => run_copy_none W _ _ _ 30 dp AA nl dc 0 cA Try.underlying25 info_u64s hmin
      rcases HM8.out.own.2 with ⟨he, h0⟩ | ⟨q, cap, cur, he, _⟩
      · injection he with e1 e2 e3
        subst e1 e3
        obtain rfl : nl = 0 := by omega
        obtain rfl : m = 0 := by omega
        go_wp2
        obtain ⟨W6, hW6⟩ : ∃ W6, W6 = ((((((wc.setCell ⟨W.heap.size, 0, none⟩ (.pointer (some ⟨fa, fo + k * 5, none⟩))).setCell ⟨W.heap.size, 1, none⟩ (.int .i64 0)).setCell ⟨W.heap.size, 2, none⟩ (.int .i64 0)).setCell ⟨W.heap.size, 3, none⟩ (.slice none 0 0)).setCell ⟨W.heap.size, 4, none⟩ (.slice none 0 0)).setCell ⟨W.heap.size, 5, none⟩ (.int .u64 0)) := ⟨_, rfl⟩
        obtain ⟨r0, r1, r2, r3, r4, r5⟩ := lay_cells HT8.out.blk rfl _ _ _ _ _ _ W6 hW6
        rw [← hW6]
        exact bodyPost_ret (v := callV fa fo k 0) (by simp [results, Try.results15, go_sem, r0, r1, r2, r3, r4, r5, callV]) rfl ⟨rfl, by rw [hW6]; exact HFIN.out _ _ _ _ _ _⟩
      · injection he with e1 e2 e3
        subst e1 e3
        by_cases hcm : c8 = m
        · subst hcm
          obtain rfl : nl = 0 := by omega
          go_wp2
          obtain ⟨W6, hW6⟩ : ∃ W6, W6 = ((((((wc.setCell ⟨W.heap.size, 0, none⟩ (.pointer (some ⟨fa, fo + k * 5, none⟩))).setCell ⟨W.heap.size, 1, none⟩ (.int .i64 0)).setCell ⟨W.heap.size, 2, none⟩ (.int .i64 (c8 : Nat))).setCell ⟨W.heap.size, 3, none⟩ (.slice none 0 0)).setCell ⟨W.heap.size, 4, none⟩ (.slice none 0 0)).setCell ⟨W.heap.size, 5, none⟩ (.int .u64 0)) := ⟨_, rfl⟩
          obtain ⟨r0, r1, r2, r3, r4, r5⟩ := lay_cells HT8.out.blk rfl _ _ _ _ _ _ W6 hW6
          rw [← hW6]
          exact bodyPost_ret (v := callV fa fo k c8) (by simp [results, Try.results15, go_sem, r0, r1, r2, r3, r4, r5, callV]) rfl ⟨rfl, by rw [hW6]; exact HFIN.out _ _ _ _ _ _⟩
        · have hsub : ((m + nl : Nat) : Int) - (m : Int) = (nl : Int) := by omega
          go_wp2
          obtain ⟨W6, hW6⟩ : ∃ W6, W6 = ((((((wc.setCell ⟨W.heap.size, 0, none⟩ (.pointer (some ⟨fa, fo + k * 5, none⟩))).setCell ⟨W.heap.size, 1, none⟩ (.int .i64 0)).setCell ⟨W.heap.size, 2, none⟩ (.int .i64 (m : Nat))).setCell ⟨W.heap.size, 3, none⟩ (.slice none 0 0)).setCell ⟨W.heap.size, 4, none⟩ (.slice none 0 0)).setCell ⟨W.heap.size, 5, none⟩ (.int .u64 0)) := ⟨_, rfl⟩
          obtain ⟨r0, r1, r2, r3, r4, r5⟩ := lay_cells HT8.out.blk rfl _ _ _ _ _ _ W6 hW6
          rw [← hW6]
          exact bodyPost_ret (v := callV fa fo k m) (by simp [results, Try.results15, go_sem, r0, r1, r2, r3, r4, r5, callV]) rfl ⟨rfl, by rw [hW6]; exact HFIN.out _ _ _ _ _ _⟩
    · obtain ⟨ad, hAA, hadz, hadc⟩ := HA.out.2 hp0
      rcases HM8.out.own.2 with ⟨he, h0⟩ | ⟨q, cap, cur, he, hqb, hh, hnc, hcm8, hcs, hxs⟩
      · omega
      injection he with e1 e2 e3
      subst e1 e3
      have hq5 : ow8 q = 5 := HM8.out.role q rfl
      obtain ⟨new, hnew⟩ : ∃ new, new = cur.toList.take m ++ u64c args ++ cur.toList.drop (m + (u64c args).length) := ⟨_, rfl⟩
      have hal : (u64c args).length = p := by rw [length_u64c, HPL.out]
      have hcopy : ∀ (dc : Nat), (Builtin.copy_ #[25, 25] 3 #[.slice (some ⟨q, m, none⟩) nl dc, .slice (some ad) p cA]).run Try.prog wc = .ok (goInt (u64c args).length) (wc.setRow q new.toArray) := fun dc => by
        rw [hnew]
        exact _root_.Go.run_copy_row (P := Try.prog) wc _ _ _ 30 q m nl dc ad p cA cur 30 (u64c args) Try.underlying25 info_u64s hh (by rw [hal]; exact (Nat.min_eq_left hpn).symm) (fun j v hv => by
          have h1 := hadc j v hv
          have h2 := HAR.out ad hAA
          exact (World.cell?_of_block (HK8.out _ (by rw [block_of_add]; exact hadz) (by rw [block_of_add]; exact h2.1) (by rw [block_of_add]; exact h2.2))).trans h1) (by rw [hal]; omega) (u64c_one _)
      have hnl : new.length = cur.size := by rw [hnew]; simp [length_u64c, HPL.out]; omega
      have htk : new.take (m + nl) = u64c (st.mem ++ (args ++ List.replicate (nl - p) 0)) := by
        rw [hnew, List.append_assoc]; exact splice_take (by rw [Nat.mul_one] at hxs; exact hxs) HM.out.symm HPL.out hpn
      have hO9 := own_setRow HM8.out.own cur hh new hnl htk
      have hk9 : Kr (e1 5) ow8 ow8 wc (wc.setRow q new.toArray) := Kr.setRow hq5 _
      have hR9 : RunAt w0 rb tg fa fo n c rs { st with mem := st.mem ++ (args ++ List.replicate (nl - p) 0) } { g with mv := .slice (some ⟨q, 0, none⟩) (m + nl) c8 } ow8 (wc.setRow q new.toArray) := by
        have e1 : (st.mem ++ (args ++ List.replicate (nl - p) (0 : Int))).length = m + nl := by simp [HPL.out, ← HM.out]; omega
        exact HR8.out.mem_ hk9 (fun x hx => .inr hx) HD.out (HR8.out.run.kr hk9 (ne1 (by omega))) (by rw [e1]; exact ⟨hO9, HM8.out.role⟩)
      have hT9 := HT8.out.kr hk9 (ne1 (by omega))
      obtain ⟨w9, hw9⟩ : ∃ w9, w9 = wc.setRow q new.toArray := ⟨_, rfl⟩
      rw [← hw9] at hcopy hR9 hT9
      have HFIN : Hid (∀ v0 v1 v2 v3 v4 v5, RunX w0 rb tg fa fo n c rs { st with mem := st.mem ++ locals (fns rs) k args } gl g.pbs ((((((w9.setCell ⟨W.heap.size, 0, none⟩ v0).setCell ⟨W.heap.size, 1, none⟩ v1).setCell ⟨W.heap.size, 2, none⟩ v2).setCell ⟨W.heap.size, 3, none⟩ v3).setCell ⟨W.heap.size, 4, none⟩ v4).setCell ⟨W.heap.size, 5, none⟩ v5)) := Lib.hid fun v0 v1 v2 v3 v4 v5 => by
        rw [HFN.out]
        exact ⟨_, _, hR9.lay hT9 v0 v1 v2 v3 v4 v5, HGL.out, rfl⟩
      have HT9 := Lib.hid hT9
      have t0 := HT9.out.blk.cell 0
      have t1 := HT9.out.blk.cell 1
      have t2 := HT9.out.blk.cell 2
      have t3 := HT9.out.blk.cell 3
      have t4 := HT9.out.blk.cell 4
      have t5 := HT9.out.blk.cell 5
      have g0 := HT9.out.blk.frozen 0
      have g1 := HT9.out.blk.frozen 1
      have g2 := HT9.out.blk.frozen 2
      have g3 := HT9.out.blk.frozen 3
      have g4 := HT9.out.blk.frozen 4
      have g5 := HT9.out.blk.frozen 5
      have hcmne : ¬ c8 = m := by omega
      have hsub : ((m + nl : Nat) : Int) - (m : Int) = (nl : Int) := by omega
      have HAA := Lib.hid hAA
      rw [hAA]
      clear hR9 hT9 hk9 hO9 htk hnl hnew hxs hcs hh hw9 hAA hadc hadz HA HAR HK8
      go_wp2
      obtain ⟨W6, hW6⟩ : ∃ W6, W6 = ((((((w9.setCell ⟨W.heap.size, 0, none⟩ (.pointer (some ⟨fa, fo + k * 5, none⟩))).setCell ⟨W.heap.size, 1, none⟩ (.int .i64 0)).setCell ⟨W.heap.size, 2, none⟩ (.int .i64 (m : Nat))).setCell ⟨W.heap.size, 3, none⟩ (.slice none 0 0)).setCell ⟨W.heap.size, 4, none⟩ (.slice none 0 0)).setCell ⟨W.heap.size, 5, none⟩ (.int .u64 0)) := ⟨_, rfl⟩
      obtain ⟨r0, r1, r2, r3, r4, r5⟩ := lay_cells HT9.out.blk rfl _ _ _ _ _ _ W6 hW6
      rw [← hW6]
      exact bodyPost_ret (v := callV fa fo k m) (by simp [results, Try.results15, go_sem, r0, r1, r2, r3, r4, r5, callV]) rfl ⟨rfl, by rw [hW6]; exact HFIN.out _ _ _ _ _ _⟩
end
end Go.Proofs.Ytdoabcmfblmklaa

/-
  Package sem: args: the arguments are taken from the stack.
-/
namespace Go.Proofs.Ytdoabcmfblmklaa
set_option linter.unusedVariables false
set_option linter.unusedSimpArgs false
open Go.ChangeShapes Go.WideShapes Go.ChangeAt Go.RowKit

section
variable {w0 W W' w8 W1 : World} {ow ow' : Nat → Nat} {ex : Nat → Prop} {rb tg fa fo n c : Nat} {rs : List Raw} {st st' : Mc} {g g' : RG} {t : Fr} {bl : List Fr} {gl : List (Nat × Nat)} {pbs : List Nat} {fb b : Nat}
theorem drewN_set (W : World) (p : Addr) (v : Value) (k : Nat) : Below (W.setCell p v).heap.size (W.setCell p v) ((W.drewN k).setCell p v) := ⟨rfl, rfl, rfl, by simp [World.setCell, World.drewN], fun _ _ => rfl⟩
theorem RunA.on {AA : Option Addr} {p : Nat} {args : List Int} (h : RunA w0 rb tg fa fo n c rs st gl pbs AA p args W) (hb : Below W.heap.size W W') : RunA w0 rb tg fa fo n c rs st gl pbs AA p args W' := by
  obtain ⟨g, ow, h1, h2, h3, h4, h5⟩ := h
  exact ⟨g, ow, h1.on hb, h2, h3, (h4.below hb).more hb.size, h5⟩
theorem RunA.runX {AA : Option Addr} {p : Nat} {args : List Int} (h : RunA w0 rb tg fa fo n c rs st gl pbs AA p args W) : RunX w0 rb tg fa fo n c rs st gl pbs W := by
  obtain ⟨g, ow, h1, h2, h3, h4, h5⟩ := h
  exact ⟨g, ow, h1, h2, h3⟩
theorem argsOf_drop {fs : List Fn} {k p : Nat} {s : List Int} (hp : (fnOf fs k).params.toNat = p) (hl : p ≤ s.length) : argsOf fs k s = s.reverse.drop (s.length - p) := by
  unfold argsOf
  rw [hp, List.reverse_take]
def ArgsP (w0 : World) (rb tg fa fo n c : Nat) (rs : List Raw) (st : Mc) (gs : List (Nat × Nat)) (pbs : List Nat) (p : Nat) (args : List Int) (fb : Nat) (W : World) (e : Ending) (w' : World) : Prop :=
  ∃ AA cA, e = .returned (.slice AA p cA) ∧ p ≤ cA ∧ (AA = none → p = 0) ∧ RunA w0 rb tg fa fo n c rs st gs pbs AA p args w' ∧ w'.cell? ⟨fb, 4, none⟩ = W.cell? ⟨fb, 4, none⟩

set_option maxRecDepth 100000 in
set_option maxHeartbeats 3200000 in
theorem args_any (k p : Nat) (r : Raw) (h : RunX w0 rb tg fa fo n c rs st ((fb, b) :: gl) pbs W) (hf : st.frames = t :: bl) (hr : rs[k]? = some r) (hp : r.fn.params = (p : Int)) (hpl : p ≤ t.stack.length) (hs : t.stack.length ≤ 1048576) :
    Calls Try.prog 41 #[.pointer (some ⟨rb, 0, none⟩), .pointer (some ⟨fb, 0, none⟩), .int .i64 k] W (ArgsP w0 rb tg fa fo n c rs (st.top (t.cut p) bl) ((fb, b) :: gl) pbs p (argsOf (fns rs) k t.stack) fb W) := by
  obtain ⟨g, ow, fg, gs, hR, hg, rfl, rfl, hgl, hpb, hF⟩ := h.open_ hf
  have hk : k < n := by rw [← hR.prog.len]; exact (List.getElem?_eq_some_iff.1 hr).1
  obtain ⟨b0, off0, r', hA0, hb0, HX, HRF, HWF, x0, x1, x2, x3, x4⟩ := hR.prog.fn hk
  have hrr : r' = r := by have h := HX.out; rw [hr] at h; injection h with h; exact h.symm
  subst hrr
  obtain ⟨rfl, rfl⟩ : fa = b0 ∧ fo = off0 := by injection hA0 with hA0; injection hA0 with h1 h2; exact ⟨h1, h2⟩
  rw [hp] at x0
  have hbz : w0.heap.size ≤ W.heap.size := hR.below.size
  have hfz : fa < W.heap.size := by omega
  have hrz : rb < W.heap.size := hR.run.blk.lt
  have c0 : W.cell? ⟨rb, 0, none⟩ = some (.slice (some ⟨fa, fo, none⟩) n c) := hR.run.blk.cell 0
  obtain ⟨L, hL⟩ : ∃ L, L = t.stack.length := ⟨_, rfl⟩
  have hLs : L ≤ 1048576 := by rw [hL]; exact hs
  obtain ⟨A, cs, hsv⟩ := hF.stk.slice
  obtain ⟨q, hq⟩ : ∃ q, q = fg.fb := ⟨_, rfl⟩
  have hqz : q < W.heap.size := by rw [hq]; exact hF.blk.blk.lt
  have c3 : W.cell? ⟨q, 3, none⟩ = some (.slice A L cs) := by rw [hq, hF.blk.blk.cell, hL, ← hsv]; exact frC_3
  have f3 : W.frozen? ⟨q, 3, none⟩ = false := by rw [hq]; exact hF.blk.blk.frozen 3
  obtain ⟨a, ha⟩ : ∃ a : Nat, a + p = L := ⟨L - p, by omega⟩
  have hsub : (L : Int) - (p : Int) = (a : Int) := by omega
  have hS := hF.stk
  rw [hsv, ← hL] at hS
  have hcap : L ≤ cs := own_cap hS.own
  have hpar : (fnOf (fns rs) k).params.toNat = p := by rw [fnOf_at hr, hp]; simp
  have harg : u64c (argsOf (fns rs) k t.stack) = (u64c t.stack.reverse).drop (a * 1) := by
    rw [argsOf_drop hpar hpl, u64c_drop, ← hL, Nat.mul_one, show L - p = a by omega]
  have HFIN0 : Hid (RunA w0 rb tg fa fo n c rs (st.top (t.cut p) bl) ((q, fg.by_) :: gl) pbs (if cs = a then A else A.map (·.add (a * 1))) p (argsOf (fns rs) k t.stack) (W.setCell ⟨q, 3, none⟩ (.slice A a cs))) := Lib.hid (by
    obtain ⟨hB8, hO8, hkr⟩ := cut_set (k := a) hF.blk hS (by omega) (by omega) 3
    have hO9 : OR (W.setCell ⟨fg.fb, 3, none⟩ (.slice A a cs)) ow w0.heap.size (3 * bl.length + 12) 30 1 (.slice A a cs) (t.stack.drop p).length (u64c (t.stack.drop p).reverse) := by
      have e1 : (t.stack.drop p).length = a := by rw [List.length_drop]; omega
      have e2 : u64c (t.stack.drop p).reverse = (u64c t.stack.reverse).take (a * 1) := by
        rw [List.reverse_drop, u64c_take, ← hL, Nat.mul_one, show L - p = a by omega]
      rw [e1, e2]; exact hO8
    have hRn := hR.top_ hf hg hkr (fun x hx => by have : x = _ := hx; omega) (hF.stk_ (s := t.stack.drop p) hkr (fun x hx => .inl hx) hB8 hO9) rfl rfl
    rw [hq]
    refine ⟨_, ow, hRn, by simp [hgl], hpb, ?_, fun ad had => ?_⟩
    · rw [harg]
      have h1 := (Reads.of_own hS.own).cut (k := a) (by omega) hcap
      rw [show L - a = p by omega] at h1
      have h2 : Reads (W.setCell ⟨fg.fb, 3, none⟩ (.slice A a cs)) W.heap.size 1 (if cs = a then A else A.map (·.add (a * 1))) p ((u64c t.stack.reverse).drop (a * 1)) := by
        refine ⟨h1.1, fun hp0 => ?_⟩
        obtain ⟨ad, e1, e2, e3⟩ := h1.2 hp0
        refine ⟨ad, e1, e2, fun j u hu => (World.cell?_of_block ?_).trans (e3 j u hu)⟩
        rw [block_of_add]
        have hne : ad.block ≠ fg.fb := by
          have hno := own_blk_ne hS.own hF.blk.blk (by unfold frT; split; · decide
                                                       split; · decide
                                                       split <;> decide)
          intro he
          cases hA : A with
          | none => rw [hA] at e1; split at e1 <;> cases e1
          | some a0 =>
            rw [hA] at e1 hno
            have hb : ad.block = a0.block := by
              split at e1
              · injection e1 with e1; rw [← e1]
              · injection e1 with e1; rw [← e1, block_of_add]
            apply hno
            show some a0.block = some fg.fb
            rw [← hb, he]
        exact Below.heap_setCell _ _ _ _ hne
      exact h2.more (by simp [World.setCell])
    · cases hA : A with
      | none => rw [hA] at had; split at had <;> cases had
      | some a0 =>
        rw [hA] at had
        have hb : ad.block = a0.block := by
          split at had
          · injection had with had; rw [← had]
          · injection had with had; rw [← had, block_of_add]
        have h5 := hS.role a0.block (by rw [hA]; rfl)
        rw [hb, h5]
        omega)
  have HFORM : Hid (A = none → L = 0 ∧ cs = 0) := Lib.hid (fun hA => by
    rcases hS.own.2 with ⟨he, h0⟩ | ⟨q', cap, cur, he, _⟩
    · injection he with _ _ h3; exact ⟨h0, h3⟩
    · injection he with h1; rw [hA] at h1; cases h1)
  have HFORS : Hid (∀ a0, A = some a0 → ∃ q', a0 = ⟨q', 0, none⟩) := Lib.hid (fun a0 hA => by
    rcases hS.own.2 with ⟨he, h0⟩ | ⟨q', cap, cur, he, _⟩
    · injection he with h1; rw [hA] at h1; cases h1
    · injection he with h1; rw [hA] at h1; injection h1 with h1; exact ⟨q', h1⟩)
  rw [← hq]
  clear h hR hF hf hg hgl hpb hsv hS hq hr hp hpl hpar harg HX HRF HWF hA0 hL x1 x2 x3 x4
  have HFIN : Hid (∀ AA, (cs = a ∧ AA = A) ∨ (cs ≠ a ∧ AA = A.map (·.add (a * 1))) → RunA w0 rb tg fa fo n c rs (st.top (t.cut p) bl) ((q, fg.by_) :: gl) pbs AA p (argsOf (fns rs) k t.stack) (W.setCell ⟨q, 3, none⟩ (.slice A a cs))) := Lib.hid (by
    intro AA hAA
    have h1 := HFIN0.out
    rcases hAA with ⟨h2, rfl⟩ | ⟨h2, rfl⟩
    · rw [if_pos h2] at h1; exact h1
    · rw [if_neg h2] at h1; exact h1)
  clear HFIN0
  have hpL : p ≤ L := by omega
  have haL : a ≤ L := by omega
  cases A with
  | none =>
    obtain ⟨h0, h1⟩ := HFORM.out rfl
    have HF := Lib.hid (HFIN.out none (by
      by_cases hca : cs = a
      · exact .inl ⟨hca, rfl⟩
      · exact .inr ⟨hca, rfl⟩))
    obtain rfl : L = 0 := h0
    obtain rfl : cs = 0 := h1
    obtain rfl : a = 0 := by omega
    obtain rfl : p = 0 := by omega
    clear HFIN HFORM HFORS hsub
    go_enter Try.func41, Try.ntmps41
    go_wp2
    go_region
    go_wp2
    go_ret
    refine ⟨none, 0, rfl, Nat.le_refl _, fun _ => rfl, ?_, World.cell?_setCell_other W ⟨q, 3, none⟩ ⟨q, 4, none⟩ _ (by simp)⟩
    exact RunA.on HF.out ⟨rfl, rfl, rfl, Nat.le_refl _, fun _ _ => rfl⟩
  | some a0 =>
    obtain ⟨q', rfl⟩ := HFORS.out a0 rfl
    by_cases hca : cs = a
    · have HF := Lib.hid (HFIN.out _ (.inl ⟨hca, rfl⟩))
      subst hca
      obtain rfl : p = 0 := by omega
      obtain rfl : L = cs := by omega
      clear HFIN HFORM HFORS
      go_enter Try.func41, Try.ntmps41
      go_wp2
      go_region
      go_wp2
      go_ret
      refine ⟨_, _, rfl, Nat.zero_le _, (fun h => by cases h), ?_, World.cell?_setCell_other W ⟨q, 3, none⟩ ⟨q, 4, none⟩ _ (by simp)⟩
      exact RunA.on HF.out ⟨rfl, rfl, rfl, Nat.le_refl _, fun _ _ => rfl⟩
    · have HF := Lib.hid (HFIN.out _ (.inr ⟨hca, rfl⟩))
      have hLa : L - a = p := by omega
      have hpc : p ≤ cs - a := by omega
      have ha0 : (0 : Int) ≤ (a : Int) := by omega
      have haLi : (a : Int) ≤ (L : Int) := by omega
      clear HFIN HFORM HFORS
      go_enter Try.func41, Try.ntmps41
      go_wp2
      go_region
      go_wp2
      go_ret
      refine ⟨some ⟨q', a, none⟩, cs - a, rfl, hpc, (fun h => by cases h), ?_, World.cell?_setCell_other W ⟨q, 3, none⟩ ⟨q, 4, none⟩ _ (by simp)⟩
      have ea : (⟨q', 0, none⟩ : Addr).add (a * 1) = ⟨q', a, none⟩ := by rw [Nat.mul_one]; unfold Addr.add; split <;> simp_all
      have e1 : Option.map (fun x => Addr.add x (a * 1)) (some (⟨q', 0, none⟩ : Addr)) = some ⟨q', a, none⟩ := by rw [Option.map_some, ea]
      rw [← e1]
      exact RunA.on HF.out ⟨rfl, rfl, rfl, Nat.le_refl _, fun _ _ => rfl⟩
end
end Go.Proofs.Ytdoabcmfblmklaa
