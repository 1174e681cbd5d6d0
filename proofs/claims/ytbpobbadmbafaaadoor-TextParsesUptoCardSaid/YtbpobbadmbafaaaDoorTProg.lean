/-
  A program that is built up in memory: its functions' row, each function's two rows, all of them the call's own, no two functions' code in one block.
-/
import Derived.Test.YtbpobbadmbafaaaDoorTFn
namespace Go.Proofs.YtbpobbadmbafaaaDoor
set_option linter.unusedVariables false
open Go.ChangeShapes Go.WideShapes Go.ChangeAt Go.RowKit

/-- a function's two slices, each a row of the call's own -/
structure OwnF (w : World) (base : Nat) (r : Raw) : Prop where
  locals : w.ownsRow base 53 1 (.slice r.lo r.fn.locals.length r.lc) r.fn.locals.length (u8c r.fn.locals)
  code : w.ownsRow base 40 3 (.slice r.co r.fn.code.length r.cc) r.fn.code.length (insc r.fn.code)
/-- the value of a function's code -/
def codeV (r : Raw) : Value := .slice r.co r.fn.code.length r.cc
structure PO (W : World) (base m : Nat) (A : Option Addr) (n c : Nat) (rs : List Raw) : Prop where
  row : W.ownsRow base 36 5 (.slice A n c) n (rawc rs)
  len : rs.length = n
  each : ∀ r ∈ rs, OwnF W base r
  wf : ∀ r ∈ rs, WfF r.fn
  lim : n ≤ m ∧ ∀ r ∈ rs, r.fn.code.length ≤ m
  sep : ∀ a r, rs = a ++ [r] → ∀ q ∈ a, ∀ g, (codeV q).ownBlock = some g → (codeV r).ownBlock ≠ some g
theorem PO.nil (W : World) (base m : Nat) : PO W base m none 0 0 [] :=
  ⟨own_none _ _ _ _, rfl, (fun r hr => by cases hr), (fun r hr => by cases hr), ⟨by omega, (fun r hr => by cases hr)⟩, (fun a r h => by cases a <;> cases h)⟩
theorem PO.kept {W W' : World} {base m n c : Nat} {A : Option Addr} {rs : List Raw} (h : PO W base m A n c rs) (hk : ∀ i, base ≤ i → i < W.heap.size → W'.heap[i]? = W.heap[i]?) : PO W' base m A n c rs :=
  ⟨own_kept h.row fun i hi => hk i (own_lt h.row hi).1 (own_lt h.row hi).2, h.len, fun r hr => ⟨own_kept (h.each r hr).locals fun i hi => hk i (own_lt (h.each r hr).locals hi).1 (own_lt (h.each r hr).locals hi).2, own_kept (h.each r hr).code fun i hi => hk i (own_lt (h.each r hr).code hi).1 (own_lt (h.each r hr).code hi).2⟩, h.wf, h.lim, h.sep⟩
theorem PO.below {W W' : World} {base m n c : Nat} {A : Option Addr} {rs : List Raw} (h : PO W base m A n c rs) (hb : Below W.heap.size W W') : PO W' base m A n c rs := h.kept fun i _ hi => hb.block i hi
theorem PO.more {W : World} {base m m' n c : Nat} {A : Option Addr} {rs : List Raw} (h : PO W base m A n c rs) (hm : m ≤ m') : PO W base m' A n c rs :=
  ⟨h.row, h.len, h.each, h.wf, ⟨by have := h.lim.1; omega, fun r hr => by have := h.lim.2 r hr; omega⟩, h.sep⟩
theorem reads_more {w : World} {B B' size n : Nat} {A : Option Addr} {xs : List Value} (h : Reads w B size A n xs) (hB : B ≤ B') : Reads w B' size A n xs := h.more hB
theorem PO.rdP {W : World} {base m n c : Nat} {A : Option Addr} {rs : List Raw} (h : PO W base m A n c rs) (hm : m ≤ 8589934592) : RdP W W.heap.size A n rs := by
  have h1 := h.lim.1
  exact ⟨Reads.of_own h.row, h.len, fun r hr => ⟨Reads.of_own (h.each r hr).locals, Reads.of_own (h.each r hr).code⟩, h.wf, by omega⟩
theorem own_apart {w w' : World} {b1 b2 s1 s2 n1 n2 : Nat} {e1 e2 : TypeId} {v1 v2 : Value} {x1 x2 : List Value} (h1 : w.ownsRow b1 e1 s1 v1 n1 x1) (h2 : w.ownsRow b2 e2 s2 v2 n2 x2) (hg : w.grownBy w' v1.ownBlock) (hne : ∀ g, v2.ownBlock = some g → v1.ownBlock ≠ some g) : w'.ownsRow b2 e2 s2 v2 n2 x2 :=
  own_kept h2 fun i hi => hg.block i (own_lt h2 hi).2 fun e => hne i hi e.symm
/-- a new function behind the others -/
theorem PO.push {W w8 : World} {base m n c : Nat} {A : Option Addr} {rs : List Raw} {r : Raw} {v' : Value} (h : PO W base m A n c rs) (hr : OwnF W base r) (hw : WfF r.fn) (hco : r.co = none ∧ r.cc = 0 ∧ r.fn.code = [])
    (hown : w8.ownsRow base 36 5 v' (n + 1) (rawc rs ++ rawOne r)) (hg : W.grownBy w8 (Value.slice A n c).ownBlock) : ∃ A8 c8, v' = .slice A8 (n + 1) c8 ∧ PO w8 base (m + 1) A8 (n + 1) c8 (rs ++ [r]) := by
  obtain ⟨A8, c8, rfl⟩ := own_slice hown
  have hk : ∀ q, OwnF W base q → OwnF w8 base q := fun q hq => ⟨own_grown h.row hq.locals hg (by decide), own_grown h.row hq.code hg (by decide)⟩
  refine ⟨A8, c8, rfl, ⟨?_, by simp [h.len], fun q hq => ?_, fun q hq => ?_, ⟨by have := h.lim.1; omega, fun q hq => ?_⟩, fun a s hs q hq g hg1 hg2 => ?_⟩⟩
  · rw [rawc_append]; simpa [rawc] using hown
  · rcases List.mem_append.1 hq with hq | hq
    · exact hk q (h.each q hq)
    · simp at hq; subst hq; exact hk q hr
  · rcases List.mem_append.1 hq with hq | hq
    · exact h.wf q hq
    · simp at hq; subst hq; exact hw
  · rcases List.mem_append.1 hq with hq | hq
    · have := h.lim.2 q hq; omega
    · simp at hq; subst hq; rw [hco.2.2]; simp
  · obtain ⟨_, hrs⟩ := List.append_inj' hs rfl
    injection hrs with hrs _
    subst hrs
    unfold codeV at hg2
    rw [hco.1] at hg2
    simp [Value.ownBlock] at hg2
/-- the last function with one more instruction -/
def addR (r : Raw) (i : Ins) (co : Option Addr) (cc : Nat) : Raw := { r with fn := { r.fn with code := r.fn.code ++ [i] }, co := co, cc := cc }
theorem rawc_last (a : List Raw) (r : Raw) (i : Ins) (co : Option Addr) (cc : Nat) : (rawc (a ++ [r])).set (a.length * 5 + 4) (.slice co (r.fn.code.length + 1) cc) = rawc (a ++ [addR r i co cc]) := by
  rw [rawc_append, rawc_append, List.set_append]
  have hl := length_rawc a
  rw [if_neg (by omega), hl, show a.length * 5 + 4 - a.length * 5 = 4 by omega]
  simp [rawc, rawOne, addR]
theorem fns_last (a : List Raw) (r : Raw) (i : Ins) (co : Option Addr) (cc : Nat) : fns (a ++ [addR r i co cc]) = addI (fns (a ++ [r])) i := by
  rw [fns_append, fns_append]
  simp only [fns, List.map_cons, List.map_nil]
  rw [addI_snoc]
  rfl
theorem PO.grow {W w8 : World} {base m n c g : Nat} {A : Option Addr} {a : List Raw} {r : Raw} {v' : Value} {i : Ins} (h : PO W base m A n c (a ++ [r])) (hi : WfI i) (hm : m ≤ 4294967296) (hA : A = some ⟨g, 0, none⟩)
    (hown : w8.ownsRow base 40 3 v' (r.fn.code.length + 1) (insc r.fn.code ++ insOne i)) (hg : W.grownBy w8 (codeV r).ownBlock) (hor : v'.ownBlock = (codeV r).ownBlock ∨ v'.ownBlock = some W.heap.size) :
    ∃ co cc, v' = .slice co (r.fn.code.length + 1) cc ∧ PO (w8.setCell ⟨g, a.length * 5 + 4, none⟩ v') base (m + 1) A n c (a ++ [addR r i co cc]) ∧ w8.heap[g]? = W.heap[g]? := by
  obtain ⟨co, cc, rfl⟩ := own_slice hown
  have hrr : r ∈ a ++ [r] := by simp
  have hrow8 : w8.ownsRow base 36 5 (.slice A n c) n (rawc (a ++ [r])) := own_grown (h.each r hrr).code h.row hg (by decide)
  subst hA
  obtain ⟨hst, hgs⟩ := hrow8.stored (a.length * 5 + 4) (.slice co (r.fn.code.length + 1) cc)
  rw [rawc_last a r i co cc] at hst
  have hloc8 : ∀ q ∈ a ++ [r], w8.ownsRow base 53 1 (.slice q.lo q.fn.locals.length q.lc) q.fn.locals.length (u8c q.fn.locals) := fun q hq => own_grown (h.each r hrr).code (h.each q hq).locals hg (by decide)
  have hcode8 : ∀ q ∈ a, w8.ownsRow base 40 3 (.slice q.co q.fn.code.length q.cc) q.fn.code.length (insc q.fn.code) := fun q hq =>
    own_apart (h.each r hrr).code (h.each q (by simp [hq])).code hg fun g' hg' => h.sep a r rfl q hq g' hg'
  have hlen : a.length + 1 = n := by have := h.len; simpa using this
  refine ⟨co, cc, rfl, ⟨hst, by simp; omega, fun q hq => ?_, fun q hq => ?_, ⟨by have := h.lim.1; omega, fun q hq => ?_⟩, fun a' s hs q hq g' hg1 hg2 => ?_⟩, ?_⟩
  · rcases List.mem_append.1 hq with hq | hq
    · exact ⟨own_grown hrow8 (hloc8 q (by simp [hq])) hgs (by decide), own_grown hrow8 (hcode8 q hq) hgs (by decide)⟩
    · simp at hq
      subst hq
      refine ⟨own_grown hrow8 (hloc8 r hrr) hgs (by decide), ?_⟩
      have := own_grown hrow8 hown hgs (by decide)
      show World.ownsRow _ _ _ _ (.slice co (r.fn.code ++ [i]).length cc) (r.fn.code ++ [i]).length (insc (r.fn.code ++ [i]))
      rw [List.length_append]
      simpa [insc] using this
  · rcases List.mem_append.1 hq with hq | hq
    · exact h.wf q (by simp [hq])
    · simp at hq
      subst hq
      have hw := h.wf r hrr
      have hl := h.lim.2 r hrr
      refine ⟨hw.p0, hw.p1, hw.k0, hw.k1, hw.locals, fun j hj => ?_, hw.ll, ?_⟩
      · rcases List.mem_append.1 hj with hj | hj
        · exact hw.code j hj
        · simp at hj; subst hj; exact hi
      · show (r.fn.code ++ [i]).length * 24 ≤ _
        simp; omega
  · rcases List.mem_append.1 hq with hq | hq
    · have := h.lim.2 q (by simp [hq]); omega
    · simp at hq
      subst hq
      have := h.lim.2 r hrr
      show (r.fn.code ++ [i]).length ≤ _
      simp; omega
  · obtain ⟨ha, hrs⟩ := List.append_inj' hs rfl
    injection hrs with hrs _
    subst ha hrs
    have hgl : g' < W.heap.size := (own_lt (h.each q (by simp [hq])).code hg1).2
    have hv : (codeV (addR r i co cc)).ownBlock = (Value.slice co (r.fn.code.length + 1) cc).ownBlock := by unfold codeV addR; cases co <;> simp [Value.ownBlock]
    rw [hv] at hg2
    rcases hor with hor | hor
    · rw [hor] at hg2; exact h.sep a r rfl q hq g' hg1 hg2
    · rw [hor] at hg2; injection hg2 with hg2; omega
  · rcases h.row.2 with ⟨he, _⟩ | ⟨g', cap, cur, he, _, hh, _⟩
    · cases he
    · obtain rfl : g = g' := by injection he with he; injection he with he; injection he
      refine hg.block g (own_lt h.row (g := g) rfl).2 fun e => ?_
      exact own_blk_ne (h.each r hrr).code (g := g) (t := 36) (cs := cur) hh (by decide) e.symm
/-- what lines give is within what may be -/
theorem insL_wf {nm : List UInt8} {ws : List (List UInt8)} {i : Ins} (h : insL nm ws = some i) : WfI i := by
  cases hop : opL nm with
  | none => unfold insL at h; rw [hop] at h; cases h
  | some op =>
    obtain ⟨o1, o2, _⟩ := opL_some hop
    by_cases hg : gOp op = 0
    · rw [insL_zero hop ws hg] at h
      split at h
      · injection h with h; subst h; exact ⟨by (try simp) <;> omega, by (try simp) <;> omega, by (try simp) <;> omega, by (try simp) <;> omega, by (try simp) <;> omega, by (try simp) <;> omega⟩
      · cases h
    · by_cases hl : ws.length = 1
      · obtain ⟨x, rfl⟩ := List.length_eq_one_iff.1 hl
        rw [insL_one hop hg x] at h
        cases hn : numLe (gOp op) x with
        | none => rw [hn] at h; cases h
        | some v =>
          have hv := numLe_some hn
          rw [hn] at h
          simp only [Option.map_some, Option.some.injEq] at h
          by_cases ho : op = 1
          · rw [if_pos ho] at h; subst h; exact ⟨by (try simp) <;> omega, by (try simp) <;> omega, by (try simp) <;> omega, by (try simp) <;> omega, by (try simp) <;> omega, by (try simp) <;> omega⟩
          · have hgl : gOp op ≤ 65535 := by unfold gOp; rw [if_neg ho]; split <;> (try split) <;> omega
            rw [if_neg ho] at h; subst h; exact ⟨by (try simp) <;> omega, by (try simp) <;> omega, by (try simp) <;> omega, by (try simp) <;> omega, by (try simp) <;> omega, by (try simp) <;> omega⟩
      · rw [insL_bad hop ws hg hl] at h; cases h
theorem fnL_wf {ws : List (List UInt8)} {f : Fn} (h : fnL ws = some f) (hl : ∀ x ∈ ws, x.length ≤ 4294967296) : WfF f := by
  by_cases h4 : ws.length = 4
  · match ws, h4 with
    | [a, b, c, d], _ =>
      rw [fnL4] at h
      cases h1 : numLe 255 a with
      | none => rw [h1] at h; cases h
      | some p =>
        cases h2 : localsL b with
        | none => rw [h1, h2] at h; cases h
        | some l =>
          cases h3 : numLe 1 c with
          | none => rw [h1, h2, h3] at h; cases h
          | some r =>
            cases h5 : keepL d with
            | none => rw [h1, h2, h3, h5] at h; cases h
            | some k =>
              rw [h1, h2, h3, h5] at h
              simp only [Option.bind_some, Option.map_some, Option.some.injEq] at h
              subst h
              have hp := (numLe_some h1).2.1
              have hk : -1 ≤ k ∧ k ≤ 254 := by
                unfold keepL at h5
                split at h5
                · injection h5 with h5; omega
                · cases hn : numLe 254 d with
                  | none => rw [hn] at h5; cases h5
                  | some v => rw [hn] at h5; have := (numLe_some hn).2.1; simp at h5; omega
              have hlb := hl b (by simp)
              have hll : l.length ≤ 4294967296 ∧ ∀ x ∈ l, x = 0 ∨ x = 1 := by
                unfold localsL at h2
                split at h2
                · injection h2 with h2; subst h2; exact ⟨by simp, fun x hx => by cases hx⟩
                · exact ⟨by rw [lettersL_length h2]; exact hlb, lettersL_kinds h2⟩
              exact ⟨by (try simp) <;> omega, by (try simp) <;> omega, by (try simp) <;> omega, by (try simp) <;> omega, (fun x hx => by have := hll.2 x hx; omega), (fun i hi => by cases hi), by (try simp) <;> omega, by simp⟩
  · rw [fnL_len h4] at h; cases h
end Go.Proofs.YtbpobbadmbafaaaDoor
