/-
  The statement's own walk: words shuffled in any way stand where they ought to.
-/
import Derived.Test.YtedmcfaghfgpoaaVFst
import Derived.Deep.CutBlock
import Derived.Deep.OwnRows
import Derived.Laws.AppendOwnNone
namespace Go.Proofs.Ytedmcfaghfgpoaa
set_option linter.unusedVariables false
set_option linter.unusedSimpArgs false
open Go.ChangeShapes Go.WideShapes Go.ChangeAt Go.RowKit

theorem info_int : (Try.prog.info? 3).map (fun i => (i.zero, i.size, i.bytes)) = some (some (.int .i64 0), 1, 8) := by kernel_rfl

/-- block g is a row of words, W p at place p -/
def WdI (wr : World) (g n : Nat) (W : Int → Int) : Prop := ∃ cs, Blk wr g 3 cs ∧ ∀ p : Nat, p ≤ n → cs[p]? = some (.int .i64 (W p))
section
variable {wr w' : World} {g n : Nat} {W : Int → Int}
theorem WdI.cell (h : WdI wr g n W) {p : Nat} (hp : p ≤ n) : wr.cell? ⟨g, p, none⟩ = some (.int .i64 (W p)) ∧ wr.frozen? ⟨g, p, none⟩ = false := by
  obtain ⟨cs, hb, hc⟩ := h
  exact ⟨by rw [hb.cell]; exact hc p hp, hb.frozen p⟩
theorem WdI.set (h : WdI wr g n W) {p : Nat} (hp : p ≤ n) (x : Int) : WdI (wr.setCell ⟨g, p, none⟩ (.int .i64 x)) g n (fun q => if q = (p : Int) then x else W q) := by
  obtain ⟨cs, hb, hc⟩ := h
  refine ⟨_, hb.set_ p _, fun q hq => ?_⟩
  rw [Array.getElem?_setIfInBounds]
  by_cases e : p = q
  · subst e
    have : p < cs.size := by
      rcases Nat.lt_or_ge p cs.size with h1 | h1
      · exact h1
      · have := hc p hq; rw [Array.getElem?_eq_none h1] at this; cases this
    rw [if_pos rfl, if_pos this]
    simp
  · rw [if_neg e]
    have e2 : ¬ (q : Int) = (p : Int) := by omega
    simp only [e2, if_false]
    exact hc q hq
theorem WdI.on {B : Nat} (h : WdI wr g n W) (hb : Below B wr w') (hg : g < B) : WdI w' g n W := by
  obtain ⟨cs, h1, h2⟩ := h; exact ⟨cs, h1.below hb hg, h2⟩
theorem WdI.alloc (h : WdI wr g n W) (o : Obj) : WdI (wr.alloc o) g n W := by
  obtain ⟨cs, h1, h2⟩ := h; exact ⟨cs, h1.alloc o, h2⟩
theorem WdI.lt (h : WdI wr g n W) : g < wr.heap.size := by obtain ⟨cs, h1, _⟩ := h; exact h1.lt
theorem WdI.grown {row : Option Nat} (h : WdI wr g n W) (hb : wr.grownBy w' row) (hg : some g ≠ row) : WdI w' g n W := by
  obtain ⟨cs, h1, h2⟩ := h; exact ⟨cs, h1.grown hb hg, h2⟩
theorem WdI.drew (h : WdI wr g n W) : WdI wr.drew g n W := h
theorem WdI.made (w : World) (n : Nat) : WdI (w.alloc (.cells (madeCells #[.int .i64 0] (n + 1)) 3)) w.heap.size n (fun _ => 0) :=
  ⟨_, Blk.new w _ _, fun p hp => by
    unfold madeCells
    rw [Array.getElem?_map, Array.getElem?_range]
    rw [if_pos (by omega)]
    have : p % (#[Value.int .i64 0] : Array Value).size = 0 := Nat.mod_one p
    rw [Option.map_some, this]
    rfl⟩
end

/-- where the i-th word comes from -/
def frI (xs : List Int) (n i : Nat) : Int := (IntKind.u64.wrap (xs.getD i 0)).tmod n
def msI (xs : List Int) (n k : Nat) : List Mv := (List.range k).map fun (i : Nat) => (((i : Nat) : Int), frI xs n i)
theorem msI_len (xs : List Int) (n k : Nat) : (msI xs n k).length = k := by simp [msI]
theorem msI_succ (xs : List Int) (n k : Nat) : msI xs n (k + 1) = msI xs n k ++ [((k : Int), frI xs n k)] := by simp [msI, List.range_succ]
theorem frI_in (xs : List Int) {n : Nat} (hn : 0 < n) (i : Nat) : 0 ≤ frI xs n i ∧ frI xs n i < n := by
  unfold frI
  have h0 : 0 ≤ IntKind.u64.wrap (xs.getD i 0) := by rw [IntKind.wrap_u64]; omega
  rw [Int.tmod_eq_emod_of_nonneg h0]
  exact ⟨Int.emod_nonneg _ (by omega), Int.emod_lt_of_pos _ (by omega)⟩
theorem msI_mem {xs : List Int} {n k : Nat} {p : Mv} : p ∈ msI xs n k ↔ ∃ i, i < k ∧ p = ((i : Int), frI xs n i) := by
  unfold msI
  rw [List.mem_map]
  exact ⟨fun ⟨i, hi, e⟩ => ⟨i, List.mem_range.1 hi, e.symm⟩, fun ⟨i, hi, e⟩ => ⟨i, List.mem_range.2 hi, e.symm⟩⟩
theorem msI_nodup (xs : List Int) (n : Nat) : ∀ k, (keysL (msI xs n k)).Nodup
  | 0 => by simp [msI, keysL]
  | k + 1 => by
    have h := msI_nodup xs n k
    rw [msI_succ]
    unfold keysL at h ⊢
    rw [List.map_append]
    refine List.nodup_append.2 ⟨h, by simp, fun a ha b hb => ?_⟩
    simp at hb
    obtain ⟨f, hf⟩ := mem_keys.1 (show a ∈ keysL (msI xs n k) from ha)
    obtain ⟨i, hi, e⟩ := msI_mem.1 hf
    have e1 := (Prod.mk.inj e).1
    omega
theorem msI_ok (xs : List Int) (n : Nat) (hn : n ≤ 1000) : OkM (msI xs n n) n n := by
  refine ⟨msI_nodup xs n n, fun p hp => ?_, by omega, fun hk => ?_, fun hk => ?_⟩
  · obtain ⟨i, hi, rfl⟩ := msI_mem.1 hp
    have := frI_in xs (show 0 < n by omega) i
    simp only
    omega
  · obtain ⟨f, hf⟩ := mem_keys.1 hk
    obtain ⟨i, hi, e⟩ := msI_mem.1 hf
    have e1 := (Prod.mk.inj e).1
    omega
  · obtain ⟨f, hf⟩ := mem_vals.1 hk
    obtain ⟨i, hi, e⟩ := msI_mem.1 hf
    have e1 := (Prod.mk.inj e).2
    have := frI_in xs (show 0 < n by omega) i
    omega
theorem OkM.wide {ms : List Mv} {B B' s : Int} (h : OkM ms B s) (hB : B ≤ B') : OkM ms B' s :=
  ⟨h.nd, fun p hp => by have := h.bd p hp; omega, by have := h.s0; omega, h.ns, h.nv⟩

/-- the words ahead of the moves -/
def W0 (n k : Nat) : Int → Int := fun p => if 0 ≤ p ∧ p < k then 1000 + p else 0
theorem W0_step (n k : Nat) : (fun q => if q = (k : Int) then 1000 + (k : Int) else W0 n k q) = W0 n (k + 1) := by
  funext q
  unfold W0
  by_cases e : q = (k : Int)
  · rw [if_pos e, if_pos (by omega), e]
  · rw [if_neg e]
    by_cases h : 0 ≤ q ∧ q < k
    · rw [if_pos h, if_pos (by omega)]
    · rw [if_neg h, if_neg (by omega)]
theorem runL_take {W : Int → Int} {ln : List Mv} {i : Nat} (hi : i < ln.length) : runL W (ln.take (i + 1)) = step1 (runL W (ln.take i)) ln[i] := by
  rw [List.take_succ_eq_append_getElem hi, runL_snoc]
theorem shuffled (xs : List Int) {n : Nat} (hn : n ≤ 1000) {i : Nat} (hi : i < n) : runL (W0 n n) (lineM n (msI xs n n)) i = 1000 + frI xs n i := by
  have h := (msI_ok xs n hn).line.1 (W0 n n) ((i : Int), frI xs n i) (msI_mem.2 ⟨i, hi, rfl⟩)
  simp only at h
  rw [h]
  have := frI_in xs (show 0 < n by omega) i
  unfold W0
  rw [if_pos (by omega)]
end Go.Proofs.Ytedmcfaghfgpoaa
