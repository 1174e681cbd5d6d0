/-
  A ring of nodes: which are reached by a reading ahead of a writing. Nothing here speaks of the code.
-/
import Derived.Test.YtmfdaeicbaibeaaDoorLFi
namespace Go.Proofs.YtmfdaeicbaibeaaDoor
set_option linter.unusedVariables false
set_option linter.unusedSimpArgs false
open Go.ChangeShapes Go.WideShapes Go.ChangeAt Go.RowKit

def opR (a b i : Nat) : Int := if i = b then 17 else if i = a then 1 else 10
def ringN (k a b i : Nat) : Nd := ⟨opR a b i, 0, 0, 0, 0, 0, 0, 0, 0, [], (((i + 1) % k : Nat) : Int), 0⟩
theorem opR_cases (a b i : Nat) : (i = b ∧ opR a b i = 17) ∨ (i ≠ b ∧ i = a ∧ opR a b i = 1) ∨ (i ≠ b ∧ i ≠ a ∧ opR a b i = 10) := by
  unfold opR
  by_cases h1 : i = b
  · exact .inl ⟨h1, if_pos h1⟩
  · by_cases h2 : i = a
    · exact .inr (.inl ⟨h1, h2, by rw [if_neg h1, if_pos h2]⟩)
    · exact .inr (.inr ⟨h1, h2, by rw [if_neg h1, if_neg h2]⟩)
def ringL (k a b n : Nat) : List Nd := (List.range n).map (ringN k a b)
def ringG (k a b : Nat) : Gr := ⟨[], [0], 0, [], false, -1, ringL k a b k, 0⟩
theorem ringL_at {k a b n i : Nat} (h : i < n) : (ringL k a b n)[i]? = some (ringN k a b i) := by
  unfold ringL
  rw [List.getElem?_map, List.getElem?_range h]
  rfl
theorem ringL_len (k a b n : Nat) : (ringL k a b n).length = n := by simp [ringL]
theorem ringL_succ (k a b n : Nat) : ringL k a b (n + 1) = ringL k a b n ++ [ringN k a b n] := by simp [ringL, List.range_succ]
theorem ring_nexts (k a b i : Nat) : nextsOf (ringN k a b i) = [(((i + 1) % k : Nat) : Int)] := by
  unfold nextsOf ringN
  rcases opR_cases a b i with ⟨_, h⟩ | ⟨_, _, h⟩ | ⟨_, _, h⟩ <;> simp [h]
theorem ring_reads (k a b i : Nat) : readsOf (ringN k a b i) = if i = b then [0] else [] := by
  unfold readsOf readF ringN
  rcases opR_cases a b i with ⟨h1, h⟩ | ⟨h1, _, h⟩ | ⟨h1, _, h⟩
  · rw [if_pos h1]; simp [h, addL, add1]
  · rw [if_neg h1]; simp [h, addL]
  · rw [if_neg h1]; simp [h, addL]
theorem ring_writes (k a b i : Nat) (hab : a ≠ b) : writesOf (ringN k a b i) = if i = a then [0] else [] := by
  unfold writesOf writeF ringN
  rcases opR_cases a b i with ⟨h1, h⟩ | ⟨h1, h2, h⟩ | ⟨h1, h2, h⟩
  · rw [if_neg (show ¬ i = a from fun e => hab (e.symm.trans h1))]; simp [h, addL]
  · rw [if_pos (show i = a from h2)]; simp [h, addL, add1]
  · rw [if_neg (show ¬ i = a from h2)]; simp [h, addL]
theorem ring_valid {k a b : Nat} (hk : 0 < k) (hk2 : k ≤ 4096) : valid [ringG k a b] false := by
  have hl : (ringG k a b).nodes.length = k := ringL_len _ _ _ _
  have hh : headHolds (ringG k a b) false := by
    refine ⟨⟨show ([0] : List Int).length ≤ 1024 by decide, (fun h => by cases h), (fun x hx => .inl (List.mem_singleton.1 hx))⟩, show (0 : Int) ≤ 0 by decide, show (0 : Int) ≤ 64 by decide, ⟨show ([] : List Int).length ≤ 4 by decide, ?_⟩, ⟨rfl, fun i hi => absurd hi (Nat.not_lt_zero i)⟩, .inl rfl, by rw [hl]; exact hk2, ?_⟩
    · rw [if_neg (by decide)]
      intro i hi
      exact absurd hi (Nat.not_lt_zero i)
    · unfold isOne
      rw [hl]
      show (0 : Int) ≤ 0 ∧ (0 : Int) < k
      omega
  refine ⟨⟨Nat.le_refl 1, show 1 ≤ 16 by decide⟩, ⟨rfl, rfl⟩, fun g hg => ?_, fun g hg n hn => ?_⟩
  · obtain rfl : g = ringG k a b := by simpa using hg
    exact hh
  · obtain rfl : g = ringG k a b := by simpa using hg
    obtain ⟨i, hi, rfl⟩ := List.mem_map.1 (show n ∈ (List.range k).map (ringN k a b) from hn)
    refine ⟨?_, fun x hx => ?_⟩
    · have hf : fits [0] false 0 0 := by decide
      have hf' : fits (ringG k a b).kinds false 0 0 := hf
      unfold uses ringN
      rcases opR_cases a b i with ⟨h1, h⟩ | ⟨h1, h2, h⟩ | ⟨h1, h2, h⟩ <;> simp [h, hf']
    · rw [ring_nexts] at hx
      obtain rfl : x = (((i + 1) % k : Nat) : Int) := by simpa using hx
      have : (i + 1) % k < k := Nat.mod_lt _ hk
      unfold isOne
      rw [hl]
      omega
/-- how far it is along the ring -/
def dst (k t i : Nat) : Nat := if i ≤ t then t - i else t + k - i
theorem dst_self (k t : Nat) : dst k t t = 0 := by simp [dst]
theorem dst_pos {k t i : Nat} (hi : i < k) (h : i ≠ t) : 0 < dst k t i := by unfold dst; split <;> omega
theorem nxt_eq {k i : Nat} (hi : i < k) : (i + 1) % k = if i + 1 = k then 0 else i + 1 := by
  split
  · rename_i h
    rw [h, Nat.mod_self]
  · exact Nat.mod_eq_of_lt (by omega)
theorem dst_next {k t i : Nat} (hi : i < k) (ht : t < k) (h : i ≠ t) : dst k t i = dst k t ((i + 1) % k) + 1 := by
  rw [nxt_eq hi]
  by_cases e : i + 1 = k
  · rw [if_pos e]
    unfold dst
    split <;> split <;> omega
  · rw [if_neg e]
    unfold dst
    split <;> split <;> omega
theorem dst_mod {k t i : Nat} (hi : i < k) (ht : t < k) : ((t : Int) - (i : Int) + (k : Int)).tmod (k : Int) = (dst k t i : Int) := by
  rw [Int.tmod_eq_emod_of_nonneg (by omega)]
  unfold dst
  split
  · rename_i h
    rw [Int.add_emod_right, Int.emod_eq_of_lt (by omega) (by omega)]
    omega
  · rename_i h
    rw [Int.emod_eq_of_lt (by omega) (by omega)]
    omega
theorem nat_mod_int {k i : Nat} : ((i : Int) + 1).tmod (k : Int) = (((i + 1) % k : Nat) : Int) := by
  rw [Int.tmod_eq_emod_of_nonneg (by omega), Int.natCast_emod]
  rfl
theorem ring_live {k a b : Nat} (ha : a < k) (hb : b < k) (hab : a ≠ b) : ∀ i, i < k → (Live (ringL k a b k) (0 : Int) i ↔ dst k b i < dst k a i) := by
  have hp : ∀ i, Live (ringL k a b k) (0 : Int) i → i < k ∧ dst k b i < dst k a i := by
    intro i h
    induction h with
    | @here i n h hr =>
      have hi : i < k := by
        have := (List.getElem?_eq_some_iff.1 h).1
        rwa [ringL_len] at this
      rw [ringL_at hi] at h
      injection h with h
      subst h
      rw [ring_reads] at hr
      split at hr
      · rename_i e
        subst e
        rw [dst_self]
        exact ⟨hi, dst_pos hi (fun e => hab e.symm)⟩
      · cases hr
    | @next i j n h hw hj hl ih =>
      have hi : i < k := by
        have := (List.getElem?_eq_some_iff.1 h).1
        rwa [ringL_len] at this
      rw [ringL_at hi] at h
      injection h with h
      subst h
      rw [ring_writes _ _ _ _ hab] at hw
      rw [ring_nexts] at hj
      have hj' : j = (i + 1) % k := by
        have : (j : Int) = (((i + 1) % k : Nat) : Int) := by simpa using hj
        omega
      subst hj'
      have hia : i ≠ a := fun e => hw (by rw [if_pos e]; simp)
      refine ⟨hi, ?_⟩
      rw [dst_next hi ha hia]
      by_cases e : i = b
      · subst e
        rw [dst_self]
        omega
      · rw [dst_next hi hb e]
        omega
  have hm : ∀ d i, i < k → dst k b i = d → d < dst k a i → Live (ringL k a b k) (0 : Int) i := by
    intro d
    induction d with
    | zero =>
      intro i hi h0 _
      have e : i = b := Classical.byContradiction fun e => by have := dst_pos hi e; omega
      exact .here (ringL_at hi) (by rw [ring_reads, if_pos e]; simp)
    | succ d ih =>
      intro i hi h1 h2
      have eb : i ≠ b := fun e => by rw [e, dst_self] at h1; omega
      have ea : i ≠ a := fun e => by rw [e, dst_self] at h2; omega
      have hn : (i + 1) % k < k := Nat.mod_lt _ (by omega)
      have h3 := dst_next hi hb eb
      have h4 := dst_next hi ha ea
      exact .next (j := (i + 1) % k) (ringL_at hi) (by rw [ring_writes _ _ _ _ hab, if_neg ea]; simp) (by rw [ring_nexts]; simp) (ih _ hn (by omega) (by omega))
  intro i hi
  exact ⟨fun h => (hp i h).2, fun h => hm _ i hi rfl h⟩
theorem ring_len {k a b i : Nat} (ha : a < k) (hb : b < k) (hab : a ≠ b) (hi : i < k) : (liveL (ringL k a b k) 1 i).length = if dst k b i < dst k a i then 1 else 0 := by
  by_cases h : dst k b i < dst k a i
  · rw [if_pos h, liveL_one.1 ((ring_live ha hb hab i hi).2 h)]
    rfl
  · rw [if_neg h, liveL_one.2 (fun hl => h ((ring_live ha hb hab i hi).1 hl))]
    rfl
theorem ring_wfn (k a b i : Nat) (hk : k ≤ 4096) (hk0 : 0 < k) : WfN (ringN k a b i) := by
  have h := Nat.mod_lt (i + 1) hk0
  have ho : 0 ≤ opR a b i ∧ opR a b i ≤ 255 := by
    rcases opR_cases a b i with ⟨_, h⟩ | ⟨_, _, h⟩ | ⟨_, _, h⟩ <;> rw [h] <;> decide
  have z : I64 0 := ⟨by decide, by decide⟩
  have hb : (0 : Int) ≤ 0 ∧ (0 : Int) ≤ 255 := by decide
  exact ⟨ho.1, ho.2, hb.1, hb.2, z, z, z, z, z, z, hb.1, show (0 : Int) ≤ 18446744073709551615 by decide, (fun x h => by cases h), ⟨by show (-9223372036854775808 : Int) ≤ (((i + 1) % k : Nat) : Int); omega, by show (((i + 1) % k : Nat) : Int) ≤ 9223372036854775807; omega⟩, z, show ([] : List Int).length * 8 ≤ 140737488351232 by decide⟩
end Go.Proofs.YtmfdaeicbaibeaaDoor
