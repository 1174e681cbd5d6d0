/-
  Plain facts: what Go's decoder says of the first rune of a text, as far as words at blanks want it; where the search for words stands.
-/
import Derived.Test.YtbpobbadmbafaaaDoorTNum
import Derived.Shelf.Unicode.DecodeSlow
namespace Go.Proofs.YtbpobbadmbafaaaDoor
set_option linter.unusedVariables false

theorem str_get (l : List UInt8) (i : Nat) (h : i < l.length) : (str l).get! i = l[i] := by
  rw [Utf8W.get!_of_lt _ _ (by rw [str_size]; exact h)]
  rfl
theorem decodeN_facts (n b0 b1 b2 b3 : Nat) (hn : 1 ≤ n) : (b0 < 128 → Lib.decodeN n b0 b1 b2 b3 = (b0, 1)) ∧ (128 ≤ b0 → 128 ≤ (Lib.decodeN n b0 b1 b2 b3).1) ∧ 1 ≤ (Lib.decodeN n b0 b1 b2 b3).2 ∧ (Lib.decodeN n b0 b1 b2 b3).2 ≤ n ∧ (Lib.decodeN n b0 b1 b2 b3).2 ≤ 4 ∧
    (2 ≤ (Lib.decodeN n b0 b1 b2 b3).2 → 128 ≤ b1) ∧ (3 ≤ (Lib.decodeN n b0 b1 b2 b3).2 → 128 ≤ b2) ∧ (4 ≤ (Lib.decodeN n b0 b1 b2 b3).2 → 128 ≤ b3) ∧ (Lib.decodeN n b0 b1 b2 b3).1 ≤ 1114111 := by
  unfold Lib.decodeN
  repeat' split
  all_goals simp only
  all_goals (refine ⟨?_, ?_, ?_, ?_, ?_, ?_, ?_, ?_, ?_⟩ <;> first | omega | trivial | (intro h; first | trivial | rfl | omega))
/-- the first rune of a text -/
theorem decode_facts (l : List UInt8) (x : UInt8) (r : List UInt8) (hl : l = x :: r) : ∃ (u k : Nat), Lib.decodeGo (str l) = (u, k) ∧ 1 ≤ k ∧ k ≤ l.length ∧ u ≤ 1114111 ∧ (x = 32 → u = 32 ∧ k = 1) ∧ (x ≠ 32 → u ≠ 32 ∧ (32 : UInt8) ∉ l.take k) := by
  have hs : (str l).size ≠ 0 := by rw [str_size, hl]; simp
  have hx : (str l).get! 0 = x := by rw [str_get l 0 (by rw [hl]; simp)]; subst hl; rfl
  have e : Lib.decodeGo (str l) = Lib.decodeN ((str l).size - 0) ((str l).get! 0).toNat ((str l).get! (0 + 1)).toNat ((str l).get! (0 + 2)).toNat ((str l).get! (0 + 3)).toNat := by
    have : Lib.decodeGo (str l) = Utf8.decode (str l) 0 := by unfold Lib.decodeGo; rw [if_neg hs]
    rw [this, Lib.decode_at]
  obtain ⟨f1, f2, f3, f4, f5, f6, f7, f8, f9⟩ := decodeN_facts ((str l).size - 0) ((str l).get! 0).toNat ((str l).get! (0 + 1)).toNat ((str l).get! (0 + 2)).toNat ((str l).get! (0 + 3)).toNat (by omega)
  rw [← e] at f1 f2 f3 f4 f5 f6 f7 f8 f9
  rw [hx] at f1 f2
  simp only [Nat.sub_zero, str_size] at f4
  refine ⟨(Lib.decodeGo (str l)).1, (Lib.decodeGo (str l)).2, rfl, f3, f4, f9, ?_, ?_⟩
  · rintro rfl
    have := f1 (by decide)
    rw [this]
    exact ⟨rfl, rfl⟩
  · intro hne
    have hx32 : x.toNat ≠ 32 := fun h => hne (UInt8.toNat_inj.1 (by simpa using h))
    refine ⟨?_, ?_⟩
    · by_cases h : x.toNat < 128
      · rw [f1 h]; exact hx32
      · have := f2 (by omega); omega
    · intro hm
      obtain ⟨j, hj, hv⟩ := List.getElem_of_mem hm
      rw [List.length_take] at hj
      rw [List.getElem_take] at hv
      have hg : ∀ i (h : i < l.length), 128 ≤ ((str l).get! i).toNat → l[i] ≠ 32 := fun i h h2 h3 => by
        rw [str_get l i h, h3] at h2
        exact absurd h2 (by decide)
      have hjl : j < l.length := by omega
      obtain h0 | h1 | h2 | h3 : j = 0 ∨ j = 1 ∨ j = 2 ∨ j = 3 := by omega
      · subst h0
        rw [← str_get l 0 hjl, hx] at hv
        exact hne hv
      · subst h1; exact hg 1 hjl (f6 (by omega)) hv
      · subst h2; exact hg 2 hjl (f7 (by omega)) hv
      · subst h3; exact hg 3 hjl (f8 (by omega)) hv

/-- where the search for words stands: the words so far, where the word at hand began (-1: there is none), the place -/
def FF (l : List UInt8) (pre : List (List UInt8)) (s : Int) (i : Nat) : Prop :=
  i ≤ l.length ∧ ((s = -1 ∧ wordsL l = pre ++ wordsL (l.drop i)) ∨ ∃ a : Nat, s = (a : Int) ∧ a < i ∧ (32 : UInt8) ∉ (l.drop a).take (i - a) ∧ wordsL l = pre ++ wordsL (l.drop a))
theorem ff_start (l : List UInt8) : FF l [] (-1) 0 := ⟨by omega, .inl ⟨rfl, by simp⟩⟩
theorem drop_at {l : List UInt8} {i : Nat} {x : UInt8} (h : l[i]? = some x) : l.drop i = x :: l.drop (i + 1) := by
  obtain ⟨hl, hx⟩ := List.getElem?_eq_some_iff.1 h
  rw [List.drop_eq_getElem_cons hl, hx]
theorem ff_blank0 {l : List UInt8} {pre : List (List UInt8)} {i : Nat} (h : FF l pre (-1) i) (hi : l[i]? = some 32) : FF l pre (-1) (i + 1) := by
  have hl := (List.getElem?_eq_some_iff.1 hi).1
  refine ⟨by omega, .inl ⟨rfl, ?_⟩⟩
  rcases h.2 with ⟨_, h⟩ | ⟨a, ha, _⟩
  · rw [h, drop_at hi, wordsL_blank]
  · omega
theorem drop_split (l : List UInt8) (a i : Nat) (h : a ≤ i) : l.drop a = (l.drop a).take (i - a) ++ l.drop i := by
  have h2 : (l.drop a).drop (i - a) = l.drop i := by rw [List.drop_drop]; congr 1; omega
  rw [← h2, List.take_append_drop]
theorem ff_blank {l : List UInt8} {pre : List (List UInt8)} {a i : Nat} (h : FF l pre (a : Int) i) (hi : l[i]? = some 32) :
    wordsL l = pre ++ (l.drop a).take (i - a) :: wordsL (l.drop (i + 1)) ∧ FF l (pre ++ [(l.drop a).take (i - a)]) (-1) (i + 1) := by
  have hl := (List.getElem?_eq_some_iff.1 hi).1
  rcases h.2 with ⟨h, _⟩ | ⟨b, hb, hbi, hn, he⟩
  · omega
  · obtain rfl : b = a := by omega
    have hne : (l.drop b).take (i - b) ≠ [] := by
      intro e
      have := congrArg List.length e
      simp at this
      omega
    have e : wordsL l = pre ++ (l.drop b).take (i - b) :: wordsL (l.drop (i + 1)) := by
      rw [he]
      conv => lhs; rw [drop_split l b i (by omega), drop_at hi, wordsL_cons hn hne]
    exact ⟨e, by omega, .inl ⟨rfl, by rw [e]; simp⟩⟩
theorem ff_on0 {l : List UInt8} {pre : List (List UInt8)} {i k : Nat} (h : FF l pre (-1) i) (hk : 1 ≤ k) (hl : i + k ≤ l.length) (hn : (32 : UInt8) ∉ (l.drop i).take k) : FF l pre (i : Int) (i + k) := by
  refine ⟨hl, .inr ⟨i, rfl, by omega, by rw [show i + k - i = k by omega]; exact hn, ?_⟩⟩
  rcases h.2 with ⟨_, h⟩ | ⟨a, ha, _⟩
  · exact h
  · omega
theorem ff_on {l : List UInt8} {pre : List (List UInt8)} {a i k : Nat} (h : FF l pre (a : Int) i) (hl : i + k ≤ l.length) (hn : (32 : UInt8) ∉ (l.drop i).take k) : FF l pre (a : Int) (i + k) := by
  rcases h.2 with ⟨h, _⟩ | ⟨b, hb, hbi, hm, he⟩
  · omega
  · obtain rfl : b = a := by omega
    refine ⟨hl, .inr ⟨b, rfl, by omega, ?_, he⟩⟩
    rw [show i + k - b = (i - b) + k by omega, List.take_add, List.drop_drop, show b + (i - b) = i by omega]
    simp only [List.mem_append, not_or]
    exact ⟨hm, hn⟩
theorem ff_end0 {l : List UInt8} {pre : List (List UInt8)} (h : FF l pre (-1) l.length) : wordsL l = pre := by
  rcases h.2 with ⟨_, h⟩ | ⟨a, ha, _⟩
  · rw [h, List.drop_length, wordsL_nil, List.append_nil]
  · omega
theorem ff_end {l : List UInt8} {pre : List (List UInt8)} {a : Nat} (h : FF l pre (a : Int) l.length) : wordsL l = pre ++ [l.drop a] := by
  rcases h.2 with ⟨h, _⟩ | ⟨b, hb, hbi, hm, he⟩
  · omega
  · obtain rfl : b = a := by omega
    have e : (l.drop b).take (l.length - b) = l.drop b := List.take_of_length_le (by rw [List.length_drop]; exact Nat.le_refl _)
    rw [e] at hm
    rw [he, wordsL_one hm]
    intro e
    have := congrArg List.length e
    simp at this
    omega
end Go.Proofs.YtbpobbadmbafaaaDoor
