/-
  The document's answer for words: Split.
-/
import Derived.Test.YtjmfbmnhkoeceaaDoorValue
namespace Go.Proofs.YtjmfbmnhkoeceaaDoor
set_option linter.unusedVariables false
open Go.ChangeShapes Go.WideShapes Go.ChangeAt Go.RowKit

theorem Tryd.info9 : (Tryd.prog.info? 9).map (fun i => (i.zero, i.size, i.bytes)) = some (some (.string (str [])), 1, 16) := by kernel_rfl
/-- words as cells -/
def strs (l : List (List UInt8)) : List Value := l.map fun b => .string (str b)
theorem strs_append (a b : List (List UInt8)) : strs (a ++ b) = strs a ++ strs b := by simp [strs]
theorem length_strs (l : List (List UInt8)) : (strs l).length = l.length := by simp [strs]
theorem strs_one (b : List UInt8) : ∀ u ∈ [Value.string (str b)], u.oneCell' = true := by
  intro u hu
  simp only [List.mem_singleton] at hu
  subst hu
  rfl
theorem str_reads (w : World) (t : TypeId) (v : Value) : Reads (w.alloc (.cells #[v] t)) (w.heap.size + 1) 1 (some ⟨w.heap.size, 0, none⟩) 1 [v] :=
  ⟨rfl, fun _ => ⟨_, rfl, Nat.lt_succ_self _, fun j u hu => by
    have ea : (⟨w.heap.size, 0, none⟩ : Addr).add j = ⟨w.heap.size, j, none⟩ := by simp only [Addr.add]; split <;> simp_all
    rw [ea, (Blk.new w _ _).cell]
    simpa using hu⟩⟩
theorem own_nil (w : World) (B : Nat) (t : TypeId) : w.ownsRow B t 1 (.slice none 0 0) ([] : List (List UInt8)).length (strs []) := ⟨rfl, .inl ⟨rfl, rfl⟩⟩

/-- where the cut stands: words read so far, the place of the word that is read -/
def Cuts (t : List UInt8) (acc : List (List UInt8)) (f k : Nat) : Prop :=
  (k ≤ t.length ∧ f ≤ k ∧ wordsOf t = acc ++ wordsOf (t.drop f) ∧ (32 : UInt8) ∉ (t.drop f).take (k - f)) ∨ (k = t.length + 1 ∧ wordsOf t = acc)
theorem cuts_start (t : List UInt8) : Cuts t [] 0 0 := .inl ⟨by omega, by omega, by simp, by simp⟩
theorem cuts_at {t : List UInt8} {acc : List (List UInt8)} {f k : Nat} (h : Cuts t acc f k) (hk : t[k]? = some 32) : Cuts t (acc ++ [(t.drop f).take (k - f)]) (k + 1) (k + 1) := by
  have hlt : k < t.length := (List.getElem?_eq_some_iff.1 hk).1
  rcases h with ⟨_, hf, he, hn⟩ | ⟨h1, _⟩
  · refine .inl ⟨by omega, by omega, ?_, by simp⟩
    have e : t.drop f = (t.drop f).take (k - f) ++ 32 :: t.drop (k + 1) := by
      have h1 : (t.drop f).drop (k - f) = t.drop k := by rw [List.drop_drop]; congr 1; omega
      have h2 : t.drop k = 32 :: t.drop (k + 1) := by
        rw [List.drop_eq_getElem_cons hlt]
        congr 1
        rw [List.getElem?_eq_getElem hlt] at hk
        exact Option.some.inj hk
      rw [← h2, ← h1, List.take_append_drop]
    rw [he]
    conv => lhs; rw [e, wordsOf_cut hn]
    simp
  · omega
theorem cuts_on {t : List UInt8} {acc : List (List UInt8)} {f k : Nat} {b : UInt8} (h : Cuts t acc f k) (hk : t[k]? = some b) (hb : b ≠ 32) : Cuts t acc f (k + 1) := by
  have hlt : k < t.length := (List.getElem?_eq_some_iff.1 hk).1
  rcases h with ⟨_, hf, he, hn⟩ | ⟨h1, _⟩
  · refine .inl ⟨by omega, by omega, he, ?_⟩
    have e : (t.drop f).take (k + 1 - f) = (t.drop f).take (k - f) ++ [b] := by
      rw [show k + 1 - f = (k - f) + 1 by omega]
      refine take_snoc8 ?_
      rw [List.getElem?_drop, show f + (k - f) = k by omega, hk]
    rw [e, List.mem_append]
    rintro (h | h)
    · exact hn h
    · simp at h; exact hb h.symm
  · omega
theorem cuts_end {t : List UInt8} {acc : List (List UInt8)} {f : Nat} (h : Cuts t acc f t.length) : Cuts t (acc ++ [(t.drop f).take (t.length - f)]) (t.length + 1) (t.length + 1) := by
  rcases h with ⟨_, hf, he, hn⟩ | ⟨h1, _⟩
  · refine .inr ⟨rfl, ?_⟩
    have e : (t.drop f).take (t.length - f) = t.drop f := List.take_of_length_le (by rw [List.length_drop]; exact Nat.le_refl _)
    rw [e] at hn ⊢
    rw [he, wordsOf_one hn]
  · omega
theorem cuts_done {t : List UInt8} {acc : List (List UInt8)} {f : Nat} (h : Cuts t acc f (t.length + 1)) : wordsOf t = acc := by
  rcases h with ⟨h1, _⟩ | ⟨_, h⟩
  · omega
  · exact h

def SplitPost (t : List UInt8) (w : World) (e : Ending) (w' : World) : Prop :=
  ∃ v, e = .returned v ∧ w'.ownsRow w.heap.size 9 1 v (wordsOf t).length (strs (wordsOf t)) ∧ Below w.heap.size w w'
theorem split_post {t : List UInt8} {w wr : World} {v : Value} {acc : List (List UInt8)} (h : wr.ownsRow w.heap.size 9 1 v acc.length (strs acc)) (he : wordsOf t = acc) (hb : Below w.heap.size w wr) :
    SplitPost t w (.returned v) wr := ⟨v, rfl, he ▸ h, hb⟩

set_option maxHeartbeats 4000000 in
theorem split_any (t : List UInt8) (ht : t.length ≤ 1073741824) (w : World) : Calls Tryd.prog 35 #[.string (str t), .int .u8 32] w (SplitPost t w) := by
  obtain ⟨i1, hi1, hy0, hy1, hy2⟩ := info_parts Tryd.info9
  have hX : (str t).size ≤ 1073741824 := by rw [str_size]; exact ht
  obtain ⟨X, HX⟩ : ∃ X, Hid (X = str t) := ⟨_, rfl⟩
  have HL : Hid (X.size = t.length) := by show _ = _; rw [HX.out, str_size]
  have HB : Hid (∀ (k : Nat) (h : k < X.size), t[k]? = some X[k]) := by
    intro k h
    have e : t = X.data.toList := by rw [HX.out, str_list]
    have h2 : k < X.data.toList.length := by simpa using h
    rw [e, List.getElem?_eq_getElem h2]
    rfl
  rw [← HX.out] at hX ⊢
  go_enter Tryd.func35, Tryd.ntmps35
  go_wp2
  go_loopw [5, 6, 7] (fun o f i wr => ∃ (A : Option Addr) (c : Nat) (acc : List (List UInt8)) (m a k : Nat), o = .slice A m c ∧ m ≤ k ∧ a ≤ k ∧ k ≤ X.size + 1 ∧ f = .int .i64 a ∧ i = .int .i64 k ∧ Hid (acc.length = m) ∧ Hid (wr.ownsRow w.heap.size 9 1 (.slice A m c) m (strs acc)) ∧ Hid (Cuts t acc a k) ∧ Hid (Below w.heap.size w wr)) (fun _ _ i _ => X.size + 1 - (intOf i).toNat)
  case atStart => exact ⟨none, 0, [], 0, 0, 0, rfl, by omega, by omega, by omega, rfl, rfl, rfl, own_nil _ _ _, cuts_start t, Below.refl _ _⟩
  case round =>
    obtain ⟨A, c, acc, m, a, k, rfl, hmk, hak, hk, rfl, rfl, HM, HO, HC, HW⟩ := hrel
    have hsz := HW.out.size
    by_cases hk1 : k ≤ X.size
    · obtain ⟨S, hs⟩ : ∃ S, X.extract a k = S := ⟨_, rfl⟩
      have HSs : Hid (S = str ((t.drop a).take (k - a))) := by
        show _ = _
        rw [← hs, HX.out, str_extract]
      have HRd : Hid (Reads (wr.alloc (.cells #[.string S] 9)) (wr.heap.size + 1) 1 (some ⟨wr.heap.size, 0, none⟩) 1 [.string S]) := str_reads wr _ _
      have HOne : Hid (∀ u ∈ [Value.string S], u.oneCell' = true) := by rw [HSs.out]; exact strs_one _
      have HO4 := Lib.hid (HO.out.alloc (.cells #[.string S] 9))
      have HG : Hid (∀ (v5 : Value) (w5 : World), w5.ownsRow w.heap.size 9 1 v5 (m + 1) (strs acc ++ [Value.string S]) → w5.ownsRow w.heap.size 9 1 v5 (m + 1) (strs (acc ++ [(t.drop a).take (k - a)]))) := by
        intro v5 w5 h
        rw [strs_append]
        rw [HSs.out] at h
        exact h
      have HLn : Hid ((acc ++ [(t.drop a).take (k - a)]).length = m + 1) := by show _ = _; rw [List.length_append, HM.out]; rfl
      by_cases hlt : k < X.size
      · have hq : ((k : Int) == (X.size : Int)) = false := by simp; omega
        have hq2 : (k == X.size) = false := by simp; omega
        by_cases h32 : X[k] = 32
        · have hq3 : ((X[k].toNat : Int) == 32) = true := by rw [h32]; rfl
          have HCn := Lib.hid (cuts_at HC.out (by rw [HB.out k hlt, h32]))
          clear h32
          go_wp2_with (at_builtin; refine wpList_append_any _ rfl _ _ 42 rfl w.heap.size 9 i1 (.string (str [])) 1 16 Tryd.underlying42 hi1 hy0 hy1 hy2 rfl (by decide) _ m (strs acc) rfl HO4.out (wr.heap.size + 1) (some ⟨wr.heap.size, 0, none⟩) 1 1 [.string S] rfl HRd.out HOne.out (by unfold maxLen; omega) (by omega) (by simp; omega) ?_; intro v5 w5 hown5 hgr5 _; refine Hid.out ?_)
          obtain ⟨Aw5, cw5, rfl⟩ := own_slice hown5
          have HO6 := Lib.hid (HG.out _ _ hown5)
          have HB6 : Hid (Below w.heap.size w w5) := (HW.out.alloc (by omega) _).grown hgr5 (by simp; omega) (fun i hi => (own_block_le HO4.out hi).1)
          clear hown5 hgr5 HG
          refine Lib.hid ?_
          go_wp2
          go_roundw
          case rel => exact ⟨Aw5, cw5, _, m + 1, k + 1, k + 1, rfl, by omega, by omega, by omega, by go_num, by go_num, HLn, HO6, HCn, HB6⟩
          case measure => simp [intOf]; omega
        · have hq3 : ((X[k].toNat : Int) == 32) = false := by
            simp only [beq_eq_false_iff_ne, ne_eq]
            intro e
            exact h32 (UInt8.toNat_inj.1 (by simpa using (by omega : X[k].toNat = 32)))
          have HCn := Lib.hid (cuts_on HC.out (HB.out k hlt) h32)
          clear h32 HG
          go_wp2
          go_roundw
          case rel => exact ⟨A, c, _, m, a, k + 1, rfl, by omega, by omega, by omega, rfl, by go_num, HM, HO, HCn, HW⟩
          case measure => simp [intOf]; omega
      · obtain rfl : k = X.size := by omega
        have HCn : Hid (Cuts t (acc ++ [(t.drop a).take (X.size - a)]) (X.size + 1) (X.size + 1)) := by
          have h := HC.out
          rw [HL.out] at h
          show Cuts _ _ _ _
          rw [HL.out]
          exact cuts_end h
        go_wp2_with (at_builtin; refine wpList_append_any _ rfl _ _ 42 rfl w.heap.size 9 i1 (.string (str [])) 1 16 Tryd.underlying42 hi1 hy0 hy1 hy2 rfl (by decide) _ m (strs acc) rfl HO4.out (wr.heap.size + 1) (some ⟨wr.heap.size, 0, none⟩) 1 1 [.string S] rfl HRd.out HOne.out (by unfold maxLen; omega) (by omega) (by simp; omega) ?_; intro v5 w5 hown5 hgr5 _; refine Hid.out ?_)
        obtain ⟨Aw5, cw5, rfl⟩ := own_slice hown5
        have HO6 := Lib.hid (HG.out _ _ hown5)
        have HB6 : Hid (Below w.heap.size w w5) := (HW.out.alloc (by omega) _).grown hgr5 (by simp; omega) (fun i hi => (own_block_le HO4.out hi).1)
        clear hown5 hgr5 HG
        refine Lib.hid ?_
        go_wp2
        go_roundw
        case rel => exact ⟨Aw5, cw5, _, m + 1, X.size + 1, X.size + 1, rfl, by omega, by omega, by omega, by go_num, by go_num, HLn, HO6, HCn, HB6⟩
        case measure => simp [intOf]
    · have HE : Hid (SplitPost t w (.returned (.slice A m c)) wr) := by
        have h := HC.out
        rw [show k = t.length + 1 by have := HL.out; omega] at h
        obtain rfl := HM.out
        exact split_post HO.out (cuts_done h) HW.out
      go_wp2
      go_ret
      exact HE.out
end Go.Proofs.YtjmfbmnhkoeceaaDoor
