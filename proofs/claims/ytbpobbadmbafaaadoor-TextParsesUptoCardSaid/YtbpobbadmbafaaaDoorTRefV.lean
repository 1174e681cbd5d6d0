/-
  The document's Value and Split.
-/
import Derived.Test.YtbpobbadmbafaaaDoorTScan
import Derived.Test.YtbpobbadmbafaaaDoorTNum
import Derived.Test.YtbpobbadmbafaaaDoorTWordsOf
namespace Go.Proofs.YtbpobbadmbafaaaDoor
set_option linter.unusedVariables false
open Go.ChangeShapes Go.WideShapes Go.ChangeAt Go.RowKit

def RValuePost (d : List UInt8) (w : World) (e : Ending) (w' : World) : Prop := e = .returned (.tuple #[.int .u64 ((numOf d).getD 0 : Nat), .bool (numOf d).isSome]) ∧ w = w'
theorem rvalue_none {d : List UInt8} {w : World} (h : numOf d = none) : RValuePost d w (.returned (.tuple #[.int .u64 0, .bool false])) w := by
  unfold RValuePost
  rw [h]
  exact ⟨rfl, rfl⟩
theorem rvalue_some {d : List UInt8} {w : World} {z : Int} {v : Nat} (h : numOf d = some v) (hz : z = (v : Int)) : RValuePost d w (.returned (.tuple #[.int .u64 z, .bool true])) w := by
  unfold RValuePost
  rw [h, hz]
  exact ⟨rfl, rfl⟩

set_option maxHeartbeats 4000000 in
theorem rvalue_any (d : List UInt8) (hd : d.length ≤ 1073741824) (w : World) : Calls Tryd.prog 36 #[.string (str d)] w (RValuePost d w) := by
  have hX : (str d).size ≤ 1073741824 := by rw [str_size]; exact hd
  obtain ⟨X, HX⟩ : ∃ X, Hid (X = str d) := ⟨_, rfl⟩
  have HL : Hid (X.size = d.length) := by show _ = _; rw [HX.out, str_size]
  have HB : Hid (∀ (k : Nat) (h : k < X.size), d[k]? = some X[k]) := by
    intro k h
    have e : d = X.data.toList := by rw [HX.out, str_list]
    have h2 : k < X.data.toList.length := by simpa using h
    rw [e, List.getElem?_eq_getElem h2]
    rfl
  rw [← HX.out] at hX ⊢
  by_cases h0 : X.size = 0
  · have hn : numOf d = none := numOf_none (fun h => h.1 (List.eq_nil_of_length_eq_zero (by have := HL.out; omega)))
    have HN := Lib.hid hn
    clear hn
    go_enter Tryd.func36, Tryd.ntmps36
    go_wp2
    go_ret2
    exact rvalue_none HN.out
  · have hpos : 0 < X.size := by omega
    have hb0 := HB.out 0 hpos
    by_cases hlead : 1 < X.size ∧ X[0] = 48
    · obtain ⟨h1, h2⟩ := hlead
      have hn : numOf d = none := numOf_none (fun h => by
        obtain ⟨_, _, h3⟩ := h
        have hh : d.head? = some 48 := by rw [List.head?_eq_getElem?, hb0, h2]
        rcases h3 with h3 | h3
        · have := HL.out; omega
        · exact h3 hh)
      have HN := Lib.hid hn
      have hq : ((X[0].toNat : Int) == 48) = true := by rw [h2]; rfl
      have h0' : decide ((1 : Int) < (X.size : Int)) = true := by simp; omega
      clear hn h2 hb0
      go_enter Tryd.func36, Tryd.ntmps36
      go_wp2
      go_ret2
      exact rvalue_none HN.out
    · have hg : decide ((1 : Int) < (X.size : Int)) = false ∨ (decide ((1 : Int) < (X.size : Int)) = true ∧ ((X[0].toNat : Int) == 48) = false) := by
        by_cases h1 : 1 < X.size
        · right
          refine ⟨by simp; omega, ?_⟩
          simp only [beq_eq_false_iff_ne, ne_eq]
          intro e
          exact hlead ⟨h1, UInt8.toNat_inj.1 (by simpa using (by omega : X[0].toNat = 48))⟩
        · left; simp; omega
      have HF : Hid (d ≠ [] ∧ (d.length = 1 ∨ d.head? ≠ some 48)) := by
        refine ⟨fun h => h0 (by rw [HL.out, h]; rfl), ?_⟩
        by_cases h1 : 1 < X.size
        · right
          rw [List.head?_eq_getElem?, hb0]
          intro e
          exact hlead ⟨h1, Option.some.inj e⟩
        · left; have := HL.out; omega
      clear hlead hb0
      go_enter Tryd.func36, Tryd.ntmps36
      rcases hg with hg | ⟨hg1, hg2⟩
      all_goals
        go_wp2
        go_loopw [4, 5] (fun n i wr => ∃ (k : Nat) (z : Int), k ≤ X.size ∧ 0 ≤ z ∧ z ≤ 18446744073709551615 ∧ n = .int .u64 z ∧ i = .int .i64 k ∧ Hid (z = (valOf (d.take k) : Int)) ∧ Hid (AllDig (d.take k)) ∧ Hid (w = wr)) (fun _ i _ => X.size - (intOf i).toNat)
        case atStart => exact ⟨0, 0, by omega, by omega, by omega, rfl, rfl, rfl, fun b hb => by simp at hb, rfl⟩
        case round =>
          obtain ⟨k, z, hk, hz0, hz1, rfl, rfl, HZ, HA, HW⟩ := hrel
          by_cases hlt : k < X.size
          · have hsn := take_snoc8 (HB.out k hlt)
            have HV : Hid (∀ y : Nat, X[k].toNat = y → valOf (d.take (k + 1)) = 10 * valOf (d.take k) + (y - 48)) := by
              rintro y rfl
              rw [hsn, valOf_snoc]
            have HNot : Hid (¬ (48 ≤ X[k].toNat ∧ X[k].toNat ≤ 57) → numOf d = none) := fun h => numOf_none (fun h2 => h (h2.2.1 X[k] (by have := List.mem_of_getElem? (HB.out k hlt); exact this)))
            have HA2 : Hid (48 ≤ X[k].toNat ∧ X[k].toNat ≤ 57 → AllDig (d.take (k + 1))) := by
              intro h b hb
              rw [hsn, List.mem_append] at hb
              rcases hb with hb | hb
              · exact HA.out b hb
              · simp at hb; subst hb; exact h
            have HBig : Hid (18446744073709551616 ≤ valOf (d.take (k + 1)) → numOf d = none) := fun h => numOf_big (by
              have := valOf_le (d.take (k + 1)) (d.drop (k + 1))
              rw [List.take_append_drop] at this
              omega)
            clear hsn
            obtain ⟨y, hy⟩ : ∃ y : Nat, X[k].toNat = y := ⟨_, rfl⟩
            have hyb : y ≤ 255 := by have := UInt8.toNat_lt X[k]; omega
            rw [hy] at HV HNot HA2
            have HVy := Lib.hid (HV.out y rfl)
            clear HV
            by_cases hd1 : y < 48
            · have g1 : decide ((y : Int) < 48) = true := by simp; omega
              have HN : Hid (RValuePost d w (.returned (.tuple #[.int .u64 0, .bool false])) wr) := HW.out ▸ rvalue_none (HNot.out (by omega))
              go_wp2
              go_ret2
              exact HN.out
            · have g1 : decide ((y : Int) < 48) = false := by simp; omega
              by_cases hd2 : 57 < y
              · have g2 : decide ((57 : Int) < (y : Int)) = true := by simp; omega
                have HN : Hid (RValuePost d w (.returned (.tuple #[.int .u64 0, .bool false])) wr) := HW.out ▸ rvalue_none (HNot.out (by omega))
                go_wp2
                go_ret2
                exact HN.out
              · have g2 : decide ((57 : Int) < (y : Int)) = false := by simp; omega
                obtain ⟨x, hx⟩ : ∃ x : Int, (y : Int) - 48 = x := ⟨_, rfl⟩
                have hx0 : 0 ≤ x := by omega
                have hx9 : x ≤ 9 := by omega
                have HVx : Hid ((valOf (d.take (k + 1)) : Int) = 10 * z + x) := by show _ = _; rw [HVy.out, HZ.out]; omega
                have HAn := Lib.hid (HA2.out (by omega))
                clear HVy HA2
                by_cases hz2 : 1844674407370955161 < z
                · have g3 : decide ((1844674407370955161 : Int) < z) = true := by simp; omega
                  have HN : Hid (RValuePost d w (.returned (.tuple #[.int .u64 0, .bool false])) wr) := HW.out ▸ rvalue_none (HBig.out (by have := HVx.out; omega))
                  go_wp2
                  go_ret2
                  exact HN.out
                · have g3 : decide ((1844674407370955161 : Int) < z) = false := by simp; omega
                  by_cases hz3 : z = 1844674407370955161
                  · have g4 : (z == 1844674407370955161) = true := by simp; omega
                    by_cases hx5 : 5 < x
                    · have HN : Hid (RValuePost d w (.returned (.tuple #[.int .u64 0, .bool false])) wr) := HW.out ▸ rvalue_none (HBig.out (by have := HVx.out; omega))
                      go_wp2
                      go_ret2
                      exact HN.out
                    · go_wp2
                      go_roundw
                      case rel => exact ⟨k + 1, _, by omega, by omega, by omega, rfl, by go_num, (by show _ = _; have := HVx.out; omega), HAn.out, HW⟩
                      case measure => simp [intOf]; omega
                  · have g4 : (z == 1844674407370955161) = false := by simp; omega
                    go_wp2
                    go_roundw
                    case rel => exact ⟨k + 1, _, by omega, by omega, by omega, rfl, by go_num, (by show _ = _; have := HVx.out; omega), HAn.out, HW⟩
                    case measure => simp [intOf]; omega
          · obtain rfl : k = X.size := by omega
            have HN : Hid (RValuePost d w (.returned (.tuple #[.int .u64 z, .bool true])) wr) := by
              have e : d.take X.size = d := List.take_of_length_le (by have := HL.out; omega)
              have h1 := HZ.out
              have h2 := HA.out
              rw [e] at h1 h2
              exact HW.out ▸ rvalue_some (numOf_canon ⟨HF.out.1, h2, HF.out.2⟩ (by omega)) h1
            go_wp2
            go_ret2
            exact HN.out
theorem strs_one (b : List UInt8) : ∀ u ∈ [Value.string (str b)], u.oneCell' = true := by
  intro u hu
  simp only [List.mem_singleton] at hu
  subst hu
  rfl
theorem str_reads (w : World) (t : TypeId) (v : Value) : Reads (w.alloc (.cells #[v] t)) (w.heap.size + 1) 1 (some ⟨w.heap.size, 0, none⟩) 1 [v] :=
  ⟨rfl, fun _ => ⟨_, rfl, Nat.lt_succ_self _, fun j u hu => by
    have ea : (⟨w.heap.size, 0, none⟩ : Addr).add j = ⟨w.heap.size, j, none⟩ := by simp only [Addr.add]; split <;> simp_all
    rw [ea, (Blk.new w _ _).cell]
    simpa using hu⟩⟩
theorem own_nil (w : World) (B : Nat) (t : TypeId) : w.ownsRow B t 1 (.slice none 0 0) ([] : List (List UInt8)).length (strs []) := ⟨rfl, .inl ⟨rfl, rfl⟩⟩

/-- where the cut stands: words read so far, the place of the word that is read -/
def Cuts (by_ : UInt8) (t : List UInt8) (acc : List (List UInt8)) (f k : Nat) : Prop :=
  (k ≤ t.length ∧ f ≤ k ∧ splitB by_ t = acc ++ splitB by_ (t.drop f) ∧ by_ ∉ (t.drop f).take (k - f)) ∨ (k = t.length + 1 ∧ splitB by_ t = acc)
theorem cuts_start (by_ : UInt8) (t : List UInt8) : Cuts by_ t [] 0 0 := .inl ⟨by omega, by omega, by simp, by simp⟩
theorem cuts_at {by_ : UInt8} {t : List UInt8} {acc : List (List UInt8)} {f k : Nat} (h : Cuts by_ t acc f k) (hk : t[k]? = some by_) : Cuts by_ t (acc ++ [(t.drop f).take (k - f)]) (k + 1) (k + 1) := by
  have hlt : k < t.length := (List.getElem?_eq_some_iff.1 hk).1
  rcases h with ⟨_, hf, he, hn⟩ | ⟨h1, _⟩
  · refine .inl ⟨by omega, by omega, ?_, by simp⟩
    have e : t.drop f = (t.drop f).take (k - f) ++ by_ :: t.drop (k + 1) := by
      have h1 : (t.drop f).drop (k - f) = t.drop k := by rw [List.drop_drop]; congr 1; omega
      have h2 : t.drop k = by_ :: t.drop (k + 1) := by
        rw [List.drop_eq_getElem_cons hlt]
        congr 1
        rw [List.getElem?_eq_getElem hlt] at hk
        exact Option.some.inj hk
      rw [← h2, ← h1, List.take_append_drop]
    rw [he]
    conv => lhs; rw [e, splitB_cut hn]
    simp
  · omega
theorem cuts_on {by_ : UInt8} {t : List UInt8} {acc : List (List UInt8)} {f k : Nat} {b : UInt8} (h : Cuts by_ t acc f k) (hk : t[k]? = some b) (hb : b ≠ by_) : Cuts by_ t acc f (k + 1) := by
  have hlt : k < t.length := (List.getElem?_eq_some_iff.1 hk).1
  rcases h with ⟨_, hf, he, hn⟩ | ⟨h1, _⟩
  · refine .inl ⟨by omega, by omega, he, ?_⟩
    have e : (t.drop f).take (k + 1 - f) = (t.drop f).take (k - f) ++ [b] := by
      rw [show k + 1 - f = (k - f) + 1 by omega]
      refine take_snoc8 ?_
      rw [List.getElem?_drop, show f + (k - f) = k by omega, hk]
    rw [e, List.mem_append]
    rintro (h | h)
    · exact hn h
    · simp at h; exact hb h.symm
  · omega
theorem cuts_end {by_ : UInt8} {t : List UInt8} {acc : List (List UInt8)} {f : Nat} (h : Cuts by_ t acc f t.length) : Cuts by_ t (acc ++ [(t.drop f).take (t.length - f)]) (t.length + 1) (t.length + 1) := by
  rcases h with ⟨_, hf, he, hn⟩ | ⟨h1, _⟩
  · refine .inr ⟨rfl, ?_⟩
    have e : (t.drop f).take (t.length - f) = t.drop f := List.take_of_length_le (by rw [List.length_drop]; exact Nat.le_refl _)
    rw [e] at hn ⊢
    rw [he, splitB_one hn]
  · omega
theorem cuts_done {by_ : UInt8} {t : List UInt8} {acc : List (List UInt8)} {f : Nat} (h : Cuts by_ t acc f (t.length + 1)) : splitB by_ t = acc := by
  rcases h with ⟨h1, _⟩ | ⟨_, h⟩
  · omega
  · exact h

def RSplitPost (by_ : UInt8) (t : List UInt8) (w : World) (e : Ending) (w' : World) : Prop :=
  ∃ v, e = .returned v ∧ w'.ownsRow w.heap.size 9 1 v (splitB by_ t).length (strs (splitB by_ t)) ∧ Below w.heap.size w w'
theorem rsplit_post {by_ : UInt8} {t : List UInt8} {w wr : World} {v : Value} {acc : List (List UInt8)} (h : wr.ownsRow w.heap.size 9 1 v acc.length (strs acc)) (he : splitB by_ t = acc) (hb : Below w.heap.size w wr) :
    RSplitPost by_ t w (.returned v) wr := ⟨v, rfl, he ▸ h, hb⟩

set_option maxHeartbeats 4000000 in
theorem rsplit_any (by_ : UInt8) (t : List UInt8) (ht : t.length ≤ 1073741824) (w : World) : Calls Tryd.prog 11 #[.string (str t), .int .u8 by_.toNat] w (RSplitPost by_ t w) := by
  obtain ⟨i1, hi1, hy0, hy1, hy2⟩ := info_parts Tryd.info9
  have hX : (str t).size ≤ 1073741824 := by rw [str_size]; exact ht
  obtain ⟨X, HX⟩ : ∃ X, Hid (X = str t) := ⟨_, rfl⟩
  have HL : Hid (X.size = t.length) := by show _ = _; rw [HX.out, str_size]
  have HB : Hid (∀ (k : Nat) (h : k < X.size), t[k]? = some X[k]) := by
    intro k h
    have e : t = X.data.toList := by rw [HX.out, str_list]
    have h2 : k < X.data.toList.length := by simpa using h
    rw [e, List.getElem?_eq_getElem h2]
    rfl
  rw [← HX.out] at hX ⊢
  go_enter Tryd.func11, Tryd.ntmps11
  go_wp2
  go_loopw [5, 6, 7] (fun o f i wr => ∃ (A : Option Addr) (c : Nat) (acc : List (List UInt8)) (m a k : Nat), o = .slice A m c ∧ m ≤ k ∧ a ≤ k ∧ k ≤ X.size + 1 ∧ f = .int .i64 a ∧ i = .int .i64 k ∧ Hid (acc.length = m) ∧ Hid (wr.ownsRow w.heap.size 9 1 (.slice A m c) m (strs acc)) ∧ Hid (Cuts by_ t acc a k) ∧ Hid (Below w.heap.size w wr)) (fun _ _ i _ => X.size + 1 - (intOf i).toNat)
  case atStart => exact ⟨none, 0, [], 0, 0, 0, rfl, by omega, by omega, by omega, rfl, rfl, rfl, own_nil _ _ _, cuts_start by_ t, Below.refl _ _⟩
  case round =>
    obtain ⟨A, c, acc, m, a, k, rfl, hmk, hak, hk, rfl, rfl, HM, HO, HC, HW⟩ := hrel
    have hsz := HW.out.size
    by_cases hk1 : k ≤ X.size
    · obtain ⟨S, hs⟩ : ∃ S, X.extract a k = S := ⟨_, rfl⟩
      have HSs : Hid (S = str ((t.drop a).take (k - a))) := by
        show _ = _
        rw [← hs, HX.out, str_extract]
      have HRd : Hid (Reads (wr.alloc (.cells #[.string S] 9)) (wr.heap.size + 1) 1 (some ⟨wr.heap.size, 0, none⟩) 1 [.string S]) := str_reads wr _ _
      have HOne : Hid (∀ u ∈ [Value.string S], u.oneCell' = true) := by rw [HSs.out]; exact strs_one _
      have HO4 := Lib.hid (HO.out.alloc (.cells #[.string S] 9))
      have HG : Hid (∀ (v5 : Value) (w5 : World), w5.ownsRow w.heap.size 9 1 v5 (m + 1) (strs acc ++ [Value.string S]) → w5.ownsRow w.heap.size 9 1 v5 (m + 1) (strs (acc ++ [(t.drop a).take (k - a)]))) := by
        intro v5 w5 h
        rw [strs_append]
        rw [HSs.out] at h
        exact h
      have HLn : Hid ((acc ++ [(t.drop a).take (k - a)]).length = m + 1) := by show _ = _; rw [List.length_append, HM.out]; rfl
      by_cases hlt : k < X.size
      · have hq : ((k : Int) == (X.size : Int)) = false := by simp; omega
        have hq2 : (k == X.size) = false := by simp; omega
        by_cases h32 : X[k] = by_
        · have hq3 : ((X[k].toNat : Int) == (by_.toNat : Int)) = true := by rw [h32]; simp
          have HCn := Lib.hid (cuts_at HC.out (by rw [HB.out k hlt, h32]))
          clear h32
          go_wp2_with (at_builtin; refine wpList_append_any _ rfl _ _ 46 rfl w.heap.size 9 i1 (.string (str [])) 1 16 Tryd.underlying46 hi1 hy0 hy1 hy2 rfl (by decide) _ m (strs acc) rfl HO4.out (wr.heap.size + 1) (some ⟨wr.heap.size, 0, none⟩) 1 1 [.string S] rfl HRd.out HOne.out (by unfold maxLen; omega) (by omega) (by simp; omega) ?_; intro v5 w5 hown5 hgr5 _; refine Hid.out ?_)
          obtain ⟨Aw5, cw5, rfl⟩ := own_slice hown5
          have HO6 := Lib.hid (HG.out _ _ hown5)
          have HB6 : Hid (Below w.heap.size w w5) := (HW.out.alloc (by omega) _).grown hgr5 (by simp; omega) (fun i hi => (own_block_le HO4.out hi).1)
          clear hown5 hgr5 HG
          refine Lib.hid ?_
          go_wp2
          go_roundw
          case rel => exact ⟨Aw5, cw5, _, m + 1, k + 1, k + 1, rfl, by omega, by omega, by omega, by go_num, by go_num, HLn, HO6, HCn, HB6⟩
          case measure => simp [intOf]; omega
        · have hq3 : ((X[k].toNat : Int) == (by_.toNat : Int)) = false := by
            simp only [beq_eq_false_iff_ne, ne_eq]
            intro e
            exact h32 (UInt8.toNat_inj.1 (by omega))
          have HCn := Lib.hid (cuts_on HC.out (HB.out k hlt) h32)
          clear h32 HG
          go_wp2
          go_roundw
          case rel => exact ⟨A, c, _, m, a, k + 1, rfl, by omega, by omega, by omega, rfl, by go_num, HM, HO, HCn, HW⟩
          case measure => simp [intOf]; omega
      · obtain rfl : k = X.size := by omega
        have HCn : Hid (Cuts by_ t (acc ++ [(t.drop a).take (X.size - a)]) (X.size + 1) (X.size + 1)) := by
          have h := HC.out
          rw [HL.out] at h
          show Cuts _ _ _ _ _
          rw [HL.out]
          exact cuts_end h
        go_wp2_with (at_builtin; refine wpList_append_any _ rfl _ _ 46 rfl w.heap.size 9 i1 (.string (str [])) 1 16 Tryd.underlying46 hi1 hy0 hy1 hy2 rfl (by decide) _ m (strs acc) rfl HO4.out (wr.heap.size + 1) (some ⟨wr.heap.size, 0, none⟩) 1 1 [.string S] rfl HRd.out HOne.out (by unfold maxLen; omega) (by omega) (by simp; omega) ?_; intro v5 w5 hown5 hgr5 _; refine Hid.out ?_)
        obtain ⟨Aw5, cw5, rfl⟩ := own_slice hown5
        have HO6 := Lib.hid (HG.out _ _ hown5)
        have HB6 : Hid (Below w.heap.size w w5) := (HW.out.alloc (by omega) _).grown hgr5 (by simp; omega) (fun i hi => (own_block_le HO4.out hi).1)
        clear hown5 hgr5 HG
        refine Lib.hid ?_
        go_wp2
        go_roundw
        case rel => exact ⟨Aw5, cw5, _, m + 1, X.size + 1, X.size + 1, rfl, by omega, by omega, by omega, by go_num, by go_num, HLn, HO6, HCn, HB6⟩
        case measure => simp [intOf]
    · have HE : Hid (RSplitPost by_ t w (.returned (.slice A m c)) wr) := by
        have h := HC.out
        rw [show k = t.length + 1 by have := HL.out; omega] at h
        obtain rfl := HM.out
        exact rsplit_post HO.out (cuts_done h) HW.out
      go_wp2
      go_ret
      exact HE.out
end Go.Proofs.YtbpobbadmbafaaaDoor
