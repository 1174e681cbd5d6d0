/-
  The document's Words and joined.
-/
import Derived.Test.YtbpobbadmbafaaaDoorTRefV
import Derived.Test.YtbpobbadmbafaaaDoorTDoc
namespace Go.Proofs.YtbpobbadmbafaaaDoor
set_option linter.unusedVariables false
open Go.ChangeShapes Go.WideShapes Go.ChangeAt Go.RowKit

theorem Reads.str {w : World} {B n : Nat} {A : Option Addr} {l : List (List UInt8)} (h : Reads w B 1 A n (strs l)) {k : Nat} (hk : k < n) :
    ∃ b off x, A = some ⟨b, off, none⟩ ∧ b < B ∧ Hid (l[k]? = some x) ∧ w.cell? ⟨b, off + k, none⟩ = some (.string (str x)) := by
  obtain ⟨b, off, rfl, hb, hc⟩ := h.lit (by omega) (by omega)
  have hl : k < l.length := by have := h.1; rw [length_strs] at this; omega
  exact ⟨b, off, l[k], rfl, hb, List.getElem?_eq_getElem hl, hc _ _ (by simp [strs, hl])⟩

def RWordsPost (t : List UInt8) (w : World) (e : Ending) (w' : World) : Prop :=
  ∃ v, e = .returned v ∧ w'.ownsRow w.heap.size 9 1 v (wordsL t).length (strs (wordsL t)) ∧ Below w.heap.size w w'
def neB (x : List UInt8) : Bool := !x.isEmpty
theorem words_filter (t : List UInt8) : wordsL t = (splitB 32 t).filter neB := rfl
theorem filter_snoc {l : List (List UInt8)} {k : Nat} {x : List UInt8} (h : l[k]? = some x) : (l.take (k + 1)).filter neB = (l.take k).filter neB ++ (if neB x then [x] else []) := by
  rw [List.take_add_one, h, List.filter_append]
  congr 1
  cases hx : neB x <;> simp [hx]

set_option maxRecDepth 100000 in
set_option maxHeartbeats 4000000 in
theorem rwords_any (t : List UInt8) (ht : t.length ≤ 1073741824) (w : World) : Calls Tryd.prog 12 #[.string (str t)] w (RWordsPost t w) := by
  obtain ⟨i1, hi1, hy0, hy1, hy2⟩ := info_parts Tryd.info9
  have hsl : (splitB 32 t).length ≤ 1073741825 := by rw [splitB_length]; have := List.count_le_length (a := (32 : UInt8)) (l := t); omega
  have HSP := Lib.hid (rsplit_any 32 t ht w)
  obtain ⟨X, HX⟩ : ∃ X, Hid (X = str t) := ⟨_, rfl⟩
  rw [← HX.out] at HSP ⊢
  have h32 : ((32 : UInt8).toNat : Int) = 32 := rfl
  rw [h32] at HSP
  clear h32
  obtain ⟨ns, HNS⟩ : ∃ n, Hid (n = (splitB 32 t).length) := ⟨_, rfl⟩
  rw [← HNS.out] at hsl
  go_enter Tryd.func12, Tryd.ntmps12
  go_wp2_with (go_at_call 11; refine HSP.out.mono ?_; rintro e w2 ⟨v2, rfl, ho2, hb2⟩; rw [← HNS.out] at ho2; obtain ⟨A2, c2, rfl⟩ := own_slice ho2; refine Hid.out ?_)
  have HR2 := Lib.hid (Reads.of_own ho2)
  have HB2 := Lib.hid hb2
  have hz2 : w.heap.size ≤ w2.heap.size := hb2.size
  clear ho2 hb2
  refine Lib.hid ?_
  go_wp2
  go_loopw [3, 9] (fun o i wr => ∃ (A : Option Addr) (c m k : Nat), o = .slice A m c ∧ m ≤ k ∧ k ≤ ns ∧ i = .int .i64 k ∧ Hid ((((splitB 32 t).take k).filter neB).length = m) ∧ Hid (wr.ownsRow w2.heap.size 9 1 (.slice A m c) m (strs (((splitB 32 t).take k).filter neB))) ∧ Hid (Below w2.heap.size w2 wr)) (fun _ i _ => ns - (intOf i).toNat)
  case atStart => exact ⟨none, 0, 0, 0, rfl, by omega, by omega, rfl, rfl, own_none _ _ _ _, Below.refl _ _⟩
  case round =>
    obtain ⟨A, c, m, k, rfl, hmk, hk, rfl, HM, HO, HW⟩ := hrel
    have hzr : w2.heap.size ≤ wr.heap.size := HW.out.size
    by_cases hlt : k < ns
    · obtain ⟨b2, off2, x, rfl, hbb, HXJ, cx⟩ := (HR2.out.below HW.out).str hlt
      have HFS := Lib.hid (filter_snoc HXJ.out)
      obtain ⟨Z, HZ⟩ : ∃ Z, Hid (Z = str x) := ⟨_, rfl⟩
      rw [← HZ.out] at cx
      by_cases hx : x = []
      · have g : (Z.toList != []) = false := by rw [HZ.out, str_toList, hx]; rfl
        have g2 : (!Z.toList.isEmpty) = false := by rw [HZ.out, str_toList, hx]; rfl
        have g3 : Z.toList.isEmpty = true := by rw [HZ.out, str_toList, hx]; rfl
        have HSm : Hid (((splitB 32 t).take (k + 1)).filter neB = ((splitB 32 t).take k).filter neB) := Lib.hid (by rw [HFS.out, hx]; simp [neB])
        clear hx
        go_wp2
        go_roundw
        case rel => exact ⟨A, c, m, k + 1, rfl, by omega, by omega, by go_num, Lib.hid (by rw [HSm.out]; exact HM.out), Lib.hid (by rw [HSm.out]; exact HO.out), HW⟩
        case measure => simp [intOf]; omega
      · have g : (Z.toList != []) = true := by rw [HZ.out, str_toList]; simpa using hx
        have g2 : (!Z.toList.isEmpty) = true := by rw [HZ.out, str_toList]; cases x with | nil => exact absurd rfl hx | cons y r => rfl
        have g3 : Z.toList.isEmpty = false := by rw [HZ.out, str_toList]; cases x with | nil => exact absurd rfl hx | cons y r => rfl
        have HSm : Hid (((splitB 32 t).take (k + 1)).filter neB = ((splitB 32 t).take k).filter neB ++ [x]) := Lib.hid (by
          rw [HFS.out]
          have : neB x = true := by unfold neB; cases x with | nil => exact absurd rfl hx | cons y r => rfl
          rw [this]; rfl)
        have HRd : Hid (Reads (wr.alloc (.cells #[.string Z] 9)) (wr.heap.size + 1) 1 (some ⟨wr.heap.size, 0, none⟩) 1 [.string Z]) := Lib.hid (str_reads wr _ _)
        have HOne : Hid (∀ u ∈ [Value.string Z], u.oneCell' = true) := Lib.hid (by rw [HZ.out]; exact strs_one _)
        have HO4 := Lib.hid (HO.out.alloc (.cells #[.string Z] 9))
        obtain ⟨L, HL⟩ : ∃ L, Hid (L = strs (((splitB 32 t).take k).filter neB)) := ⟨_, rfl⟩
        rw [← HL.out] at HO4
        clear hx
        go_wp2_with (at_builtin; refine wpList_append_any _ rfl _ _ 46 rfl w2.heap.size 9 i1 (.string (str [])) 1 16 Tryd.underlying46 hi1 hy0 hy1 hy2 rfl (by decide) _ m L rfl HO4.out (wr.heap.size + 1) (some ⟨wr.heap.size, 0, none⟩) 1 1 [.string Z] rfl HRd.out HOne.out (by unfold maxLen; omega) (by omega) (by simp; omega) ?_; intro v5 w5 hown5 hgr5 _; refine Hid.out ?_)
        obtain ⟨Aw5, cw5, rfl⟩ := own_slice hown5
        have HO6 : Hid (w5.ownsRow w2.heap.size 9 1 (.slice Aw5 (m + 1) cw5) (m + 1) (strs (((splitB 32 t).take (k + 1)).filter neB))) := Lib.hid (by rw [HSm.out, strs_append, ← HL.out]; rw [HZ.out] at hown5; exact hown5)
        have HB6 : Hid (Below w2.heap.size w2 w5) := Lib.hid ((HW.out.alloc (by omega) _).grown hgr5 (by simp; omega) (fun i hi => (own_block_le HO4.out hi).1))
        have HM6 : Hid ((((splitB 32 t).take (k + 1)).filter neB).length = m + 1) := Lib.hid (by rw [HSm.out, List.length_append, HM.out]; rfl)
        clear hown5 hgr5
        refine Lib.hid ?_
        go_wp2
        go_roundw
        case rel => exact ⟨Aw5, cw5, m + 1, k + 1, rfl, by omega, by omega, by go_num, HM6, HO6, HB6⟩
        case measure => simp [intOf]; omega
    · obtain rfl : k = ns := by omega
      have HF : Hid (RWordsPost t w (.returned (.slice A m c)) wr) := Lib.hid (by
        have htl : (splitB 32 t).take k = splitB 32 t := List.take_of_length_le (by have := HNS.out; omega)
        have h1 := HO.out
        have h2 := HM.out
        rw [htl, ← words_filter] at h1 h2
        exact ⟨_, rfl, by rw [h2]; exact own_more h1 hz2, HB2.out.trans (HW.out.mono hz2)⟩)
      go_wp2
      go_ret
      exact HF.out

theorem joinS_take (ws : List (List UInt8)) (k : Nat) : (joinS (ws.take k)).length ≤ (joinS ws).length := by
  induction ws generalizing k with
  | nil => simp [joinS]
  | cons w r ih =>
    cases k with
    | zero => simp [joinS]
    | succ k =>
      rw [List.take_succ_cons]
      cases r with
      | nil => simp
      | cons v r =>
        rw [joinS_two, List.length_append, List.length_cons]
        cases k with
        | zero => simp [joinS]
        | succ k =>
          have := ih (k + 1)
          rw [List.take_succ_cons] at this ⊢
          rw [joinS_two, List.length_append, List.length_cons]
          omega
theorem joinS_at {ws : List (List UInt8)} {k : Nat} {x : List UInt8} (h : ws[k]? = some x) : joinS (ws.take (k + 1)) = joinS (ws.take k) ++ ((if k = 0 then [] else [32]) ++ x) := by
  have hk : k < ws.length := (List.getElem?_eq_some_iff.1 h).1
  rw [List.take_add_one, h]
  show joinS (ws.take k ++ [x]) = _
  rw [joinS_snoc, List.length_take, show min k ws.length = k by omega]

set_option maxRecDepth 100000 in
set_option maxHeartbeats 4000000 in
theorem joined_any (B : Nat) (A : Option Addr) (c : Nat) (ws : List (List UInt8)) (w : World) (h : Reads w B 1 A ws.length (strs ws)) (hl : ws.length ≤ 1073741825) (hj : (joinS ws).length ≤ 2147483648) :
    Calls Tryd.prog 23 #[.slice A ws.length c] w fun e w' => e = .returned (.string (str (joinS ws))) ∧ w = w' := by
  obtain ⟨n, HN⟩ : ∃ n, Hid (n = ws.length) := ⟨_, rfl⟩
  rw [← HN.out] at h hl ⊢
  have HR := Lib.hid h
  have HJ := Lib.hid hj
  clear h hj
  go_enter Tryd.func23, Tryd.ntmps23
  go_wp2
  go_loopw [3, 8] (fun s i wr => ∃ k : Nat, k ≤ n ∧ i = .int .i64 k ∧ s = .string (str (joinS (ws.take k))) ∧ Hid (w = wr)) (fun _ i _ => n - (intOf i).toNat)
  case atStart => exact ⟨0, by omega, rfl, rfl, rfl⟩
  case round =>
    obtain ⟨k, hk, rfl, rfl, HW⟩ := hrel
    have hql : (joinS (ws.take k)).length ≤ 2147483648 := by have := joinS_take ws k; have := HJ.out; omega
    obtain ⟨Q, HQ⟩ : ∃ Q, Hid (Q = str (joinS (ws.take k))) := ⟨_, rfl⟩
    have hqs : Q.size ≤ 2147483648 := by rw [HQ.out, str_size]; exact hql
    clear hql
    by_cases hlt : k < n
    · rw [← HQ.out]
      obtain ⟨b2, off2, x, rfl, hbb, HXJ, cx⟩ := (show Reads wr B 1 A n (strs ws) from HW.out ▸ HR.out).str hlt
      have HSN := Lib.hid (joinS_at HXJ.out)
      obtain ⟨Z, HZ⟩ : ∃ Z, Hid (Z = str x) := ⟨_, rfl⟩
      rw [← HZ.out] at cx
      have hzs : Z.size ≤ 2147483648 := by
        rw [HZ.out, str_size]
        have h1 := joinS_take ws (k + 1)
        rw [HSN.out] at h1
        have h2 := HJ.out
        simp only [List.length_append] at h1
        omega
      by_cases hk0 : k = 0
      · have g1 : decide ((0 : Int) < (k : Int)) = false := by simp; omega
        have g2 : decide (0 < k) = false := by simp; omega
        have HF : Hid (Q ++ Z = str (joinS (ws.take (k + 1)))) := Lib.hid (by rw [HSN.out, HQ.out, HZ.out, str_append, if_pos hk0]; rfl)
        clear hk0
        go_wp2
        go_roundw
        case rel => exact ⟨k + 1, by omega, by go_num, by rw [HF.out], HW⟩
        case measure => simp [intOf]; omega
      · have g1 : decide ((0 : Int) < (k : Int)) = true := by simp; omega
        have g2 : decide (0 < k) = true := by simp; omega
        have HF : Hid ((Q ++ ⟨#[32]⟩) ++ Z = str (joinS (ws.take (k + 1)))) := Lib.hid (by
          rw [HSN.out, HQ.out, HZ.out, if_neg hk0]
          show (str _ ++ str [32]) ++ str _ = _
          rw [str_append, str_append, List.append_assoc])
        clear hk0
        go_wp2
        go_roundw
        case rel => exact ⟨k + 1, by omega, by go_num, by rw [HF.out], HW⟩
        case measure => simp [intOf]; omega
    · obtain rfl : k = n := by omega
      have HF : Hid (Q = str (joinS ws)) := Lib.hid (by rw [HQ.out, List.take_of_length_le (by have := HN.out; omega)])
      rw [← HQ.out]
      go_wp2
      go_ret
      exact ⟨by rw [HF.out]; rfl, HW.out⟩
end Go.Proofs.YtbpobbadmbafaaaDoor
