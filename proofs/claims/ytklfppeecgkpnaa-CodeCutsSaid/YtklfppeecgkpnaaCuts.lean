/-
  The walk through CodeCuts.
-/
import Derived.Test.YtklfppeecgkpnaaFirst
import Derived.Deep.DeepAppendWide
namespace Go.Proofs.Ytklfppeecgkpnaa
set_option linter.unusedVariables false
open Go.ChangeShapes Go.WideShapes Go.ChangeAt Go.RowKit

/-- append of bytes, up to the widest bound -/
theorem app_wide {w : World} {ops : Array Oper} {rest : List Oper} {o : Oper} {a : Act} {Q : Exit → Act → World → Prop} (hgd : o.guard = none) (s x : Operand)
    (ho : o.op = .call { callee := .builtin .append, args := #[s, x], argTypes := #[22, 22] }) (base : Nat)
    (v : Value) (n : Nat) (xs : List Value) (hs : a.eval s = v) (hown : w.ownsRow base 5 1 v n xs)
    (B : Nat) (A : Option Addr) (m c : Nat) (news : List Value) (hx : a.eval x = .slice A m c) (hr : Reads w B 1 A m news) (h1 : ∀ u ∈ news, u.oneCell' = true)
    (hbytes : (n + m) + (n + m) / 4 + 192 ≤ 281474976710656) (hbase : base ≤ w.heap.size)
    (h : ∀ v' w', w'.ownsRow base 5 1 v' (n + m) (xs ++ news) → w.grownBy w' v.ownBlock → wpList Try.prog ops Q rest (a.put o.dst v') w') : wpList Try.prog ops Q (o :: rest) a w := by
  obtain ⟨i0, hi, hz0, hz1, hz2⟩ := info_parts Try.info5
  refine wpList_plain hgd fun K hK => ?_
  have hrun : ∃ v' w', (Builtin.append_ #[22, 22] o.type #[v, .slice A m c]).run Try.prog w = .ok v' w' ∧ w'.ownsRow base 5 1 v' (n + m) (xs ++ news) ∧ w.grownBy w' v.ownBlock := by
    rcases A with _ | ad
    · have hm : m = 0 := by
        rcases Nat.eq_zero_or_pos m with h0 | h0
        · exact h0
        · obtain ⟨ad, h, _⟩ := hr.2 h0
          cases h
      subst hm
      have hn : news = [] := List.eq_nil_of_length_eq_zero (by simpa using hr.1)
      subst hn
      exact ⟨v, w, run_append_of_nil w base _ o.type _ i0 1 Try.underlying22 hi v n xs hown c, by simpa using hown, World.grownBy.refl w _⟩
    · have hcells : ∀ j u, news[j]? = some u → w.cell? (ad.add j) = some u := by
        intro j u hu
        rcases Nat.eq_zero_or_pos m with h0 | h0
        · subst h0
          have hn : news = [] := List.eq_nil_of_length_eq_zero (by simpa using hr.1)
          subst hn
          simp at hu
        · obtain ⟨ad', h, _, hc⟩ := hr.2 h0
          injection h with h
          subst h
          exact hc j u hu
      obtain ⟨v', w', h2, h3, h4, _⟩ := run_append_own_wide (P := Try.prog) w base _ o.type 5 i0 (.int .u8 0) 1 1 Try.underlying22 hi hz0 hz1 hz2 rfl (by decide) v n xs hown ad m c news hr.1 hcells h1 (by unfold maxLen; omega) (by rw [Nat.mul_one]; exact hbytes) hbase
      exact ⟨v', w', h2, h3, h4⟩
  obtain ⟨v', w', hrun, h2, h3⟩ := hrun
  unfold Oper.wp execOp
  simp only [ho, resolve, invoke, builtin, Sem.run_bind, Sem.run_pure, Result.andThen_ok, List.map_toArray, List.map_cons, List.map_nil, hs, hx, hrun]
  exact hK _ _ (h v' w' h2 h3)

theorem length_enc_le {fs : List Fn} (h : okP fs = true) : 3 ≤ (enc fs).length ∧ (enc fs).length ≤ 183906003 := by
  obtain ⟨h1, h2, h3⟩ := okP_iff.1 h
  have : ∀ (l : List Fn), (∀ f ∈ l, okF f = true) → (l.flatMap encF).length ≤ l.length * 721200 := by
    intro l hl
    induction l with
    | nil => simp
    | cons f l ih =>
      have h4 := length_encF_le (hl f (by simp))
      have h5 := ih fun g hg => hl g (by simp [hg])
      simp only [List.flatMap_cons, List.length_append, List.length_cons]
      omega
  have h4 := this fs h3
  unfold enc
  simp only [List.length_cons]
  omega
theorem Reads.prefix_ {w : World} {B n k : Nat} {A : Option Addr} {l : List Int} (h : Reads w B 1 A n (u8c l)) (hk : k ≤ n) : Reads w B 1 A k (u8c (l.take k)) := by
  have hl := h.1
  rw [length_u8c] at hl
  refine ⟨by rw [length_u8c, List.length_take]; omega, fun hn => ?_⟩
  obtain ⟨ad, e, hb, hc⟩ := h.2 (by omega)
  refine ⟨ad, e, hb, fun j u hu => hc j u ?_⟩
  have hjk : j < k := by
    have := (List.getElem?_eq_some_iff.1 hu).1
    rw [length_u8c, List.length_take] at this
    omega
  rw [← hu]
  unfold u8c
  rw [List.getElem?_map, List.getElem?_map, List.getElem?_take, if_pos hjk]
theorem decA_form {l : List Int} (h : parse l = none) : decA l = ([], 30) := decA_none h

set_option maxRecDepth 100000 in
set_option maxHeartbeats 16000000 in
theorem cuts_walk (A : Option Addr) (n c : Nat) (rs : List Raw) (x : Int) (Am : Option Addr) (m cm : Nat) (ml : List Int) (w : World) (h : RdP w w.heap.size A n rs)
    (hx0 : -9223372036854775808 ≤ x) (hx1 : x ≤ 9223372036854775807) (hm : Reads w w.heap.size 1 Am m (u8c ml)) (hml : ml.length = m) (hmb : Byt ml) (hmc : m ≤ 140737488351232) :
    Calls Try.prog 7 #[.agg #[.slice A n c], .int .i64 x, .slice Am m cm] w fun e w' => e = .returned (.bool true) ∧ Below w.heap.size w w' := by
  have hsz := h.sz
  have H := Lib.hid h
  have HM := Lib.hid hm
  have HML := Lib.hid hml
  have HMB := Lib.hid hmb
  have HBX := Lib.hid (Blk.new w 26 #[.slice A n c])
  have HB0 : Hid (Below w.heap.size w (w.alloc (.cells #[.slice A n c] 26))) := (Below.refl _ _).alloc (Nat.le_refl _) _
  clear h hm hml hmb
  go_enter Try.func7, Try.ntmps7
  go_wp2_with (go_at_call 9; refine (first_any _).mono ?_; rintro e w1 ⟨rfl, hb1⟩; refine Hid.out ?_)
  have HX1 : Hid (Blk w1 w.heap.size 26 #[.slice A n c]) := HBX.out.below hb1 HBX.out.lt
  have HB1 := Lib.hid (HB0.out.trans (hb1.mono (by simp)))
  have HP1 := Lib.hid (H.out.below HB1.out)
  have x0 : w1.cell? ⟨w.heap.size, 0, none⟩ = some (.slice A n c) := HX1.out.cell 0
  have hz1 : w.heap.size + 1 ≤ w1.heap.size := HX1.out.lt
  clear hb1
  refine Lib.hid ?_
  go_wp2_with (go_at_call 13; refine (encode_any w.heap.size A n c rs _ HP1.out (by omega)).mono ?_; rintro e w2 ⟨A2, k2, c2, rfl, hk2, ho2, hb2⟩; refine Hid.out ?_)
  have HB2 := Lib.hid (HB1.out.trans (hb2.mono (by omega)))
  have HK2 := Lib.hid hk2
  have hz2 : w1.heap.size ≤ w2.heap.size := hb2.size
  clear x0
  cases hok : okP (fns rs) with
  | false =>
    have hq : encA (fns rs) = ([], 30) := by unfold encA; rw [hok]; rfl
    obtain rfl : k2 = 0 := by have := HK2.out; rw [hq] at this; exact this.symm
    rw [hq]
    clear hq hok hk2 ho2 hb2
    refine Lib.hid ?_
    go_wp2
    go_ret
    exact ⟨rfl, HB2.out⟩
  | true =>
    have hq : encA (fns rs) = (enc (fns rs), 0) := by unfold encA; rw [hok]; rfl
    rw [hq] at hk2 ho2
    rw [hq]
    simp only at hk2 ho2
    obtain ⟨hl1, hl2⟩ := length_enc_le hok
    rw [hk2] at hl1 hl2
    have HOK := Lib.hid hok
    obtain ⟨L, HL⟩ : ∃ L, Hid (L = enc (fns rs)) := ⟨_, rfl⟩
    rw [← HL.out] at ho2 hk2
    have HLB : Hid (Byt L) := Lib.hid (by rw [HL.out]; exact byt_enc hok)
    have HLK := Lib.hid hk2
    obtain ⟨g, hA2, hg⟩ : ∃ g, A2 = some ⟨g, 0, none⟩ ∧ k2 ≤ c2 := by
      rcases ho2.2 with ⟨_, h0⟩ | ⟨g, cap, cur, e, _, _, hnc, _⟩
      · omega
      · injection e with e1 e2 e3
        exact ⟨g, e1, by omega⟩
    have hcm : c2 ≤ maxLen := by
      rcases ho2.2 with ⟨_, h0⟩ | ⟨g, cap, cur, e, _, _, hnc, hcm, _⟩
      · omega
      · injection e with e1 e2 e3
        omega
    subst hA2
    obtain ⟨y, hw, hy0⟩ : ∃ y : Int, IntKind.u64.wrap x = y ∧ 0 ≤ y := ⟨_, rfl, by rw [IntKind.wrap_u64]; omega⟩
    obtain ⟨j, hj, hjk⟩ : ∃ j : Nat, y % (k2 : Int) = (j : Int) ∧ j < k2 := by
      have h1 := Int.emod_nonneg y (show (k2 : Int) ≠ 0 by omega)
      have h2 := Int.emod_lt_of_pos y (show (0 : Int) < (k2 : Int) by omega)
      exact ⟨(y % (k2 : Int)).toNat, by omega, by omega⟩
    have HO2 := Lib.hid ho2
    have HR2 : Hid (Reads w2 w2.heap.size 1 (some ⟨g, 0, none⟩) j (u8c (L.take j))) := Lib.hid ((Reads.of_own ho2).prefix_ (by omega))
    have HD1 : Hid (decA (L.take j) = ([], 30)) := Lib.hid (decA_form (by
      rw [HL.out]
      exact parse_cut hok (byt_enc hok) (by rw [← HL.out, HLK.out]; exact hjk)))
    have HTL : Hid ((L.take j).length = j) := Lib.hid (by rw [List.length_take, HLK.out]; omega)
    unfold maxLen at hcm
    clear hq hok hk2 ho2 hb2
    refine Lib.hid ?_
    go_wp2_with (go_at_call 10; refine (decode_any w2.heap.size (some ⟨g, 0, none⟩) j c2 (L.take j) _ HR2.out HTL.out (HLB.out.take j) (Nat.le_refl _) (by omega) (by unfold maxLen; omega) (fun h => by cases h)).mono ?_; rintro e w3 ⟨rs3, k3, A3, c3, hfn3, rfl, hrp3, hb3⟩; refine Hid.out ?_)
    rw [HD1.out]
    clear hj hw hy0
    have hz3 : w2.heap.size ≤ w3.heap.size := hb3.size
    have HB3 : Hid (Below w.heap.size w (w3.alloc (.cells #[.slice A3 k3 c3] 26))) := (HB2.out.trans (hb3.mono (by omega))).alloc (by omega) _
    have HR3 : Hid (Reads ((w3.alloc (.cells #[.slice A3 k3 c3] 26)).alloc (.cells #[] 5)) w2.heap.size 1 (some ⟨g, 0, none⟩) k2 (u8c L)) := (((Reads.of_own HO2.out).below hb3).alloc hz3 _).alloc (by simp; omega) _
    clear hfn3 hrp3 hb3
    have HB3a : Hid (Below w.heap.size w ((w3.alloc (.cells #[.slice A3 k3 c3] 26)).alloc (.cells #[] 5))) := HB3.out.alloc (by simp; omega) _
    have HE3 : Hid (((w3.alloc (.cells #[.slice A3 k3 c3] 26)).alloc (.cells #[] 5)).ownsRow w2.heap.size 5 1 (.slice (some ⟨w3.heap.size + 1, 0, none⟩) 0 0) 0 []) := by
      have := World.ownsRow_made (base := w2.heap.size) (e := 5) (size := 1) (w3.alloc (.cells #[.slice A3 k3 c3] 26)) #[] 0 (by simp; omega) (Nat.zero_le _) (by simp)
      rw [show (w3.alloc (.cells #[.slice A3 k3 c3] 26)).heap.size = w3.heap.size + 1 by simp] at this
      exact this
    have hsb : w2.heap.size ≤ ((w3.alloc (.cells #[.slice A3 k3 c3] 26)).alloc (.cells #[] 5)).heap.size := by simp; omega
    refine Lib.hid ?_
    go_wp2_with (at_builtin; refine app_wide rfl _ _ rfl w2.heap.size (.slice (some ⟨w3.heap.size + 1, 0, none⟩) 0 0) 0 [] rfl HE3.out w2.heap.size (some ⟨g, 0, none⟩) k2 c2 (u8c L) rfl HR3.out (u8c_one L) (by omega) hsb ?_; intro v4 w4 hown4 hgr4; refine Hid.out ?_)
    rw [Nat.zero_add, List.nil_append] at hown4
    obtain ⟨A4, c4, rfl⟩ := own_slice hown4
    have HO4 := Lib.hid hown4
    have HB4 : Hid (Below w.heap.size w w4) := HB3a.out.grown hgr4 (by simp; omega) fun i hi => by
      have := (own_block_le HE3.out hi).1
      omega
    have HM4 := Lib.hid (HM.out.below HB4.out)
    have hs4 : w2.heap.size ≤ w4.heap.size := Nat.le_trans hsb hgr4.size
    clear hown4 hgr4
    refine Lib.hid ?_
    go_wp2_with (at_builtin; refine app_wide rfl _ _ rfl w2.heap.size (.slice A4 k2 c4) k2 (u8c L) rfl HO4.out w.heap.size Am m cm (u8c ml) rfl HM4.out (u8c_one ml) (by omega) hs4 ?_; intro v5 w5 hown5 hgr5; refine Hid.out ?_)
    obtain ⟨A5, c5, rfl⟩ := own_slice hown5
    have HB5 : Hid (Below w.heap.size w w5) := HB4.out.grown hgr5 (by omega) fun i hi => by
      have := (own_block_le HO4.out hi).1
      omega
    have HR5 : Hid (Reads w5 w5.heap.size 1 A5 (k2 + m) (u8c (L ++ ml))) := Lib.hid (by rw [u8c_append]; exact Reads.of_own hown5)
    have hc5 : k2 + m ≤ c5 ∧ c5 ≤ maxLen ∧ (A5 = none → c5 = 0) := by
      rcases hown5.2 with ⟨_, h0⟩ | ⟨g', cap, cur, e, _, _, hnc, hcm, _⟩
      · omega
      · injection e with e1 e2 e3
        subst e1
        exact ⟨by omega, by omega, fun h => by cases h⟩
    obtain ⟨hc5a, hc5b, hc5c⟩ := hc5
    have HN5 := Lib.hid hc5c
    have HL5 : Hid ((L ++ ml).length = k2 + m) := Lib.hid (by rw [List.length_append, HLK.out, HML.out])
    unfold maxLen at hc5b
    clear hown5 hgr5 hc5c
    refine Lib.hid ?_
    go_wp2_with (go_at_call 10; refine (decode_any w5.heap.size A5 (k2 + m) c5 (L ++ ml) _ HR5.out HL5.out (HLB.out.app HMB.out) (Nat.le_refl _) hc5a (by unfold maxLen; omega) HN5.out).mono ?_; rintro e w6 ⟨rs6, k6, A6, c6, hfn6, rfl, hrp6, hb6⟩; refine Hid.out ?_)
    have hz6 : w5.heap.size ≤ w6.heap.size := hb6.size
    have hz5 : w.heap.size ≤ w5.heap.size := HB5.out.size
    have HB6 : Hid (Below w.heap.size w (w6.alloc (.cells #[.slice A6 k6 c6] 26))) := (HB5.out.trans (hb6.mono (by omega))).alloc (by omega) _
    clear hfn6 hrp6 hb6
    cases ml with
    | nil =>
      obtain rfl : m = 0 := HML.out.symm
      have hd : (decA (L ++ [])).2 = 0 ∨ (decA (L ++ [])).2 = 31 := by
        rw [List.append_nil, HL.out, decA_some (parse_enc HOK.out)]
        split
        · exact .inl rfl
        · exact .inr rfl
      rcases hd with hd | hd
      all_goals
        rw [hd]
        clear hd
        refine Lib.hid ?_
        go_wp2
        go_ret
        exact ⟨rfl, HB6.out⟩
    | cons y ml =>
      have hm1 : m = ml.length + 1 := HML.out.symm
      have hd : (decA (L ++ y :: ml)).2 = 30 := by
        rw [HL.out, decA_form (parse_more HOK.out)]
      have hmp : 0 < m := by omega
      rw [hd]
      clear hd hm1
      refine Lib.hid ?_
      go_wp2
      go_ret
      exact ⟨rfl, HB6.out⟩
end Go.Proofs.Ytklfppeecgkpnaa
