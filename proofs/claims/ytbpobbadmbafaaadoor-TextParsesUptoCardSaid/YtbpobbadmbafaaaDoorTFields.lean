/-
  strings.FieldsFuncSeq's iterator over isBlank: it gives the words of a line.
-/
import Derived.Test.YtbpobbadmbafaaaDoorTWords
namespace Go.Proofs.YtbpobbadmbafaaaDoor
set_option linter.unusedVariables false
open Go.ChangeShapes Go.WideShapes Go.ChangeAt Go.RowKit
attribute [local go_sem] Oper.semAt_some

/-- what a round keeps: what lay below n0, and the iterator's boxes -/
def Kept (n0 lo hi : Nat) (X Y : World) : Prop := Below n0 X Y ∧ KeepC lo hi X Y
theorem Kept.trans {n0 lo hi : Nat} {X Y Z : World} (h : Kept n0 lo hi X Y) (k : Kept n0 lo hi Y Z) : Kept n0 lo hi X Z := ⟨h.1.trans k.1, h.2.trans k.2⟩
theorem Kept.put {n0 lo hi B : Nat} (hB : n0 ≤ B) (X : World) (l : Nat) (o o' : Obj) (hl0 : B ≤ l) (hl : X.heap[l]? = some o) (ho : o.isCells = false) : Kept n0 lo hi X (X.putObj l o') :=
  ⟨(Below.refl n0 X).grown (grownBy_putObj' X l o') (by have := (Array.getElem?_eq_some_iff.1 hl).1; omega) (fun k e => by cases e; omega), KeepC.put X l o o' hl ho⟩
theorem boxed_on {W W' : World} {B : Nat} {t : TypeId} {v : Value} (h : Boxed W B t v) (hb : Below W.heap.size W W') : Boxed W' B t v := (hb.block B h.lt).trans h

set_option maxRecDepth 100000 in
set_option maxHeartbeats 4000000 in
theorem fields_gives (m : Nat) (hm : 1 ≤ m) (t : List UInt8) (ht : t.length ≤ 4294967296) (Bs Bf B n0 lo hi : Nat) (h1 : lo ≤ Bs) (h2 : Bs < hi) (h3 : lo ≤ Bf) (h4 : Bf < hi) (W : World)
    (hs : Boxed W Bs 9 (.string (str t))) (hf : Boxed W Bf 59 (.func (.func 20) #[] #[])) (hE : Env n0 W) (hn0 : n0 ≤ W.heap.size) :
    Gives Fence.wide m Tryd.prog 35 #[.pointer (some ⟨Bs, 0, none⟩), .pointer (some ⟨Bf, 0, none⟩)] (fun x : List UInt8 => Value.string (str x)) B (Kept n0 lo hi) (wordsL t) W := by
  intro lp J Jx hJ hJx hY h0
  have hX : (str t).size ≤ 4294967296 := by rw [str_size]; exact ht
  obtain ⟨X, HX⟩ : ∃ X, Hid (X = str t) := ⟨_, rfl⟩
  have HL : Hid (X.size = t.length) := by show _ = _; rw [HX.out, str_size]
  have HS := Lib.hid hs
  have HF := Lib.hid hf
  have HE := Lib.hid hE
  have HYY := Lib.hid hY
  have HJ := Lib.hid hJ
  have HJX := Lib.hid hJx
  have H0 := Lib.hid h0
  have HN := Lib.hid hn0
  rw [← HX.out] at hX HS
  clear hs hf hE hY hJ hJx h0 ht hn0
  refine callsIn_of_wp Tryd.func35 rfl trivial ?_ rfl
  simp only [Tryd.ntmps35, List.size_toArray, List.length_cons, List.length_nil, Nat.reduceAdd, Nat.reduceSub, Array.replicate_succ, Array.replicate_zero, List.push_toArray, List.append_toArray, List.nil_append, List.cons_append]
  gi_wp2
  gi_loopw [4, 5] (fun s i wr => ∃ (st : Int) (k : Nat) (pre : List (List UInt8)), s = .int .i64 st ∧ i = .int .i64 k ∧ -1 ≤ st ∧ st ≤ k ∧ k ≤ X.size ∧ Hid (FF t pre st k) ∧ Hid (J pre wr) ∧ Hid (Boxed wr Bs 9 (.string X)) ∧ Hid (Boxed wr Bf 59 (.func (.func 20) #[] #[])) ∧ Hid (Env n0 wr) ∧ Hid (n0 ≤ wr.heap.size)) (fun _ i _ => X.size - (intOf i).toNat)
  case atStart => exact ⟨-1, 0, [], rfl, rfl, by omega, by omega, by omega, ff_start t, H0, HS, HF, HE, HN⟩
  case round =>
    clear H0 HS HF HE HN
    obtain ⟨st, k, pre, rfl, rfl, hst0, hst1, hk, HFF, HJ0, HS, HF, HE, HN⟩ := hrel
    have cs : wr.cell? ⟨Bs, 0, none⟩ = some (.string X) := HS.out.cell
    have cf : wr.cell? ⟨Bf, 0, none⟩ = some (.func (.func 20) #[] #[]) := HF.out.cell
    obtain rfl | ⟨a, rfl⟩ : st = -1 ∨ ∃ a : Nat, st = (a : Int) := by
      by_cases h : st = -1
      · exact .inl h
      · exact .inr ⟨st.toNat, by omega⟩
    · by_cases hlt : k < X.size
      · obtain ⟨x, hx⟩ : ∃ x, t[k]? = some x := ⟨_, List.getElem?_eq_getElem (by have := HL.out; omega)⟩
        obtain ⟨S, hsS⟩ : ∃ S, X.extract k X.size = S := ⟨_, rfl⟩
        have HSS : Hid (S = str (t.drop k)) := by
          show _ = _
          rw [← hsS, HX.out, str_extract, str_size, List.take_of_length_le (by rw [List.length_drop]; exact Nat.le_refl _)]
        have hr := rune_any (t.drop k) x _ (drop_at hx) wr HE.out.here
        rw [← HSS.out] at hr
        have HR := Lib.hid hr
        have HXX := Lib.hid hx
        clear hr hx
        gi_wp2_with (refine ⟨trivial, ?_⟩; gi_at_call 27; refine (callsIn_wide.2 HR.out).mono ?_; rintro e w2 ⟨u, kk, rfl, hb2, r1, r2, r3, r4, r5⟩; refine Hid.out ?_)
        have HS2 := Lib.hid (boxed_on HS.out hb2)
        have HF2 := Lib.hid (boxed_on HF.out hb2)
        have HJ2 := Lib.hid (HJ.out pre wr w2 HJ0.out (.inl hb2))
        have HE2 := Lib.hid (HE.out.on (hb2.mono HN.out))
        have HN2 : Hid (n0 ≤ w2.heap.size) := Lib.hid (by have := hb2.size; have := HN.out; omega)
        have cs2 : w2.cell? ⟨Bs, 0, none⟩ = some (.string X) := HS2.out.cell
        have cf2 : w2.cell? ⟨Bf, 0, none⟩ = some (.func (.func 20) #[] #[]) := HF2.out.cell
        rw [List.length_drop] at r2
        have hkn : k + kk ≤ X.size := by have := HL.out; omega
        have HLl : Hid (k + kk ≤ t.length) := Lib.hid (by have := HL.out; omega)
        clear hb2 cs cf r2
        by_cases h32 : x = 32
        · obtain ⟨rfl, rfl⟩ := r4 h32
          have HFn := Lib.hid (ff_blank0 HFF.out (by rw [HXX.out, h32]))
          clear r3 r4 r5 h32 r1
          refine Lib.hid ?_
          gi_wp2_with (refine ⟨trivial, ?_⟩; gi_at_call 20; refine (callsIn_wide.2 (blank_any 32 _)).mono ?_; rintro e w3 ⟨rfl, rfl⟩)
          go_roundw
          case rel => exact ⟨-1, k + 1, pre, rfl, by go_num, by omega, by omega, hkn, HFn, HJ2, HS2, HF2, HE2, HN2⟩
          case measure => simp [intOf]; omega
        · obtain ⟨hu, hno⟩ := r5 h32
          have HFn := Lib.hid (ff_on0 HFF.out r1 HLl.out hno)
          have hd : decide (u = 32) = false := by simpa using hu
          have HB := Lib.hid (blank_any u)
          rw [hd] at HB
          clear r3 r4 r5 h32 hno hu hd
          refine Lib.hid ?_
          gi_wp2_with (refine ⟨trivial, ?_⟩; gi_at_call 20; refine (callsIn_wide.2 (HB.out _)).mono ?_; rintro e w3 ⟨rfl, rfl⟩)
          go_roundw
          case rel => exact ⟨(k : Int), k + kk, pre, rfl, by go_num, by omega, by omega, hkn, HFn, HJ2, HS2, HF2, HE2, HN2⟩
          case measure => simp [intOf]; omega
      · obtain rfl : k = X.size := by omega
        have hE : wordsL t = pre := ff_end0 (by have := HFF.out; rw [HL.out] at this; exact this)
        have HEE := Lib.hid hE
        clear hE
        gi_wp2
        go_end0
        exact ⟨⟨_, rfl⟩, .inl (by rw [HEE.out]; exact HJ0.out)⟩
    · by_cases hlt : k < X.size
      · obtain ⟨x, hx⟩ : ∃ x, t[k]? = some x := ⟨_, List.getElem?_eq_getElem (by have := HL.out; omega)⟩
        obtain ⟨S, hsS⟩ : ∃ S, X.extract k X.size = S := ⟨_, rfl⟩
        have HSS : Hid (S = str (t.drop k)) := by
          show _ = _
          rw [← hsS, HX.out, str_extract, str_size, List.take_of_length_le (by rw [List.length_drop]; exact Nat.le_refl _)]
        have hr := rune_any (t.drop k) x _ (drop_at hx) wr HE.out.here
        rw [← HSS.out] at hr
        have HR := Lib.hid hr
        have HXX := Lib.hid hx
        clear hr hx
        gi_wp2_with (refine ⟨trivial, ?_⟩; gi_at_call 27; refine (callsIn_wide.2 HR.out).mono ?_; rintro e w2 ⟨u, kk, rfl, hb2, r1, r2, r3, r4, r5⟩; refine Hid.out ?_)
        have HS2 := Lib.hid (boxed_on HS.out hb2)
        have HF2 := Lib.hid (boxed_on HF.out hb2)
        have HJ2 := Lib.hid (HJ.out pre wr w2 HJ0.out (.inl hb2))
        have HE2 := Lib.hid (HE.out.on (hb2.mono HN.out))
        have HN2 : Hid (n0 ≤ w2.heap.size) := Lib.hid (by have := hb2.size; have := HN.out; omega)
        have cs2 : w2.cell? ⟨Bs, 0, none⟩ = some (.string X) := HS2.out.cell
        have cf2 : w2.cell? ⟨Bf, 0, none⟩ = some (.func (.func 20) #[] #[]) := HF2.out.cell
        rw [List.length_drop] at r2
        have hkn : k + kk ≤ X.size := by have := HL.out; omega
        have HLl : Hid (k + kk ≤ t.length) := Lib.hid (by have := HL.out; omega)
        clear hb2 cs cf r2
        by_cases h32 : x = 32
        · obtain ⟨rfl, rfl⟩ := r4 h32
          obtain ⟨hw, hff⟩ := ff_blank HFF.out (by rw [HXX.out, h32])
          have HFn := Lib.hid hff
          have HWW := Lib.hid hw
          obtain ⟨Y, hsY⟩ : ∃ Y, X.extract a k = Y := ⟨_, rfl⟩
          have hYe : str ((t.drop a).take (k - a)) = Y := by rw [← hsY, HX.out, str_extract]
          have hyy := HYY.out pre _ _ w2 hw HJ2.out
          simp only [hYe] at hyy
          obtain ⟨fn, tmps, assign, body, hy, hRd⟩ := hyy
          clear r3 r4 r5 h32 r1 hw hff hYe
          refine Lib.hid ?_
          gi_wp2_with (refine ⟨trivial, ?_⟩; gi_at_call 20; refine (callsIn_wide.2 (blank_any 32 _)).mono ?_; rintro e w3 ⟨rfl, rfl⟩)
          refine hRd.mono ?_
          rintro e W3 (⟨rfl, hJ3, hk3⟩ | ⟨rfl, hJx3⟩)
          · have HS3 := Lib.hid (hk3.2.box h1 h2 HS2.out)
            have HF3 := Lib.hid (hk3.2.box h3 h4 HF2.out)
            have HE3 := Lib.hid (HE2.out.on hk3.1)
            have HN3 : Hid (n0 ≤ W3.heap.size) := Lib.hid (by have := hk3.1.size; have := HN2.out; omega)
            have HJ3 := Lib.hid hJ3
            clear hk3 hJ3
            gi_wp2
            go_roundw
            case rel => exact ⟨-1, k + 1, _, rfl, by go_num, by omega, by omega, hkn, HFn, HJ3, HS3, HF3, HE3, HN3⟩
            case measure => simp [intOf]; omega
          · have HJ3 := Lib.hid hJx3
            clear hJx3
            gi_wp2
            refine bodyPost_ret (results_none rfl _ _ _) rfl ?_
            exact ⟨⟨_, rfl⟩, .inr ⟨pre, _, _, HWW.out, HJ3.out⟩⟩
        · obtain ⟨hu, hno⟩ := r5 h32
          have HFn := Lib.hid (ff_on HFF.out HLl.out hno)
          have hd : decide (u = 32) = false := by simpa using hu
          have HB := Lib.hid (blank_any u)
          rw [hd] at HB
          clear r3 r4 r5 h32 hno hu hd
          refine Lib.hid ?_
          gi_wp2_with (refine ⟨trivial, ?_⟩; gi_at_call 20; refine (callsIn_wide.2 (HB.out _)).mono ?_; rintro e w3 ⟨rfl, rfl⟩)
          go_roundw
          case rel => exact ⟨(a : Int), k + kk, pre, rfl, by go_num, by omega, by omega, hkn, HFn, HJ2, HS2, HF2, HE2, HN2⟩
          case measure => simp [intOf]; omega
      · obtain rfl : k = X.size := by omega
        have hw := ff_end (by have := HFF.out; rw [HL.out] at this; exact this)
        obtain ⟨Y, hsY⟩ : ∃ Y, X.extract a X.size = Y := ⟨_, rfl⟩
        have hYe : str (t.drop a) = Y := by rw [← hsY, HX.out, str_extract, str_size, List.take_of_length_le (by rw [List.length_drop]; exact Nat.le_refl _)]
        have hyy := HYY.out pre (t.drop a) [] wr hw HJ0.out
        simp only [hYe] at hyy
        obtain ⟨fn, tmps, assign, body, hy, hRd⟩ := hyy
        have HWW := Lib.hid hw
        clear hw hYe
        gi_wp2
        refine hRd.mono ?_
        rintro e W3 (⟨rfl, hJ3, hk3⟩ | ⟨rfl, hJx3⟩)
        · have HJ3 := Lib.hid hJ3
          clear hk3 hJ3
          gi_wp2
          go_end0
          exact ⟨⟨_, rfl⟩, .inl (by rw [HWW.out]; exact HJ3.out)⟩
        · have HJ3 := Lib.hid hJx3
          clear hJx3
          gi_wp2
          go_end0
          exact ⟨⟨_, rfl⟩, .inr ⟨pre, _, _, HWW.out, HJ3.out⟩⟩
end Go.Proofs.YtbpobbadmbafaaaDoor
