/-
  strings.SplitSeq's iterator at a newline: it gives the lines of a text.
-/
import Derived.Test.YtbpobbadmbafaaaDoorTFields
namespace Go.Proofs.YtbpobbadmbafaaaDoor
set_option linter.unusedVariables false
open Go.ChangeShapes Go.WideShapes Go.ChangeAt Go.RowKit
attribute [local go_sem] Oper.semAt_some

theorem indexByte_none {c : UInt8} {t : List UInt8} (h : c ∉ t) : Lib.indexByte t c = -1 := by
  induction t with
  | nil => rfl
  | cons b t ih =>
    have hb : (b == c) = false := by simp; rintro rfl; exact h (by simp)
    rw [Lib.indexByte, hb, ih (fun hr => h (by simp [hr]))]
    rfl
theorem indexByte_at {c : UInt8} {w r : List UInt8} (h : c ∉ w) : Lib.indexByte (w ++ c :: r) c = w.length := by
  induction w with
  | nil => simp [Lib.indexByte]
  | cons b w ih =>
    have hb : (b == c) = false := by simp; rintro rfl; exact h (by simp)
    rw [List.cons_append, Lib.indexByte, hb, ih (fun hr => h (by simp [hr]))]
    have : ((w.length : Int) == -1) = false := by simp
    rw [this]
    simp
/-- how long the text is that box B holds -/
def sizeAt (B : Nat) (W : World) : Nat := match W.cell? ⟨B, 0, none⟩ with
  | some (.string s) => s.size
  | _ => 0
theorem sizeAt_box {B : Nat} {W : World} {t : TypeId} {s : ByteArray} (h : Boxed W B t (.string s)) : sizeAt B W = s.size := by
  unfold sizeAt; rw [h.cell]

set_option maxRecDepth 100000 in
set_option maxHeartbeats 4000000 in
theorem split_gives (m : Nat) (hm : 1 ≤ m) (t : List UInt8) (ht : t.length ≤ 4294967296) (Bs Bp Bv n0 lo hi : Nat) (h1 : lo ≤ Bs) (h2 : Bs < hi) (h3 : lo ≤ Bp) (h4 : Bp < hi) (h5 : lo ≤ Bv) (h6 : Bv < hi) (hsp : Bs ≠ Bp) (hsv : Bs ≠ Bv) (W : World)
    (hs : Boxed W Bs 9 (.string (str t))) (hp : Boxed W Bp 9 (.string ⟨#[10]⟩)) (hv : Boxed W Bv 3 (.int .i64 0)) :
    Gives Fence.wide m Tryd.prog 26 #[.pointer (some ⟨Bp, 0, none⟩), .pointer (some ⟨Bs, 0, none⟩), .pointer (some ⟨Bv, 0, none⟩)] (fun x : List UInt8 => Value.string (str x)) Bs (Kept n0 lo hi) (splitB 10 t) W := by
  intro lp J Jx hJ hJx hY h0
  have HS := Lib.hid hs
  have HP := Lib.hid hp
  have HV := Lib.hid hv
  have HYY := Lib.hid hY
  have HJ := Lib.hid hJ
  have HJX := Lib.hid hJx
  have H0 := Lib.hid h0
  have HT := Lib.hid ht
  have c1 : W.cell? ⟨Bp, 0, none⟩ = some (.string ⟨#[10]⟩) := hp.cell
  clear hs hp hv hY hJ hJx h0 ht
  refine callsIn_of_wp Tryd.func26 rfl trivial ?_ rfl
  simp only [Tryd.ntmps26, List.size_toArray, List.length_cons, List.length_nil, Nat.reduceAdd, Nat.reduceSub, Array.replicate_succ, Array.replicate_zero, List.push_toArray, List.append_toArray, List.nil_append, List.cons_append]
  gi_wp2
  gi_loopw [7] (fun i wr => ∃ (v : Value) (pre : List (List UInt8)) (u : List UInt8), i = v ∧ Hid (splitB 10 t = pre ++ splitB 10 u) ∧ Hid (u.length ≤ 4294967296) ∧ Hid (J pre wr) ∧ Hid (Boxed wr Bs 9 (.string (str u))) ∧ Hid (Boxed wr Bp 9 (.string ⟨#[10]⟩)) ∧ Hid (Boxed wr Bv 3 (.int .i64 0))) (fun _ wr => sizeAt Bs wr)
  case atStart => exact ⟨_, [], t, rfl, Lib.hid (by simp), HT, H0, HS, HP, HV⟩
  case round =>
    clear H0 HS HP HV c1 HT
    obtain ⟨v, pre, u, rfl, HC, HU, HJ0, HS, HP, HV⟩ := hrel
    obtain ⟨X, HX⟩ : ∃ X, Hid (X = str u) := ⟨_, rfl⟩
    have hX : X.size ≤ 4294967296 := by rw [HX.out, str_size]; exact HU.out
    have HIX := Lib.hid (Tryd.strings_Index_one X 10 wr)
    have hil : Lib.indexByte X.data.toList 10 = Lib.indexByte u 10 := by rw [HX.out, str_list]
    rw [hil] at HIX
    rw [← HX.out] at HS
    have cs : wr.cell? ⟨Bs, 0, none⟩ = some (.string X) := HS.out.cell
    have cp : wr.cell? ⟨Bp, 0, none⟩ = some (.string ⟨#[10]⟩) := HP.out.cell
    have cv : wr.cell? ⟨Bv, 0, none⟩ = some (.int .i64 0) := HV.out.cell
    clear hil
    rcases cut_of 10 u with hno | ⟨w, r, rfl, hno⟩
    · rw [indexByte_none hno] at HIX
      have hy := HYY.out pre u [] wr (by rw [HC.out, splitB_one hno]) HJ0.out
      simp only [← HX.out] at hy
      obtain ⟨fn, tmps, assign, body, hyr, hRd⟩ := hy
      have HCC : Hid (splitB 10 t = pre ++ [u]) := Lib.hid (by rw [HC.out, splitB_one hno])
      clear hno
      gi_wp2_with (refine ⟨trivial, ?_⟩; gi_at_call 28; refine (callsIn_wide.2 HIX.out).mono ?_; rintro e w2 ⟨rfl, rfl⟩)
      refine hRd.mono ?_
      rintro e W3 (⟨rfl, hJ3, hk3⟩ | ⟨rfl, hJx3⟩)
      · have HJ3 := Lib.hid hJ3
        clear hk3 hJ3
        gi_wp2
        go_end0
        exact ⟨⟨_, rfl⟩, .inl (by rw [HCC.out]; exact HJ3.out)⟩
      · have HJ3 := Lib.hid hJx3
        clear hJx3
        gi_wp2
        go_end0
        exact ⟨⟨_, rfl⟩, .inr ⟨pre, _, _, HCC.out, HJ3.out⟩⟩
    · rw [indexByte_at hno] at HIX
      have hul := HU.out
      rw [List.length_append, List.length_cons] at hul
      have hXs : X.size = w.length + 1 + r.length := by rw [HX.out, str_size]; simp; omega
      obtain ⟨Y, hsY⟩ : ∃ Y, X.extract 0 w.length = Y := ⟨_, rfl⟩
      obtain ⟨Z, hsZ⟩ : ∃ Z, X.extract (w.length + 1) X.size = Z := ⟨_, rfl⟩
      have hYe : str w = Y := by rw [← hsY, HX.out, str_extract]; simp
      have HZe : Hid (Z = str r) := Lib.hid (by
        rw [← hsZ, HX.out, str_extract, str_size]
        congr 1
        rw [show w ++ 10 :: r = (w ++ [10]) ++ r by simp, List.drop_left' (by simp), List.take_of_length_le (by simp; omega)])
      have hy := HYY.out pre w (splitB 10 r) wr (by rw [HC.out, splitB_cut hno]) HJ0.out
      simp only [hYe] at hy
      obtain ⟨fn, tmps, assign, body, hyr, hRd⟩ := hy
      have HCC : Hid (splitB 10 t = (pre ++ [w]) ++ splitB 10 r) := Lib.hid (by rw [HC.out, splitB_cut hno]; simp)
      have HCX : Hid (splitB 10 t = pre ++ w :: splitB 10 r) := Lib.hid (by rw [HC.out, splitB_cut hno])
      obtain ⟨k, hk⟩ : ∃ k, w.length = k := ⟨_, rfl⟩
      rw [hk] at hXs hsY hsZ HIX hul
      have HXS := Lib.hid hXs
      have hkX : k + 1 ≤ X.size := by omega
      have HRL : Hid (r.length ≤ 4294967296) := Lib.hid (by omega)
      clear hno hXs hYe hk hul
      gi_wp2_with (refine ⟨trivial, ?_⟩; gi_at_call 28; refine (callsIn_wide.2 HIX.out).mono ?_; rintro e w2 ⟨rfl, rfl⟩)
      refine hRd.mono ?_
      rintro e W3 (⟨rfl, hJ3, hk3⟩ | ⟨rfl, hJx3⟩)
      · have HS3 := Lib.hid (hk3.2.box h1 h2 HS.out)
        have HP3 := Lib.hid (hk3.2.box h3 h4 HP.out)
        have HV3 := Lib.hid (hk3.2.box h5 h6 HV.out)
        have c3 : W3.cell? ⟨Bs, 0, none⟩ = some (.string X) := HS3.out.cell
        have f3 : W3.frozen? ⟨Bs, 0, none⟩ = false := HS3.out.frozen
        have c4 : W3.cell? ⟨Bp, 0, none⟩ = some (.string ⟨#[10]⟩) := HP3.out.cell
        have HJ3 := Lib.hid hJ3
        clear hk3 hJ3 cs cp cv
        gi_wp2
        go_roundw
        case rel => exact ⟨_, pre ++ [w], r, rfl, HCC, HRL, Lib.hid (HJ.out _ _ _ HJ3.out (.inr ⟨_, _, _, HS3.out, rfl⟩)), Lib.hid (by rw [← HZe.out]; exact HS3.out.set _), Lib.hid (HP3.out.other (fun e => hsp e.symm) _), Lib.hid (HV3.out.other (fun e => hsv e.symm) _)⟩
        case measure => rw [sizeAt_box HS.out, sizeAt_box (HS3.out.set (.string Z)), HZe.out, str_size]; have := HXS.out; omega
      · have HJ3 := Lib.hid hJx3
        clear hJx3
        gi_wp2
        refine bodyPost_ret (results_none rfl _ _ _) rfl ?_
        exact ⟨⟨_, rfl⟩, .inr ⟨pre, _, _, HCX.out, HJ3.out⟩⟩

set_option maxHeartbeats 1000000 in
theorem splitSeq_any (X : ByteArray) (w : World) : Calls Tryd.prog 8 #[.string X, .string ⟨#[10]⟩] w fun e w' =>
    e = .returned (.func (.func 26) #[] #[.pointer (some ⟨w.heap.size + 1, 0, none⟩), .pointer (some ⟨w.heap.size, 0, none⟩), .pointer (some ⟨w.heap.size + 1 + 1, 0, none⟩)]) ∧
      w' = ((w.alloc (.cells #[.string X] 9)).alloc (.cells #[.string ⟨#[10]⟩] 9)).alloc (.cells #[.int .i64 0] 3) := by
  go_enter Tryd.func8, Tryd.ntmps8
  go_wp2
  go_ret
  exact ⟨rfl, rfl⟩
end Go.Proofs.YtbpobbadmbafaaaDoor
