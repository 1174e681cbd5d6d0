/-
  Package trace's Parse: what every text is read as.
-/
import Derived.Test.YtjmfbmnhkoeceaaDoorWord
import Derived.Test.YtjmfbmnhkoeceaaDoorTr
namespace Go.Proofs.YtjmfbmnhkoeceaaDoor
set_option linter.unusedVariables false
open Go.ChangeShapes Go.WideShapes Go.ChangeAt Go.RowKit

def textSize : Value → Nat
  | .string s => s.size
  | _ => 0
theorem cut_no (t : List UInt8) (h : (32 : UInt8) ∉ t) (ht : t.length ≤ 1073741824) (w : World) (hV : Vars w) :
    Calls Tryd.prog 32 #[.string (str t), .string (str [32])] w fun e w' => e = .returned (.tuple #[.string (str t), .string (str []), .bool false]) ∧ Below w.heap.size w w' := by
  obtain ⟨m, hm⟩ := hV.cut
  refine (Tryd.strings_Cut (str t) (str [32]) m w (by rw [str_size]; omega) hm).mono ?_
  rintro e w' ⟨rfl, n, rfl⟩
  refine ⟨?_, below_drewN (Below.refl _ _) _⟩
  rw [str_list, str_list, cut_none h]
  rfl
theorem cut_yes (wd r : List UInt8) (h : (32 : UInt8) ∉ wd) (ht : (wd ++ 32 :: r).length ≤ 1073741824) (w : World) (hV : Vars w) :
    Calls Tryd.prog 32 #[.string (str (wd ++ 32 :: r)), .string (str [32])] w fun e w' => e = .returned (.tuple #[.string (str wd), .string (str r), .bool true]) ∧ Below w.heap.size w w' := by
  obtain ⟨m, hm⟩ := hV.cut
  refine (Tryd.strings_Cut (str (wd ++ 32 :: r)) (str [32]) m w (by rw [str_size]; omega) hm).mono ?_
  rintro e w' ⟨rfl, n, rfl⟩
  refine ⟨?_, below_drewN (Below.refl _ _) _⟩
  rw [str_list, str_list, cut_at h]
  rfl

/-- what Parse answers: the events, the ending, the error's number -/
def ReadIs (t : List UInt8) (l : List Ev) (x : Ev) (f : Int) : Prop := (readL t = some (l, x) ∧ f = 0) ∨ (readL t = none ∧ l = [] ∧ x = (0, 0) ∧ f = 30)

def ParsePost (t : List UInt8) (w : World) (e : Ending) (w' : World) : Prop :=
  ∃ (v : Value) (l : List Ev) (x : Ev) (f : Int), e = .returned (.tuple #[v, .agg #[.int .i64 x.1, .int .u64 x.2], .int .i64 f]) ∧ w'.ownsRow (w.heap.size + 1) 31 2 v l.length (evc l) ∧ ReadIs t l x f ∧ Below w.heap.size w w'
theorem own_res {wr w3 : World} {b n : Nat} {v u1 u2 : Value} {xs : List Value} {o : Obj} (h : wr.ownsRow (b + 1) 31 2 v n xs) (hb : Below wr.heap.size wr w3) :
    (((w3.alloc o).setCell ⟨b, 0, none⟩ u1).setCell ⟨b, 1, none⟩ u2).ownsRow (b + 1) 31 2 v n xs := by
  refine own_kept h fun i hi => ?_
  obtain ⟨h1, h2⟩ := own_block_le h hi
  have hs := hb.size
  rw [Below.heap_setCell _ _ _ _ (by show i ≠ b; omega), Below.heap_setCell _ _ _ _ (by show i ≠ b; omega), Below.heap_alloc _ _ _ (by omega), hb.block i h2]

set_option maxHeartbeats 8000000 in
theorem parse_any (t : List UInt8) (ht : t.length ≤ 1073741824) (w : World) (hE : Env w.heap.size w) :
    Calls Tryd.prog 21 #[.string (str t)] w (ParsePost t w) := by
  obtain ⟨i1, hi1, hy0, hy1, hy2⟩ := info_parts Tryd.info31
  have HE : Hid (Env (w.heap.size + 1) (w.alloc (.cells #[.int .i64 0, .int .u64 0] 38))) := (hE.on ((Below.refl _ _).alloc (Nat.le_refl _) _)).more (by omega)
  have HA : Hid (Below w.heap.size w (w.alloc (.cells #[.int .i64 0, .int .u64 0] 38))) := (Below.refl _ _).alloc (Nat.le_refl _) _
  clear hE
  go_enter Tryd.func21, Tryd.ntmps21
  go_wp2
  go_loopw [0, 5] (fun s v wr => ∃ (t' : List UInt8) (acc : List Ev), s = .string (str t') ∧ Hid (readL t = glue acc (readL t')) ∧ t'.length + acc.length ≤ t.length ∧ Hid (wr.ownsRow (w.heap.size + 1) 31 2 v acc.length (evc acc)) ∧ Hid (Below (w.heap.size + 1) (w.alloc (.cells #[.int .i64 0, .int .u64 0] 38)) wr)) (fun s _ _ => textSize s)
  case atStart => exact ⟨t, [], rfl, (glue_nil _).symm, by simp, ⟨rfl, .inl ⟨rfl, rfl⟩⟩, Below.refl _ _⟩
  case round =>
    obtain ⟨t', acc, rfl, HG, hta, HO, HB⟩ := hrel
    have hsz := HB.out.size
    simp only [World.size_alloc] at hsz
    have HE1 := Lib.hid (HE.out.on HB.out)
    obtain ⟨Av, cv, rfl⟩ := own_slice HO.out
    rcases cut_of t' with hno | ⟨wd, r, rfl, hwd⟩
    · have HC := Lib.hid (cut_no t' hno (by omega))
      have HR : Hid (readL t = glue acc ((endOf t').map fun e => ([], e))) := by
        show _ = _
        rw [HG.out, readL_one hno]
      clear hno
      obtain ⟨X, HX⟩ : ∃ X, Hid (X = str t') := ⟨_, rfl⟩
      obtain ⟨x, ok, hxo⟩ : ∃ x ok, (endOf t' = some x ∧ ok = true) ∨ (endOf t' = none ∧ x = (0, 0) ∧ ok = false) := by
        cases he : endOf t' with
        | some x => exact ⟨x, true, .inl ⟨rfl, rfl⟩⟩
        | none => exact ⟨(0, 0), false, .inr ⟨rfl, rfl, rfl⟩⟩
      have HEn := Lib.hid (end_any t' x ok hxo (by omega))
      rw [← HX.out] at HC HEn ⊢
      go_wp2_with (go_at_call 32; refine (HC.out _ HE1.out.here).mono ?_; rintro e w2 ⟨rfl, hb2⟩; refine Hid.out ?_)
      have HE2 := Lib.hid ((HE1.out.on (hb2.mono hsz)).more (by have := hb2.size; omega : w.heap.size + 1 ≤ w2.heap.size))
      refine Lib.hid ?_
      go_wp2_with (go_at_call 34; refine (HEn.out _ HE2.out).mono ?_; rintro e w3 ⟨rfl, hb3⟩; refine Hid.out ?_)
      have hs2 := hb2.size
      have hs3 := hb3.size
      have hb13 : Below (w.heap.size + 1) (w.alloc (.cells #[.int .i64 0, .int .u64 0] 38)) w3 := (HB.out.trans (hb2.mono hsz)).trans (hb3.mono (by omega))
      have hbr3 : Below wr.heap.size wr w3 := hb2.trans (hb3.mono hs2)
      obtain ⟨c0, c1, f0, f1⟩ := res_cells (hb13.alloc (by omega : w.heap.size + 1 ≤ w3.heap.size) (.cells #[.int .i64 x.1, .int .u64 x.2] 38))
      rcases hxo with ⟨hx, rfl⟩ | ⟨hx, rfl, rfl⟩
      · have HX2 := Lib.hid hx
        clear hx
        refine Lib.hid ?_
        go_wp2
        go_region
        all_goals
          go_wp2
          exact bodyPost_ret (v := .tuple #[.slice Av acc.length cv, .agg #[.int .i64 x.1, .int .u64 x.2], .int .i64 0]) (by simp [results, Tryd.results21, go_sem, c0, c1]) rfl ⟨_, acc, x, 0, rfl, own_res HO.out hbr3, .inl ⟨by rw [HR.out, HX2.out]; simp [glue], rfl⟩, ((HA.out.trans ((hb13.mono (by omega)).alloc (by omega) _)).setCell (p := ⟨w.heap.size, 0, none⟩) (Nat.le_refl _) _ |>.setCell (p := ⟨w.heap.size, 1, none⟩) (Nat.le_refl _) _).drew⟩
      · have HX2 := Lib.hid hx
        clear hx
        refine Lib.hid ?_
        go_wp2
        exact bodyPost_ret (v := .tuple #[.slice none 0 0, .agg #[.int .i64 0, .int .u64 0], .int .i64 30]) (by simp [results, Tryd.results21, go_sem, c0, c1]) rfl ⟨.slice none 0 0, [], (0, 0), 30, rfl, own_none _ _, .inr ⟨by rw [HR.out, HX2.out]; rfl, rfl, rfl, rfl⟩, (HA.out.trans ((hb13.mono (by omega)).alloc (by omega) _)).setCell (p := ⟨w.heap.size, 0, none⟩) (Nat.le_refl _) _ |>.setCell (p := ⟨w.heap.size, 1, none⟩) (Nat.le_refl _) _⟩
    · have hlen : wd.length + r.length + 1 + acc.length ≤ t.length := by
        have := hta
        simp only [List.length_append, List.length_cons] at this
        omega
      have HC := Lib.hid (cut_yes wd r hwd (by simp only [List.length_append, List.length_cons]; omega))
      have HR := HG
      have HWD := Lib.hid hwd
      clear hwd hta HG
      obtain ⟨X, HX⟩ : ∃ X, Hid (X = str (wd ++ 32 :: r)) := ⟨_, rfl⟩
      obtain ⟨Y, HY⟩ : ∃ Y, Hid (Y = str wd) := ⟨_, rfl⟩
      obtain ⟨Z, HZ⟩ : ∃ Z, Hid (Z = str r) := ⟨_, rfl⟩
      obtain ⟨x, ok, hxo⟩ : ∃ x ok, (evOf wd = some x ∧ ok = true) ∨ (evOf wd = none ∧ x = (0, 0) ∧ ok = false) := by
        cases he : evOf wd with
        | some x => exact ⟨x, true, .inl ⟨rfl, rfl⟩⟩
        | none => exact ⟨(0, 0), false, .inr ⟨rfl, rfl, rfl⟩⟩
      have HEn := Lib.hid (ev_any wd x ok hxo (by omega))
      rw [← HX.out, ← HY.out, ← HZ.out] at HC
      rw [← HY.out] at HEn
      rw [← HX.out]
      go_wp2_with (go_at_call 32; refine (HC.out _ HE1.out.here).mono ?_; rintro e w2 ⟨rfl, hb2⟩; refine Hid.out ?_)
      have HE2 := Lib.hid ((HE1.out.on (hb2.mono hsz)).more (by have := hb2.size; omega : w.heap.size + 1 ≤ w2.heap.size))
      refine Lib.hid ?_
      go_wp2_with (go_at_call 33; refine (HEn.out _ HE2.out).mono ?_; rintro e w3 ⟨rfl, hb3⟩; refine Hid.out ?_)
      have hs2 := hb2.size
      have hs3 := hb3.size
      have hb13 : Below (w.heap.size + 1) (w.alloc (.cells #[.int .i64 0, .int .u64 0] 38)) w3 := (HB.out.trans (hb2.mono hsz)).trans (hb3.mono (by omega))
      have hbr3 : Below wr.heap.size wr w3 := hb2.trans (hb3.mono hs2)
      rcases hxo with ⟨hx, rfl⟩ | ⟨hx, rfl, rfl⟩
      · obtain ⟨xk, xv⟩ := x
        have HX2 := Lib.hid hx
        have HO4 : Hid ((w3.alloc (.cells #[.int .i64 xk, .int .u64 xv] 31)).ownsRow (w.heap.size + 1) 31 2 (.slice Av acc.length cv) acc.length (evc acc)) :=
          (own_kept HO.out fun i hi => hbr3.block i (own_block_le HO.out hi).2).alloc _
        have HO5 := Lib.hid (HO4.out.alloc (.cells #[.int .i64 xk, .int .u64 xv] 31))
        have HB4 : Hid (Below (w.heap.size + 1) (w.alloc (.cells #[.int .i64 0, .int .u64 0] 38)) (w3.alloc (.cells #[.int .i64 xk, .int .u64 xv] 31))) := hb13.alloc (by omega) _
        have HRd : Hid (Reads ((w3.alloc (.cells #[.int .i64 xk, .int .u64 xv] 31)).alloc (.cells #[.int .i64 xk, .int .u64 xv] 31)) (w3.heap.size + 2) 2 (some ⟨w3.heap.size + 1, 0, none⟩) 1 [.int .i64 xk, .int .u64 xv]) := by
          have h := one_reads (w3.alloc (.cells #[.int .i64 xk, .int .u64 xv] 31)) 31 (xk, xv)
          rw [World.size_alloc] at h
          exact h
        have HOne : Hid (∀ u ∈ [Value.int .i64 xk, Value.int .u64 xv], u.oneCell' = true) := Lib.hid (evOne_one (xk, xv))
        clear hx hb13 hbr3
        refine Lib.hid ?_
        go_wp2_with (at_builtin; refine wpList_append_any _ rfl _ _ 27 rfl (w.heap.size + 1) 31 i1 (.agg #[.int .i64 0, .int .u64 0]) 2 16 Tryd.underlying27 hi1 hy0 hy1 hy2 rfl (by decide) _ acc.length (evc acc) rfl HO5.out (w3.heap.size + 2) (some ⟨w3.heap.size + 1, 0, none⟩) 1 1 [.int .i64 xk, .int .u64 xv] rfl HRd.out HOne.out (by unfold maxLen; omega) (by omega) (by simp; omega) ?_; intro v5 w5 hown5 hgr5 _; refine Hid.out ?_)
        obtain ⟨Aw5, cw5, rfl⟩ := own_slice hown5
        have HO6 : Hid (w5.ownsRow (w.heap.size + 1) 31 2 (.slice Aw5 (acc.length + 1) cw5) (acc ++ [(xk, xv)]).length (evc (acc ++ [(xk, xv)]))) := by
          rw [evc_append, List.length_append]
          exact hown5
        have HB6 : Hid (Below (w.heap.size + 1) (w.alloc (.cells #[.int .i64 0, .int .u64 0] 38)) w5) := (HB4.out.alloc (by simp; omega) _).grown hgr5 (by simp; omega) (fun i hi => (own_block_le HO4.out hi).1)
        have HRn : Hid (readL t = glue (acc ++ [(xk, xv)]) (readL r)) := by
          show _ = _
          rw [HR.out, readL_cut HWD.out, HX2.out]
          exact glue_step acc (xk, xv) (readL r)
        have hms : Z.size < X.size := by rw [HZ.out, HX.out, str_size, str_size]; simp only [List.length_append, List.length_cons]; omega
        clear hown5 hgr5
        refine Lib.hid ?_
        go_wp2
        go_roundw
        case rel => exact ⟨r, acc ++ [(xk, xv)], by rw [HZ.out], HRn, by rw [List.length_append]; simp only [List.length_cons, List.length_nil]; omega, HO6, HB6⟩
        case measure => simp only [textSize]; exact hms
      · have HX2 := Lib.hid hx
        obtain ⟨c0, c1, f0, f1⟩ := res_cells (hb13.alloc (by omega : w.heap.size + 1 ≤ w3.heap.size) (.cells #[.int .i64 0, .int .u64 0] 31))
        clear hx
        refine Lib.hid ?_
        go_wp2
        exact bodyPost_ret (v := .tuple #[.slice none 0 0, .agg #[.int .i64 0, .int .u64 0], .int .i64 30]) (by simp [results, Tryd.results21, go_sem, c0, c1]) rfl ⟨.slice none 0 0, [], (0, 0), 30, rfl, own_none _ _, .inr ⟨by rw [HR.out, readL_cut HWD.out, HX2.out]; rfl, rfl, rfl, rfl⟩, (HA.out.trans ((hb13.mono (by omega)).alloc (by omega) _)).setCell (p := ⟨w.heap.size, 0, none⟩) (Nat.le_refl _) _ |>.setCell (p := ⟨w.heap.size, 1, none⟩) (Nat.le_refl _) _⟩
end Go.Proofs.YtjmfbmnhkoeceaaDoor
