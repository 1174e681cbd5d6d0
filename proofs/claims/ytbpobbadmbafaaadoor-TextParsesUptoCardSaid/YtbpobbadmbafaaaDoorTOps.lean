/-
  Package text: greatestOperand, opOf, localsOf.
-/
import Derived.Test.YtbpobbadmbafaaaDoorTNumber
import Derived.Test.YtbpobbadmbafaaaDoorShelfQ
import Derived.Test.YtbpobbadmbafaaaDoorApp
namespace Go.Proofs.YtbpobbadmbafaaaDoor
set_option linter.unusedVariables false
open Go.ChangeShapes Go.WideShapes Go.ChangeAt Go.RowKit

set_option maxHeartbeats 2000000 in
theorem greatest_any (op : Nat) (hop : op ≤ 255) (w : World) : Calls Tryd.prog 34 #[.int .u8 op] w fun e w' => e = .returned (.int .u64 (gOp op)) ∧ w = w' := by
  by_cases h1 : op = 1
  · subst h1
    go_enter Tryd.func34, Tryd.ntmps34
    go_wp2
    go_ret
    exact ⟨rfl, rfl⟩
  have q1 : ((op : Int) == 1) = false := by simp; omega
  by_cases h2 : op = 2 ∨ op = 3 ∨ op = 4 ∨ op = 23 ∨ op = 25
  · rcases h2 with rfl | rfl | rfl | rfl | rfl
    all_goals
      clear q1 h1
      go_enter Tryd.func34, Tryd.ntmps34
      go_wp2
      go_ret
      exact ⟨rfl, rfl⟩
  by_cases h3 : op = 21 ∨ op = 22
  · rcases h3 with rfl | rfl
    all_goals
      clear q1 h1 h2
      go_enter Tryd.func34, Tryd.ntmps34
      go_wp2
      go_ret
      exact ⟨rfl, rfl⟩
  have q2 : ((op : Int) == 2) = false := by simp; omega
  have q3 : ((op : Int) == 3) = false := by simp; omega
  have q4 : ((op : Int) == 4) = false := by simp; omega
  have q5 : ((op : Int) == 23) = false := by simp; omega
  have q6 : ((op : Int) == 25) = false := by simp; omega
  have q7 : ((op : Int) == 21) = false := by simp; omega
  have q8 : ((op : Int) == 22) = false := by simp; omega
  have hg : gOp op = 0 := by unfold gOp; rw [if_neg h1, if_neg h2, if_neg h3]
  rw [hg]
  clear h1 h2 h3 hg
  go_enter Tryd.func34, Tryd.ntmps34
  go_wp2
  go_ret
  exact ⟨rfl, rfl⟩

/-- the search among the names from operation k on -/
def OpAt (d : List UInt8) (k : Nat) : Prop := opL d = opFrom k (nms.drop (k - 1)) d
theorem opAt_start (d : List UInt8) : OpAt d 1 := rfl
theorem opAt_step {d : List UInt8} {k : Nat} (h : OpAt d k) (h1 : 1 ≤ k) (h2 : k ≤ 32) : (([] :: nms).getD k [] = d → opL d = some k) ∧ (([] :: nms).getD k [] ≠ d → OpAt d (k + 1)) := by
  have hl : k - 1 < nms.length := by rw [nms_length]; omega
  have hd : nms.drop (k - 1) = ([] :: nms).getD k [] :: nms.drop k := by
    rw [List.drop_eq_getElem_cons hl, show k - 1 + 1 = k by omega]
    congr 1
    obtain ⟨j, rfl⟩ : ∃ j, k = j + 1 := ⟨k - 1, by omega⟩
    simp [List.getD, List.getElem?_eq_getElem (show j < nms.length by omega)]
  unfold OpAt at h ⊢
  rw [hd, opFrom] at h
  refine ⟨fun e => by rw [h, if_pos e], fun e => by rw [h, if_neg e]; rfl⟩
theorem opAt_end {d : List UInt8} (h : OpAt d 33) : opL d = none := h
def OpPost (d : List UInt8) (w : World) (e : Ending) (w' : World) : Prop := e = .returned (.tuple #[.int .u8 ((opL d).getD 0 : Nat), .bool (opL d).isSome]) ∧ w = w'
theorem opPost_yes {d : List UInt8} {k : Nat} {w : World} (h : opL d = some k) : OpPost d w (.returned (.tuple #[.int .u8 k, .bool true])) w := by unfold OpPost; rw [h]; exact ⟨rfl, rfl⟩
theorem opPost_no {d : List UInt8} {w : World} (h : opL d = none) : OpPost d w (.returned (.tuple #[.int .u8 0, .bool false])) w := by unfold OpPost; rw [h]; exact ⟨rfl, rfl⟩

set_option maxHeartbeats 2000000 in
theorem opOf_any (d : List UInt8) (w : World) (hV : Vars w) : Calls Tryd.prog 33 #[.string (str d)] w (OpPost d w) := by
  have HN := Lib.hid hV.nm
  obtain ⟨X, HX⟩ : ∃ X, Hid (X = str d) := ⟨_, rfl⟩
  rw [← HX.out]
  clear hV
  go_enter Tryd.func33, Tryd.ntmps33
  go_wp2
  go_loop [4] (fun o => ∃ k : Nat, 1 ≤ k ∧ k ≤ 33 ∧ o = .int .u8 k ∧ Hid (OpAt d k)) (fun o => 33 - (intOf o).toNat)
  case atStart => exact ⟨1, by omega, by omega, rfl, opAt_start d⟩
  case round =>
    obtain ⟨k, hk1, hk2, rfl, HO⟩ := hrel
    by_cases hlt : k ≤ 32
    · obtain ⟨hyes, hno⟩ := opAt_step HO.out hk1 hlt
      have hc := HN.out k (by omega)
      obtain ⟨Y, HY⟩ : ∃ Y, Hid (Y = str (([] :: nms).getD k [])) := ⟨_, rfl⟩
      rw [← HY.out] at hc
      have hb : (Y.toList == X.toList) = decide (([] :: nms).getD k [] = d) := by rw [HY.out, HX.out, str_toList, str_toList, Bool.eq_iff_iff]; simp
      by_cases he : ([] :: nms).getD k [] = d
      · have HH := Lib.hid (hyes he)
        rw [decide_eq_true he] at hb
        clear hyes hno he
        go_wp2
        go_ret2
        exact opPost_yes HH.out
      · have HH := Lib.hid (hno he)
        rw [decide_eq_false he] at hb
        clear hyes hno he
        go_wp2
        go_round
        case rel => exact ⟨k + 1, by omega, by omega, by go_num, HH⟩
        case measure => simp [intOf]; omega
    · obtain rfl : k = 33 := by omega
      have HH := Lib.hid (opAt_end HO.out)
      go_wp2
      go_ret2
      exact opPost_no HH.out

theorem lettersL_snoc (a : List UInt8) (b : UInt8) : lettersL (a ++ [b]) = match lettersL a, letterL b with
    | some l, some x => some (l ++ [x])
    | _, _ => none := by
  induction a with
  | nil => simp only [List.nil_append, lettersL]; cases letterL b <;> rfl
  | cons y a ih =>
    rw [List.cons_append, lettersL, ih, lettersL]
    cases letterL y <;> cases lettersL a <;> cases letterL b <;> rfl
theorem lettersL_bad {a : List UInt8} {b : UInt8} {r : List UInt8} (h : letterL b = none) : lettersL (a ++ b :: r) = none := by
  induction a with
  | nil => rw [List.nil_append, lettersL, h]
  | cons y a ih => rw [List.cons_append, lettersL, ih]; cases letterL y <;> rfl
theorem lettersL_length {a : List UInt8} {l : List Int} (h : lettersL a = some l) : l.length = a.length := by
  induction a generalizing l with
  | nil => injection h with h; subst h; rfl
  | cons y a ih =>
    rw [lettersL] at h
    cases h1 : letterL y with
    | none => rw [h1] at h; cases h
    | some x =>
      cases h2 : lettersL a with
      | none => rw [h1, h2] at h; cases h
      | some l2 =>
        rw [h1, h2] at h
        injection h with h; subst h
        simp [ih h2]
theorem lettersL_kinds {a : List UInt8} {l : List Int} (h : lettersL a = some l) : ∀ k ∈ l, k = 0 ∨ k = 1 := by
  induction a generalizing l with
  | nil => injection h with h; subst h; intro k hk; cases hk
  | cons y a ih =>
    rw [lettersL] at h
    cases h1 : letterL y with
    | none => rw [h1] at h; cases h
    | some x =>
      cases h2 : lettersL a with
      | none => rw [h1, h2] at h; cases h
      | some l2 =>
        rw [h1, h2] at h
        injection h with h; subst h
        intro k hk
        rcases List.mem_cons.1 hk with rfl | hk
        · unfold letterL at h1
          split at h1
          · injection h1 with h1; exact .inl h1.symm
          · split at h1
            · injection h1 with h1; exact .inr h1.symm
            · cases h1
        · exact ih h2 k hk
theorem own_al {w : World} {base size n : Nat} {e : TypeId} {v : Value} {xs : List Value} (h : w.ownsRow base e size v n xs) (o : Obj) : (w.alloc o).ownsRow base e size v n xs := h.alloc o
def LocPost (d : List UInt8) (w : World) (e : Ending) (w' : World) : Prop :=
  ∃ (A : Option Addr) (k c : Nat) (ok : Bool), e = .returned (.tuple #[.slice A k c, .bool ok]) ∧ Below w.heap.size w w' ∧ ((ok = false ∧ localsL d = none) ∨ (ok = true ∧ ∃ l, localsL d = some l ∧ l.length = k ∧ w'.ownsRow w.heap.size 53 1 (.slice A k c) k (u8c l)))

set_option maxHeartbeats 2000000 in
theorem localsOf_any (d : List UInt8) (hd : d.length ≤ 4294967296) (w : World) : Calls Tryd.prog 31 #[.string (str d)] w (LocPost d w) := by
  obtain ⟨X, HX⟩ : ∃ X, Hid (X = str d) := ⟨_, rfl⟩
  have hX : X.size ≤ 4294967296 := by rw [HX.out, str_size]; exact hd
  by_cases h : d = [45]
  · have hb : (X.toList == [45]) = true := by rw [HX.out, str_eqb]; simpa using h
    have HK : Hid (localsL d = some []) := Lib.hid (by subst h; rfl)
    rw [← HX.out]
    clear h hd
    go_enter Tryd.func31, Tryd.ntmps31
    go_wp2
    go_ret2
    exact ⟨none, 0, 0, true, rfl, Below.refl _ _, .inr ⟨rfl, [], HK.out, rfl, own_none _ _ _ _⟩⟩
  · have hb : (X.toList == [45]) = false := by rw [HX.out, str_eqb]; simpa using h
    have HK : Hid (localsL d = lettersL d) := Lib.hid (by unfold localsL; rw [if_neg h])
    have HL : Hid (X.size = d.length) := Lib.hid (by rw [HX.out, str_size])
    have HB : Hid (∀ (k : Nat) (h : k < X.size), d[k]? = some X[k]) := by
      intro k h
      have e : d = X.data.toList := by rw [HX.out, str_list]
      have h2 : k < X.data.toList.length := by simpa using h
      rw [e, List.getElem?_eq_getElem h2]
      rfl
    rw [← HX.out]
    clear h hd
    go_enter Tryd.func31, Tryd.ntmps31
    go_wp2
    go_loopw [4, 11] (fun s i wr => ∃ (A : Option Addr) (j c : Nat) (l : List Int), j ≤ X.size ∧ s = .slice A j c ∧ i = .int .i64 j ∧ Hid (lettersL (d.take j) = some l) ∧ Hid (wr.ownsRow w.heap.size 53 1 (.slice A j c) j (u8c l)) ∧ Hid (Below w.heap.size w wr)) (fun _ i _ => X.size - (intOf i).toNat)
    case atStart => exact ⟨none, 0, 0, [], by omega, rfl, rfl, rfl, own_none _ _ _ _, Below.refl _ _⟩
    case round =>
      obtain ⟨A, j, c, l, hj, rfl, rfl, HLt, HO, HW⟩ := hrel
      by_cases hlt : j < X.size
      · have hx := HB.out j hlt
        obtain ⟨x, hxx⟩ : ∃ x, X[j] = x := ⟨_, rfl⟩
        rw [hxx] at hx
        have HXX := Lib.hid hx
        obtain ⟨n, hn⟩ : ∃ n : Nat, x.toNat = n := ⟨_, rfl⟩
        have hxn : X[j].toNat = n := by rw [hxx]; exact hn
        have HSn : Hid (lettersL (d.take (j + 1)) = match some l, letterL x with
            | some l, some x => some (l ++ [x])
            | _, _ => none) := by show _ = _; rw [take_snoc8 HXX.out, lettersL_snoc, HLt.out]
        have HI : Hid (∀ W, Calls Tryd.prog 44 #[.string ⟨#[110, 112]⟩, .int .u8 (n : Int)] W fun e w' => e = .returned (.int .i64 (Lib.indexByte [110, 112] x)) ∧ W = w') := fun W => by
          have h := Tryd.strings_IndexByte ⟨#[110, 112]⟩ (n : Int) W
          rw [show ((n : Int)).toNat.toUInt8 = x by rw [Int.toNat_natCast, ← hn]; simp] at h
          exact h.mono fun e w' hh => ⟨hh.1, hh.2.symm⟩
        have hnb : n ≤ 255 := by have := UInt8.toNat_lt x; omega
        have hsz := HW.out.size
        clear hx hn
        by_cases h0 : x = 110 ∨ x = 112
        · obtain ⟨q, hq, hq2, hq0, hq1⟩ : ∃ q : Int, Lib.indexByte [110, 112] x = q ∧ letterL x = some q ∧ 0 ≤ q ∧ q ≤ 1 := by rcases h0 with rfl | rfl <;> exact ⟨_, rfl, rfl, by decide, by decide⟩
          have HOa := Lib.hid (own_al HO.out (.cells #[.int .u8 q] 53))
          have HRa := Lib.hid (one_reads wr 53 [.int .u8 q] 1 rfl)
          have HSS : Hid (lettersL (d.take (j + 1)) = some (l ++ [q])) := by show _ = _; rw [HSn.out, hq2]
          rw [hq] at HI
          clear h0 hq hq2 HSn hxx
          go_wp2_with (go_at_call 44; refine (HI.out _).mono ?_; rintro e w2 ⟨rfl, rfl⟩; refine Hid.out ?_)
          refine Lib.hid ?_
          go_wp2_with (at_builtin; refine app_kind rfl _ _ rfl w.heap.size (.slice A j c) j (u8c l) rfl HOa.out (wr.heap.size + 1) (some ⟨wr.heap.size, 0, none⟩) 1 1 [.int .u8 q] rfl HRa.out (by intro u hu; simp at hu; subst hu; rfl) (by omega) (by simp; omega) ?_; intro v' w6 hown6 hgr6 _; refine Hid.out ?_)
          obtain ⟨A6, c6, rfl⟩ := own_slice hown6
          have HO6 : Hid (w6.ownsRow w.heap.size 53 1 (.slice A6 (j + 1) c6) (j + 1) (u8c (l ++ [q]))) := by rw [u8c_append]; exact hown6
          have HB6 : Hid (Below w.heap.size w w6) := (HW.out.alloc (by omega) _).grown hgr6 (by simp; omega) fun i hi => (own_block_le HO.out hi).1
          clear hown6 hgr6
          refine Lib.hid ?_
          go_wp2
          go_roundw
          case rel => exact ⟨A6, j + 1, c6, l ++ [q], by omega, rfl, by go_num, HSS, HO6, HB6⟩
          case measure => simp [intOf]; omega
        · have hq : Lib.indexByte [110, 112] x = -1 := by
            have e1 : ((110 : UInt8) == x) = false := by simp; intro e; exact h0 (.inl e.symm)
            have e2 : ((112 : UInt8) == x) = false := by simp; intro e; exact h0 (.inr e.symm)
            simp [Lib.indexByte, e1, e2]
          have hlx : letterL x = none := by unfold letterL; rw [if_neg (fun e => h0 (.inl e)), if_neg (fun e => h0 (.inr e))]
          have HNo : Hid (localsL d = none) := by
            show _ = _
            rw [HK.out, ← List.take_append_drop j d, List.drop_eq_getElem_cons (by have := HL.out; omega)]
            refine lettersL_bad ?_
            have := HXX.out
            rw [List.getElem?_eq_getElem (by have := HL.out; omega)] at this
            injection this with this
            rw [this]; exact hlx
          rw [hq] at HI
          clear h0 hq hlx HSn hxx
          go_wp2_with (go_at_call 44; refine (HI.out _).mono ?_; rintro e w2 ⟨rfl, rfl⟩)
          go_ret2
          exact ⟨none, 0, 0, false, rfl, HW.out, .inl ⟨rfl, HNo.out⟩⟩
      · obtain rfl : j = X.size := by omega
        have HF : Hid (localsL d = some l) := by
          show _ = _
          rw [HK.out, ← HLt.out, List.take_of_length_le (by have := HL.out; omega)]
        have HLn : Hid (l.length = X.size) := by
          have := lettersL_length HLt.out
          rw [List.length_take] at this
          show _ = _
          have := HL.out
          omega
        go_wp2
        go_ret2
        exact ⟨A, _, c, true, rfl, HW.out, .inr ⟨rfl, l, HF.out, HLn.out, HO.out⟩⟩
end Go.Proofs.YtbpobbadmbafaaaDoor
