/-
  The walk through TraceTexts: what is printed is the document's text, what is read is what the document reads, and what is read is printed as it was.
-/
import Derived.Test.YtjmfbmnhkoeceaaDoorRefRead
import Derived.Test.YtjmfbmnhkoeceaaDoorFirst
import Derived.Test.YtjmfbmnhkoeceaaDoorEq
import Derived.Test.YtjmfbmnhkoeceaaDoorTab
namespace Go.Proofs.YtjmfbmnhkoeceaaDoor
set_option linter.unusedVariables false
open Go.ChangeShapes Go.WideShapes Go.ChangeAt Go.RowKit

/-- '==' and '!=' of two endings. -/
theorem equalIn_end (a b : Ev) (w : World) : Sem.run Tryd.prog (Op.equalIn 10000 38 (.agg #[.int .i64 a.1, .int .u64 a.2]) (.agg #[.int .i64 b.1, .int .u64 b.2])) w = .ok (decide (a = b)) w := by
  have hS : Tryd.prog.underlying 38 = some (.struct (Tryd.prog.fieldsOf 38)) := by kernel_rfl
  have hp : Tryd.prog.stoodInHeld 38 = false := by kernel_rfl
  have u3 := Tryd.underlying36
  have u26 := Tryd.underlying26
  have a3 := Tryd.isAgg36
  have a26 := Tryd.isAgg26
  have z3 := Tryd.sizeOf36
  have z26 := Tryd.sizeOf26
  show (Op.equalIn 10000 38 (.agg #[.int .i64 a.1, .int .u64 a.2]) (.agg #[.int .i64 b.1, .int .u64 b.2])).run Tryd.prog w = _
  rw [show (10000 : Nat) = 9999 + 1 from rfl, run_equalIn_agg w 9999 38 _ _ hS hp]
  simp only [Program.fieldsOf, Tryd.underlying38]
  go_simp
  obtain ⟨a1, a2⟩ := a
  obtain ⟨b1, b2⟩ := b
  by_cases h1 : a1 = b1 <;> by_cases h2 : a2 = b2 <;> simp [h1, h2]

/-- what both read is one -/
theorem both_is {t : List UInt8} {l1 l2 : List Ev} {x1 x2 : Ev} {f : Int} {ok : Bool} (h1 : ReadIs t l1 x1 f) (h2 : RefIs t l2 x2 ok) :
    l1 = l2 ∧ x1 = x2 ∧ ((readL t = some (l1, x1) ∧ f = 0 ∧ ok = true) ∨ (f = 30 ∧ ok = false ∧ l1.length ≤ t.length)) := by
  rcases h1 with ⟨e1, rfl⟩ | ⟨e1, rfl, rfl, rfl⟩
  · rcases h2 with ⟨e2, rfl⟩ | ⟨e2, _⟩
    · rw [e1] at e2
      injection e2 with e2
      injection e2 with e3 e4
      exact ⟨e3, e4, .inl ⟨e1, rfl, rfl⟩⟩
    · rw [e1] at e2; cases e2
  · rcases h2 with ⟨e2, _⟩ | ⟨e2, rfl, rfl, rfl⟩
    · rw [e1] at e2; cases e2
    · exact ⟨rfl, rfl, .inr ⟨rfl, rfl, by simp⟩⟩

set_option maxRecDepth 100000 in
set_option maxHeartbeats 16000000 in
theorem texts_walk (ao : Option Addr) (n c : Nat) (l : List Ev) (k u : Int) (tx : List UInt8) (w : World) (h : Reads w w.heap.size 2 ao n (evc l)) (hl : l.length = n) (hnc : n ≤ c) (hc : c ≤ 1048576)
    (hev : ∀ x ∈ l, EvOk w.heap.size w x) (he : EvOk w.heap.size w (k, u)) (htx : tx.length ≤ 1048576) (hE : Env w.heap.size w) :
    Calls Tryd.prog 5 #[.slice ao n c, .agg #[.int .i64 k, .int .u64 u], .string (str tx)] w fun e w' => e = .returned (.bool true) ∧ Below w.heap.size w w' := by
  have HR := Lib.hid h
  have HL := Lib.hid hl
  have HE := Lib.hid hev
  have HF := Lib.hid he
  have HV := Lib.hid hE
  have hpl : (printL l (k, u)).length ≤ 30000000 := print_le l (k, u) (by omega) hev he
  obtain ⟨S, HS⟩ : ∃ S, Hid (S = str (printL l (k, u))) := ⟨_, rfl⟩
  obtain ⟨T, HT⟩ : ∃ T, Hid (T = str tx) := ⟨_, rfl⟩
  have HLen : Hid ((printL l (k, u)).length ≤ 1073741824 ∧ tx.length ≤ 1073741824) := ⟨by omega, by omega⟩
  have hss : S.size ≤ 30000000 := by rw [HS.out, str_size]; exact hpl
  rw [← HT.out]
  clear h hl hev he hE hpl
  go_enter Tryd.func5, Tryd.ntmps5
  go_wp2_with (go_at_call 9; refine (first_any _).mono ?_; rintro e w1 ⟨rfl, hb1⟩; refine Hid.out ?_)
  have d0 : w1.cell? ⟨w.heap.size, 0, none⟩ = some (.int .i64 k) := by rw [hb1.cell (p := ⟨w.heap.size, 0, none⟩) (by simp), (Blk.new w _ _).cell]; rfl
  have d1 : w1.cell? ⟨w.heap.size, 1, none⟩ = some (.int .u64 u) := by rw [hb1.cell (p := ⟨w.heap.size, 1, none⟩) (by simp), (Blk.new w _ _).cell]; rfl
  have hs1 : w.heap.size < w1.heap.size := by have := hb1.size; simp at this; omega
  have HW1 : Hid (Below w.heap.size w w1) := ((Below.refl _ _).alloc (Nat.le_refl _) _).trans (hb1.mono (by simp))
  clear hb1
  refine Lib.hid ?_
  go_wp2_with (go_at_call 19; refine (print_any ao n c l k u _ ((HR.out.below HW1.out).more (by omega)) HL.out (by omega) (fun x hx => ⟨(HE.out x hx).1, (HE.out x hx).2.1, ((HE.out x hx).2.2.on HW1.out).more (by omega)⟩) ⟨HF.out.1, HF.out.2.1, (HF.out.2.2.on HW1.out).more (by omega)⟩).mono ?_; rintro e w2 ⟨rfl, hb2⟩; rw [← HS.out]; refine Hid.out ?_)
  have HB2 : Hid (Below w1.heap.size w1 w2) := hb2
  have hs2 := hb2.size
  have e0 : w2.cell? ⟨w.heap.size, 0, none⟩ = some (.int .i64 k) := by rw [hb2.cell (p := ⟨w.heap.size, 0, none⟩) hs1]; exact d0
  have e1 : w2.cell? ⟨w.heap.size, 1, none⟩ = some (.int .u64 u) := by rw [hb2.cell (p := ⟨w.heap.size, 1, none⟩) hs1]; exact d1
  have HW2 := Lib.hid (HW1.out.trans (hb2.mono (by omega)))
  clear d0 d1 hb2
  refine Lib.hid ?_
  go_wp2_with (go_at_call 20; refine (text_any ao n c l k u _ ((HR.out.below HW2.out).more (by omega)) HL.out (by omega) (fun x hx => ⟨(HE.out x hx).1, (HE.out x hx).2.1⟩) ⟨HF.out.1, HF.out.2.1⟩).mono ?_; rintro e w3 ⟨rfl, hb3⟩; rw [← HS.out]; refine Hid.out ?_)
  have hs3 := hb3.size
  have HW3 := Lib.hid (HW2.out.trans (hb3.mono (by omega)))
  have HV3 : Hid (Env (w3.heap.size + 1) (w3.alloc (.cells #[.string S, .string T] 9))) := ((HV.out.on HW3.out).on ((Below.refl _ _).alloc (by omega) _)).more (by omega)
  clear e0 e1 hb3
  refine Lib.hid ?_
  go_wp2
  go_loopw [30] (fun jv wr => ∃ j : Nat, j ≤ 2 ∧ jv = .int .i64 j ∧ Hid (Below (w3.heap.size + 1) (w3.alloc (.cells #[.string S, .string T] 9)) wr)) (fun jv _ => 2 - (intOf jv).toNat)
  case atStart => exact ⟨0, by omega, rfl, Below.refl _ _⟩
  case round =>
    obtain ⟨j, hj, rfl, HB⟩ := hrel
    have hsz := HB.out.size
    simp only [World.size_alloc] at hsz
    have HWr : Hid (Below w.heap.size w wr) := HW3.out.trans (((Below.refl _ _).alloc (Nat.le_refl _) _).trans (HB.out.mono (by omega)) |>.mono (by omega))
    by_cases hjl : j < 2
    · obtain ⟨t, ht, X, HX, q1⟩ : ∃ t : List UInt8, Hid (t.length ≤ 1073741824) ∧ ∃ X, Hid (X = str t) ∧ wr.cell? ⟨w3.heap.size, j, none⟩ = some (.string X) := by
        rw [HB.out.cell (p := ⟨w3.heap.size, j, none⟩) (by simp), (Blk.new w3 _ _).cell]
        rcases (by omega : j = 0 ∨ j = 1) with rfl | rfl
        · exact ⟨_, HLen.out.1, S, HS, rfl⟩
        · exact ⟨_, HLen.out.2, T, HT, rfl⟩
      have HE1 := Lib.hid ((HV3.out.on HB.out).more hsz)
      have HP := Lib.hid (parse_any t ht.out wr HE1.out)
      have HRf := Lib.hid (ref_any t ht.out)
      rw [← HX.out] at HP HRf
      go_wp2_with (go_at_call 21; refine HP.out.mono ?_; rintro e w4 ⟨v, l1, x1, f1, rfl, ho1, hr1, hb4⟩; refine Hid.out ?_)
      have hs4 := hb4.size
      obtain ⟨A1, c1, rfl⟩ := own_slice ho1
      obtain ⟨n1, hn1⟩ : ∃ n1, l1.length = n1 := ⟨_, rfl⟩
      rw [hn1] at ho1 ⊢
      obtain ⟨k1, u1⟩ := x1
      have HR1 : Hid (Reads (w4.alloc (.cells #[.int .i64 k1, .int .u64 u1] 38)) (w4.heap.size + 1) 2 A1 n1 (evc l1)) := ((Reads.of_own ho1).alloc (Nat.le_refl _) _).more (by omega)
      have HB4 : Hid (Below (w3.heap.size + 1) (w3.alloc (.cells #[.string S, .string T] 9)) (w4.alloc (.cells #[.int .i64 k1, .int .u64 u1] 38))) := (HB.out.trans (hb4.mono hsz)).alloc (by omega) _
      have HB4a : Hid (Below wr.heap.size wr (w4.alloc (.cells #[.int .i64 k1, .int .u64 u1] 38))) := hb4.alloc hs4 _
      have HI1 := Lib.hid hr1
      have HN1 := Lib.hid hn1
      clear ho1 hr1 hb4 hn1
      refine Lib.hid ?_
      go_wp2_with (go_at_call 22; refine (HRf.out _).mono ?_; rintro e w5 ⟨A2, n2, c2, l2, x2, ok, rfl, hl2, hr2, hf2, hb5⟩; refine Hid.out ?_)
      have hs5 := hb5.size
      simp only [World.size_alloc] at hs5 hb5
      obtain ⟨rfl, rfl, hcase⟩ := both_is HI1.out hf2
      have HR2 := Lib.hid hr2
      have HO : Hid (Below wr.heap.size wr w5) := (HB4a.out.trans (hb5.mono (by omega)))
      have HB5 : Hid (Below (w3.heap.size + 1) (w3.alloc (.cells #[.string S, .string T] 9)) (w5.alloc (.cells #[.int .i64 k1, .int .u64 u1] 38))) := (HB4.out.trans (hb5.mono (by omega))).alloc (by omega) _
      have y0 : (w5.alloc (.cells #[.int .i64 k1, .int .u64 u1] 38)).cell? ⟨w4.heap.size, 0, none⟩ = some (.int .i64 k1) := by rw [World.cell?_alloc_lt _ _ _ (by show w4.heap.size < w5.heap.size; omega), hb5.cell (p := ⟨w4.heap.size, 0, none⟩) (by simp), (Blk.new w4 _ _).cell]; rfl
      have y1 : (w5.alloc (.cells #[.int .i64 k1, .int .u64 u1] 38)).cell? ⟨w4.heap.size, 1, none⟩ = some (.int .u64 u1) := by rw [World.cell?_alloc_lt _ _ _ (by show w4.heap.size < w5.heap.size; omega), hb5.cell (p := ⟨w4.heap.size, 1, none⟩) (by simp), (Blk.new w4 _ _).cell]; rfl
      have y2 : (w5.alloc (.cells #[.int .i64 k1, .int .u64 u1] 38)).cell? ⟨w5.heap.size, 0, none⟩ = some (.int .i64 k1) := by rw [(Blk.new w5 _ _).cell]; rfl
      have y3 : (w5.alloc (.cells #[.int .i64 k1, .int .u64 u1] 38)).cell? ⟨w5.heap.size, 1, none⟩ = some (.int .u64 u1) := by rw [(Blk.new w5 _ _).cell]; rfl
      have heq : ∀ W, Sem.run Tryd.prog (Op.equalIn 10000 38 (.agg #[.int .i64 k1, .int .u64 u1]) (.agg #[.int .i64 k1, .int .u64 u1])) W = .ok true W := fun W => (equalIn_end (k1, u1) (k1, u1) W).trans (by simp)
      have hnl : n1 ≤ 1073741824 := by
        have h0 := HN1.out
        have h1 := ht.out
        rcases hcase with ⟨hr, _⟩ | ⟨_, _, hh⟩
        · have := (readL_print _ t (Nat.le_refl _) _ hr).2.2.2.2
          simp only at this
          omega
        · omega
      obtain rfl : n2 = n1 := hl2.symm.trans HN1.out
      have HSm : Hid (Calls Tryd.prog 14 #[.slice A1 n2 c1, .slice A2 n2 c2] (w5.alloc (.cells #[.int .i64 k1, .int .u64 u1] 38)) fun e w'' => e = .returned (.bool true) ∧ ∃ m, w'' = (w5.alloc (.cells #[.int .i64 k1, .int .u64 u1] 38)).drewN m) := by
        refine (refsame_any w5.heap.size A1 A2 n2 n2 c1 c2 l1 l1 _ (((HR1.out.below hb5).alloc hs5 _).more hs5) (HR2.out.alloc (Nat.le_refl _) _) HN1.out HN1.out (by unfold maxLen; omega) (by unfold maxLen; omega)).mono ?_
        rintro e w' ⟨rfl, q', rfl⟩
        exact ⟨by unfold sam; simp, q', rfl⟩
      have HR5 : Hid (Reads (w5.alloc (.cells #[.int .i64 k1, .int .u64 u1] 38)) (w5.heap.size + 1) 2 A1 n2 (evc l1)) := ((HR1.out.below hb5).alloc hs5 _).more (by omega)
      have HV5 : Hid (Env (w5.heap.size + 1) (w5.alloc (.cells #[.int .i64 k1, .int .u64 u1] 38))) := (HV3.out.on HB5.out).more (by omega)
      clear hr2 hb5 hl2 HR1 HR2 HB4a HI1 hf2
      rcases hcase with ⟨hr, rfl, rfl⟩ | ⟨rfl, rfl, _⟩
      · obtain ⟨p1, p2, p3, p4, _⟩ := readL_print _ t (Nat.le_refl _) _ hr
        simp only at p1 p2 p3 p4
        have HP1 := Lib.hid p1
        have HP2 := Lib.hid p2
        have HP3 := Lib.hid p3
        have HP4 := Lib.hid p4
        clear hr p1 p2 p3 p4
        refine Lib.hid ?_
        go_wp2_with (go_at_call 14; refine HSm.out.mono ?_; rintro e w6 ⟨rfl, q, rfl⟩; refine Hid.out ?_)
        have HB6 : Hid (Below (w3.heap.size + 1) (w3.alloc (.cells #[.string S, .string T] 9)) ((w5.alloc (.cells #[.int .i64 k1, .int .u64 u1] 38)).drewN q)) := below_drewN HB5.out q
        have HPr : Hid (Calls Tryd.prog 19 #[.slice A1 n2 c1, .agg #[.int .i64 k1, .int .u64 u1]] ((w5.alloc (.cells #[.int .i64 k1, .int .u64 u1] 38)).drewN q) fun e w' => e = .returned (.string X) ∧ Below (w3.heap.size + 1) (w3.alloc (.cells #[.string S, .string T] 9)) w') := by
          have htab := HV5.out.here.tab
          have hsz5 : w5.heap.size + 1 = (w5.alloc (.cells #[.int .i64 k1, .int .u64 u1] 38)).heap.size := by simp
          have hB (x : Nat) : TabB ((w5.alloc (.cells #[.int .i64 k1, .int .u64 u1] 38)).drewN q).heap.size ((w5.alloc (.cells #[.int .i64 k1, .int .u64 u1] 38)).drewN q) x :=
            (tabB_of htab x).on (below_drewN (Below.refl _ _) q)
          refine (print_any A1 n2 c1 l1 k1 u1 _ ((hsz5 ▸ HR5.out).drewN q) HN1.out (by omega) (fun x hx => ⟨(HP2.out x hx).1, (HP2.out x hx).2, hB _⟩) ⟨HP3.out, HP4.out, hB _⟩).mono ?_
          rintro e w' ⟨rfl, hb'⟩
          exact ⟨by rw [HP1.out, ← HX.out], HB6.out.trans (hb'.mono (by show w3.heap.size + 1 ≤ (w5.alloc _).heap.size; simp; omega))⟩
        refine Lib.hid ?_
        go_wp2_with (go_at_call 19; refine HPr.out.mono ?_; rintro e w7 ⟨rfl, hb7⟩; refine Hid.out ?_)
        have HB7 := Lib.hid hb7
        clear hb7
        refine Lib.hid ?_
        go_wp2
        go_roundw
        case rel => exact ⟨j + 1, by omega, by go_num, HB7⟩
        case measure => simp [intOf]; omega
      · refine Lib.hid ?_
        go_wp2_with (go_at_call 14; refine HSm.out.mono ?_; rintro e w6 ⟨rfl, q, rfl⟩; refine Hid.out ?_)
        refine Lib.hid ?_
        go_wp2
        go_roundw
        case rel => exact ⟨j + 1, by omega, by go_num, below_drewN HB5.out q⟩
        case measure => simp [intOf]; omega
    · obtain rfl : j = 2 := by omega
      go_wp2
      go_ret
      exact ⟨rfl, HWr.out⟩
end Go.Proofs.YtjmfbmnhkoeceaaDoor
