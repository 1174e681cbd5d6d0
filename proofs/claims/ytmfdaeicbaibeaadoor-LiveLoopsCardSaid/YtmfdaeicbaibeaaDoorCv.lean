/-
  Package ir: a graph's head.
-/
import Derived.Test.YtmfdaeicbaibeaaDoorCu
namespace Go.Proofs.YtmfdaeicbaibeaaDoor
set_option linter.unusedVariables false
set_option linter.unusedSimpArgs false
open Go.ChangeShapes Go.WideShapes Go.ChangeAt Go.RowKit

set_option maxHeartbeats 1600000 in
theorem index_eq (B : Nat) (A : Option Addr) (n c : Nat) (l : List Int) (v : Int) (w : World) (h : Reads w B 1 A n (i64c l)) (hn : l.length = n) (hnb : n ≤ 140737488351232) :
    Calls Tryd.prog 75 #[.slice A n c, .int .i64 v] w fun e w' => e = .returned (.int .i64 (ixOf (fun y => v == y) l)) ∧ w' = w := by
  have H := Lib.hid h
  have HN := Lib.hid hn
  clear h hn
  go_enter Tryd.func75, Tryd.ntmps75
  go_wp2
  go_loopw [8] (fun i wr => ∃ k : Nat, k ≤ n ∧ i = .int .i64 k ∧ Hid (∀ y ∈ l.take k, (v == y) = false) ∧ wr = w) (fun i _ => n - (intOf i).toNat)
  case atStart => exact ⟨0, Nat.zero_le _, rfl, Lib.hid (by simp), rfl⟩
  case round =>
    obtain ⟨k, hk, rfl, HB, rfl⟩ := hrel
    by_cases hlt : k < n
    · obtain ⟨b, off, x, rfl, hb, HX, x1⟩ := H.out.int hlt
      cases hf : (v == x)
      · have HQ := Lib.hid (take_mem_snoc (f := fun y => v == y) HX.out hf HB.out)
        go_wp2
        go_roundw
        case rel => exact ⟨k + 1, by omega, by go_num, HQ, by first | rfl | trivial⟩
        case measure => simp [intOf]; omega
      · have HQ := Lib.hid (ix_at (f := fun y => v == y) HX.out hf HB.out)
        go_wp2
        go_ret
        exact ⟨by rw [HQ.out]; rfl, by first | rfl | trivial⟩
    · obtain rfl : n = k := by omega
      have HQ := Lib.hid (ix_none (f := fun y => v == y) (l := l) (by have := HB.out; rwa [List.take_of_length_le (by rw [HN.out]; omega)] at this))
      go_wp2
      go_ret
      exact ⟨by rw [HQ.out]; rfl, by first | rfl | trivial⟩
theorem contains_eq (B : Nat) (A : Option Addr) (n c : Nat) (l : List Int) (v : Int) (w : World) (h : Reads w B 1 A n (i64c l)) (hn : l.length = n) (hnb : n ≤ 140737488351232) :
    Calls Tryd.prog 63 #[.slice A n c, .int .i64 v] w fun e w' => e = .returned (.bool (decide (v ∈ l))) ∧ w' = w := by
  have HI := Lib.hid (index_eq B A n c l v w h hn hnb)
  have HD : Hid (decide (ixOf (fun y => v == y) l ≥ 0) = decide (v ∈ l)) := Lib.hid (by
    rw [ix_nonneg, Bool.eq_iff_iff, List.any_eq_true, decide_eq_true_eq]
    constructor
    · rintro ⟨x, hx, he⟩
      have : v = x := by simpa using he
      rw [this]; exact hx
    · intro hv
      exact ⟨v, hv, by simp⟩)
  clear h hn
  obtain ⟨z, hz⟩ : ∃ z, z = ixOf (fun y => v == y) l := ⟨_, rfl⟩
  rw [← hz] at HI HD
  clear hz
  go_enter Tryd.func63, Tryd.ntmps63
  go_wp2_with (first | (go_at_call 75; refine HI.out.mono ?_; rintro e w2 ⟨rfl, rfl⟩))
  go_ret
  exact ⟨by rw [← HD.out]; rfl, by first | rfl | trivial⟩

theorem kindsHold_any (B : Nat) (A : Option Addr) (n c : Nat) (ks : List Int) (bd : Bool) (w : World) (h : Reads w B 1 A n (u8c ks)) (hn : ks.length = n) (hnb : n ≤ 140737488351232) :
    Calls Tryd.prog 76 #[.slice A n c, .bool bd] w fun e w' => e = .returned (.bool (decide (kindsHold ks bd))) ∧ w' = w := by
  have HC := Lib.hid (contains_kinds B A n c ks (fun k => k != 0 && k != 1) w h hn hnb fun p _ => kinds1_any p w)
  have HN := Lib.hid hn
  clear h hn
  by_cases c1 : n ≤ 1024
  rotate_left
  · have HD : Hid (decide (kindsHold ks bd) = false) := Lib.hid (by rw [decide_eq_false_iff_not]; rintro ⟨h, _⟩; rw [HN.out] at h; exact c1 h)
    have g : decide ((n : Int) > 1024) = true := by simp; omega
    clear c1
    go_enter Tryd.func76, Tryd.ntmps76
    go_wp2
    go_ret
    exact ⟨by rw [HD.out]; rfl, by first | rfl | trivial⟩
  have g : decide ((n : Int) > 1024) = false := by simp; omega
  have HE : (bd = true → 16 ≤ n) → Hid ((!(ks.any fun k => k != 0 && k != 1)) = decide (kindsHold ks bd)) := fun hb => Lib.hid (by
    rw [Bool.eq_iff_iff, decide_eq_true_eq]
    unfold kindsHold
    rw [HN.out]
    simp only [Bool.not_eq_true', List.any_eq_false, Bool.and_eq_true, bne_iff_ne, not_and]
    constructor
    · intro h
      refine ⟨c1, hb, fun k hk => ?_⟩
      by_cases h0 : k = 0
      · exact .inl h0
      · exact .inr (by simpa using h k hk h0)
    · rintro ⟨_, _, h⟩ k hk h0
      rcases h k hk with h1 | h1
      · exact absurd h1 h0
      · simpa using h1)
  cases bd
  · have HD := HE (by intro h; cases h)
    clear HE c1
    go_enter Tryd.func76, Tryd.ntmps76
    go_wp2_with (first | (go_at_call 84; refine HC.out.mono ?_; rintro e w2 ⟨rfl, rfl⟩))
    go_ret
    exact ⟨by rw [← HD.out]; rfl, by first | rfl | trivial⟩
  · by_cases c2 : 16 ≤ n
    rotate_left
    · have HD : Hid (decide (kindsHold ks true) = false) := Lib.hid (by rw [decide_eq_false_iff_not]; rintro ⟨_, h, _⟩; rw [HN.out] at h; exact c2 (h rfl))
      have g2 : decide ((n : Int) < 16) = true := by simp; omega
      clear c1 c2 HE
      go_enter Tryd.func76, Tryd.ntmps76
      go_wp2
      go_ret
      exact ⟨by rw [HD.out]; rfl, by first | rfl | trivial⟩
    · have HD := HE fun _ => c2
      have g2 : decide ((n : Int) < 16) = false := by simp; omega
      clear HE c1 c2
      go_enter Tryd.func76, Tryd.ntmps76
      go_wp2_with (first | (go_at_call 84; refine HC.out.mono ?_; rintro e w2 ⟨rfl, rfl⟩))
      go_ret
      exact ⟨by rw [← HD.out]; rfl, by first | rfl | trivial⟩

theorem Reads.upto {w : World} {B n k : Nat} {A : Option Addr} {l : List Int} (h : Reads w B 1 A n (i64c l)) (hk : k ≤ n) : Reads w B 1 A k (i64c (l.take k)) := by
  refine ⟨by rw [length_i64c, List.length_take]; have := h.1; rw [length_i64c] at this; omega, fun hn => ?_⟩
  obtain ⟨ad, rfl, hb, hc⟩ := h.2 (by omega)
  refine ⟨ad, rfl, hb, fun j u hu => hc j u ?_⟩
  unfold i64c at hu ⊢
  rw [List.map_take, List.getElem?_take] at hu
  split at hu
  · exact hu
  · cases hu
set_option maxRecDepth 100000 in
set_option maxHeartbeats 3200000 in
theorem paramsHold_any (B : Nat) (ps ks : List Int) (bd : Bool) (po ko io no : Option Addr) (nP pc nK kc nI ic nN nc : Nat) (cells keep entry : Int) (res : Bool) (w : World) (hp : Reads w B 1 po nP (i64c ps)) (hpl : ps.length = nP) (hpc : nP ≤ pc) (hnb : nP ≤ 140737488351232) (hkl : ks.length = nK) (hB : B ≤ w.heap.size) :
    Calls Tryd.prog 77 #[.agg #[.slice po nP pc, .slice ko nK kc, .int .i64 cells, .slice io nI ic, .bool res, .int .i64 keep, .slice no nN nc, .int .i64 entry], .bool bd] w fun e w' => e = .returned (.bool (decide (paramsHold ps ks bd))) ∧ Below w.heap.size w w' := by
  have HBL : Hid (Below w.heap.size w (w.alloc (.cells #[.slice po nP pc, .slice ko nK kc, .int .i64 cells, .slice io nI ic, .bool res, .int .i64 keep, .slice no nN nc, .int .i64 entry] 37))) := (Below.refl _ _).alloc (Nat.le_refl _) _
  have HBX : Hid (Blk (w.alloc (.cells #[.slice po nP pc, .slice ko nK kc, .int .i64 cells, .slice io nI ic, .bool res, .int .i64 keep, .slice no nN nc, .int .i64 entry] 37)) w.heap.size 37 #[.slice po nP pc, .slice ko nK kc, .int .i64 cells, .slice io nI ic, .bool res, .int .i64 keep, .slice no nN nc, .int .i64 entry]) := Blk.new w _ _
  have HP := Lib.hid (hp.below (HBL.out.mono hB))
  have HPL := Lib.hid hpl
  have HKL := Lib.hid hkl
  clear hp hpl hkl
  by_cases c1 : nP ≤ 4
  rotate_left
  · have HD : Hid (decide (paramsHold ps ks bd) = false) := Lib.hid (by rw [decide_eq_false_iff_not]; rintro ⟨h, _⟩; rw [HPL.out] at h; exact c1 h)
    have g : decide ((nP : Int) > 4) = true := by simp; omega
    clear c1
    go_enter Tryd.func77, Tryd.ntmps77
    go_wp2
    go_ret
    exact ⟨by rw [HD.out]; rfl, HBL.out⟩
  have g : decide ((nP : Int) > 4) = false := by simp; omega
  cases bd
  rotate_left
  · have HD : Hid (decide (inOrder ps) = decide (paramsHold ps ks true)) := Lib.hid (by
      rw [decide_eq_decide]
      unfold paramsHold
      rw [HPL.out, if_pos rfl]
      exact ⟨fun h => ⟨c1, h⟩, fun h => h.2⟩)
    clear c1
    go_enter Tryd.func77, Tryd.ntmps77
    go_wp2_with (first | (go_at_call 86; refine (inOrder_any B _ _ _ ps _ HP.out HPL.out (by omega)).mono ?_; rintro e w2 ⟨rfl, rfl⟩; rw [HD.out]))
    go_ret
    exact ⟨rfl, HBL.out⟩
  have HC1 := Lib.hid c1
  clear c1
  go_enter Tryd.func77, Tryd.ntmps77
  go_wp2
  go_loopw [18] (fun i wr => ∃ k : Nat, k ≤ nP ∧ i = .int .i64 k ∧ Hid (∀ j, j < k → isOne (ps.getD j 0) nK ∧ ps.getD j 0 ∉ ps.take j) ∧ wr = (w.alloc (.cells #[.slice po nP pc, .slice ko nK kc, .int .i64 cells, .slice io nI ic, .bool res, .int .i64 keep, .slice no nN nc, .int .i64 entry] 37))) (fun i _ => nP - (intOf i).toNat)
  case atStart => exact ⟨0, Nat.zero_le _, rfl, Lib.hid (by intro j hj; omega), rfl⟩
  case round =>
    obtain ⟨k, hk, rfl, HI, rfl⟩ := hrel
    by_cases hlt : k < nP
    · obtain ⟨b, off, x, rfl, hb, HX, x1⟩ := HP.out.int hlt
      have HG : Hid (ps.getD k 0 = x) := Lib.hid (by simp [List.getD, HX.out])
      have HU := Lib.hid (HP.out.upto (k := k) (by omega))
      have HUL : Hid ((ps.take k).length = k) := Lib.hid (by rw [List.length_take, HPL.out]; omega)
      by_cases c1 : isOne x nK
      rotate_left
      · have H1 : Hid (decide (isOne x nK) = false) := Lib.hid (decide_eq_false c1)
        have HD : Hid (decide (paramsHold ps ks false) = false) := Lib.hid (by
          rw [decide_eq_false_iff_not]
          rintro ⟨_, h⟩
          rw [if_neg (by simp)] at h
          have := (h k (by rw [HPL.out]; exact hlt)).1
          rw [HG.out, HKL.out] at this
          exact c1 this)
        clear c1
        go_wp2_with (first | (go_at_call 79; refine (isOne_any _ _ _).mono ?_; rintro e w2 ⟨rfl, rfl⟩; rw [H1.out]))
        go_ret
        exact ⟨by rw [HD.out]; rfl, HBL.out⟩
      have H1 : Hid (decide (isOne x nK) = true) := Lib.hid (decide_eq_true c1)
      by_cases c2 : x ∈ ps.take k
      · have H2 : Hid (decide (x ∈ ps.take k) = true) := Lib.hid (decide_eq_true c2)
        have HD : Hid (decide (paramsHold ps ks false) = false) := Lib.hid (by
          rw [decide_eq_false_iff_not]
          rintro ⟨_, h⟩
          rw [if_neg (by simp)] at h
          have := (h k (by rw [HPL.out]; exact hlt)).2
          rw [HG.out] at this
          exact this c2)
        clear c1 c2
        go_wp2_with (first
          | (go_at_call 79; refine (isOne_any _ _ _).mono ?_; rintro e w2 ⟨rfl, rfl⟩; rw [H1.out])
          | (go_at_call 63; refine (contains_eq B _ _ _ (ps.take k) x _ HU.out HUL.out (by omega)).mono ?_; rintro e w3 ⟨rfl, rfl⟩; rw [H2.out]))
        go_ret
        exact ⟨by rw [HD.out]; rfl, HBL.out⟩
      · have H2 : Hid (decide (x ∈ ps.take k) = false) := Lib.hid (decide_eq_false c2)
        have HI2 : Hid (∀ j, j < k + 1 → isOne (ps.getD j 0) nK ∧ ps.getD j 0 ∉ ps.take j) := Lib.hid (by
          intro j hj
          by_cases hjk : j < k
          · exact HI.out j hjk
          · obtain rfl : j = k := by omega
            rw [HG.out]
            exact ⟨c1, c2⟩)
        clear c1 c2
        go_wp2_with (first
          | (go_at_call 79; refine (isOne_any _ _ _).mono ?_; rintro e w2 ⟨rfl, rfl⟩; rw [H1.out])
          | (go_at_call 63; refine (contains_eq B _ _ _ (ps.take k) x _ HU.out HUL.out (by omega)).mono ?_; rintro e w3 ⟨rfl, rfl⟩; rw [H2.out]))
        go_roundw
        case rel => exact ⟨k + 1, by omega, by go_num, HI2, by first | rfl | trivial⟩
        case measure => simp [intOf]; omega
    · obtain rfl : nP = k := by omega
      have HD : Hid (decide (paramsHold ps ks false) = true) := Lib.hid (by
        rw [decide_eq_true_eq]
        refine ⟨by rw [HPL.out]; exact HC1.out, ?_⟩
        rw [if_neg (by simp), HPL.out, HKL.out]
        exact HI.out)
      go_wp2
      go_ret
      exact ⟨by rw [HD.out]; rfl, HBL.out⟩

set_option maxRecDepth 100000 in
set_option maxHeartbeats 3200000 in
theorem initHolds_any (B : Nat) (ps ks is : List Int) (bd : Bool) (po ko io no : Option Addr) (nP pc nK kc nI ic nN nc : Nat) (cells keep entry : Int) (res : Bool) (w : World) (hp : Reads w B 1 po nP (i64c ps)) (hpl : ps.length = nP) (hk : Reads w B 1 ko nK (u8c ks)) (hkl : ks.length = nK) (hi : Reads w B 1 io nI (i64c is)) (hil : is.length = nI) (hnb : nI ≤ 140737488351232) (hB : B ≤ w.heap.size)
    (hph : paramsHold ps ks bd) :
    Calls Tryd.prog 78 #[.agg #[.slice po nP pc, .slice ko nK kc, .int .i64 cells, .slice io nI ic, .bool res, .int .i64 keep, .slice no nN nc, .int .i64 entry], .bool bd] w fun e w' => e = .returned (.bool (decide (initHolds ps ks is cells bd))) ∧ Below w.heap.size w w' := by
  have HBL : Hid (Below w.heap.size w (w.alloc (.cells #[.slice po nP pc, .slice ko nK kc, .int .i64 cells, .slice io nI ic, .bool res, .int .i64 keep, .slice no nN nc, .int .i64 entry] 37))) := (Below.refl _ _).alloc (Nat.le_refl _) _
  have HBX : Hid (Blk (w.alloc (.cells #[.slice po nP pc, .slice ko nK kc, .int .i64 cells, .slice io nI ic, .bool res, .int .i64 keep, .slice no nN nc, .int .i64 entry] 37)) w.heap.size 37 #[.slice po nP pc, .slice ko nK kc, .int .i64 cells, .slice io nI ic, .bool res, .int .i64 keep, .slice no nN nc, .int .i64 entry]) := Blk.new w _ _
  have HP := Lib.hid (hp.below (HBL.out.mono hB))
  have HK := Lib.hid (hk.below (HBL.out.mono hB))
  have HIN := Lib.hid (hi.below (HBL.out.mono hB))
  have HPL := Lib.hid hpl
  have HKL := Lib.hid hkl
  have HIL := Lib.hid hil
  have HPH := Lib.hid hph
  clear hp hpl hk hkl hi hil hph
  by_cases c1 : nI = nP
  rotate_left
  · have HD : Hid (decide (initHolds ps ks is cells bd) = false) := Lib.hid (by rw [decide_eq_false_iff_not]; rintro ⟨h, _⟩; rw [HPL.out, HIL.out] at h; exact c1 h)
    have g : ((nI : Int) != (nP : Int)) = true := by rw [bne_iff_ne]; omega
    clear c1
    go_enter Tryd.func78, Tryd.ntmps78
    go_wp2
    go_ret
    exact ⟨by rw [HD.out]; rfl, HBL.out⟩
  subst c1
  have g : ((nI : Int) != (nI : Int)) = false := by simp
  have HBX2 : Hid (Blk (w.alloc (.cells #[.slice po nI pc, .slice ko nK kc, .int .i64 cells, .slice io nI ic, .bool res, .int .i64 keep, .slice no nN nc, .int .i64 entry] 37)) w.heap.size 37 #[.slice po nI pc, .slice ko nK kc, .int .i64 cells, .slice io nI ic, .bool res, .int .i64 keep, .slice no nN nc, .int .i64 entry]) := HBX
  obtain ⟨W1, HW1⟩ : ∃ W, Hid (W = (w.alloc (.cells #[.slice po nI pc, .slice ko nK kc, .int .i64 cells, .slice io nI ic, .bool res, .int .i64 keep, .slice no nN nc, .int .i64 entry] 37))) := ⟨_, rfl⟩
  go_enter Tryd.func78, Tryd.ntmps78
  go_wp2
  rw [← HW1.out] at HBX HBX2 HBL HP HK HIN ⊢
  go_loopw [17] (fun i wr => ∃ k q : Nat, k ≤ nI ∧ i = .int .i64 k ∧ Hid (∀ j, j < k → is.getD j 0 = -1 ∨ isOne (is.getD j 0) cells ∧ (bd = true ∨ kindAt ks (ps.getD j 0) = 0)) ∧ wr = W1.drewN q) (fun i _ => nI - (intOf i).toNat)
  case atStart => exact ⟨0, 0, Nat.zero_le _, rfl, Lib.hid (by intro j hj; omega), rfl⟩
  case round =>
    obtain ⟨k, q, hkk, rfl, HI, hwr⟩ := hrel
    have HWR := Lib.hid hwr
    have HBXr : Hid (Blk wr w.heap.size 37 #[.slice po nI pc, .slice ko nK kc, .int .i64 cells, .slice io nI ic, .bool res, .int .i64 keep, .slice no nN nc, .int .i64 entry]) := Lib.hid (by rw [hwr]; exact HBX.out.drewN q)
    have HINr : Hid (Reads wr B 1 io nI (i64c is)) := Lib.hid (by rw [hwr]; exact HIN.out.drewN q)
    have HPr : Hid (Reads wr B 1 po nI (i64c ps)) := Lib.hid (by rw [hwr]; exact HP.out.drewN q)
    have HKr : Hid (Reads wr B 1 ko nK (u8c ks)) := Lib.hid (by rw [hwr]; exact HK.out.drewN q)
    have HBLr : Hid (Below w.heap.size w wr) := Lib.hid (by rw [hwr]; exact below_drewN HBL.out q)
    clear hwr
    have d0 : wr.cell? ⟨w.heap.size, 0, none⟩ = some (.slice po nI pc) := HBXr.out.cell 0
    have d1 : wr.cell? ⟨w.heap.size, 1, none⟩ = some (.slice ko nK kc) := HBXr.out.cell 1
    have d2 : wr.cell? ⟨w.heap.size, 2, none⟩ = some (.int .i64 cells) := HBXr.out.cell 2
    by_cases hlt : k < nI
    · obtain ⟨b, off, x, rfl, hb, HX, x1⟩ := HINr.out.int hlt
      have HG : Hid (is.getD k 0 = x) := Lib.hid (by simp [List.getD, HX.out])
      have hfalse : ¬ (x = -1 ∨ isOne x cells ∧ (bd = true ∨ kindAt ks (ps.getD k 0) = 0)) → Hid (decide (initHolds ps ks is cells bd) = false) := fun hn => Lib.hid (by
        rw [decide_eq_false_iff_not]
        rintro ⟨_, h⟩
        have := h k (by rw [HIL.out]; exact hlt)
        rw [HG.out] at this
        exact hn this)
      have htrue : (x = -1 ∨ isOne x cells ∧ (bd = true ∨ kindAt ks (ps.getD k 0) = 0)) → Hid (∀ j, j < k + 1 → is.getD j 0 = -1 ∨ isOne (is.getD j 0) cells ∧ (bd = true ∨ kindAt ks (ps.getD j 0) = 0)) := fun hy => Lib.hid (by
        intro j hj
        by_cases hjk : j < k
        · exact HI.out j hjk
        · obtain rfl : j = k := by omega
          rw [HG.out]
          exact hy)
      by_cases c1 : x = -1
      · have g1 : (x == -1) = true := by simpa using c1
        have HI2 := htrue (.inl c1)
        clear hfalse htrue c1
        go_wp2
        go_roundw
        case rel => exact ⟨k + 1, q, by omega, by go_num, HI2, HWR.out⟩
        case measure => simp [intOf]; omega
      have g1 : (x == -1) = false := by simpa using c1
      by_cases c2 : isOne x cells
      rotate_left
      · have HC : ∀ W, Calls Tryd.prog 79 #[.int .i64 x, .int .i64 cells] W fun e w' => e = .returned (.bool false) ∧ w' = W := fun W => (isOne_any x cells W).mono fun e w' ⟨h1, h2⟩ => ⟨by rw [h1, decide_eq_false c2], h2⟩
        have HD := hfalse (by rintro (h | ⟨h, _⟩); exact c1 h; exact c2 h)
        clear hfalse htrue c1 c2
        go_wp2
        go_quiet ((go_at_call 79; exact Calls.quiet_of_same (HC _)))
        go_wp2
        go_ret
        exact ⟨by rw [HD.out]; rfl, below_drewN HBLr.out _⟩
      have HC : ∀ W, Calls Tryd.prog 79 #[.int .i64 x, .int .i64 cells] W fun e w' => e = .returned (.bool true) ∧ w' = W := fun W => (isOne_any x cells W).mono fun e w' ⟨h1, h2⟩ => ⟨by rw [h1, decide_eq_true c2], h2⟩
      cases bd
      rotate_left
      · have HI2 := htrue (.inr ⟨c2, .inl rfl⟩)
        clear hfalse htrue c1 c2
        go_wp2
        go_quiet ((go_at_call 79; exact Calls.quiet_of_same (HC _)))
        go_wp2
        go_roundw
        case rel => exact ⟨k + 1, q + nq, by omega, by go_num, HI2, by rw [HWR.out, World.drewN_drewN]⟩
        case measure => simp [intOf]; omega
      · obtain ⟨bp, op2, z, rfl, hbp, HXP, p1⟩ := HPr.out.int hlt
        have hzo : isOne z nK := by
          have h1 := HPH.out.2
          rw [if_neg (by simp)] at h1
          have h2 := (h1 k (by rw [HPL.out]; exact hlt)).1
          rwa [show ps.getD k 0 = z by simp [List.getD, HXP.out], HKL.out] at h2
        obtain ⟨m, rfl⟩ : ∃ m : Nat, z = (m : Int) := ⟨z.toNat, by have := hzo.1; omega⟩
        have hm : m < nK := by have := hzo.2; omega
        obtain ⟨bk, ok, y, rfl, hbk, HXK, k1⟩ := HKr.out.byte hm
        have hka : kindAt ks (ps.getD k 0) = y := by
          rw [show ps.getD k 0 = (m : Int) by simp [List.getD, HXP.out]]
          simp [kindAt, List.getD, HXK.out]
        rw [hka] at hfalse htrue
        by_cases c3 : y = 0
        · have g3 : (y != 0) = false := by simpa using c3
          have HI2 := htrue (.inr ⟨c2, .inr c3⟩)
          clear hfalse htrue c1 c2 c3 hka hzo
          go_wp2
          go_quiet ((go_at_call 79; exact Calls.quiet_of_same (HC _)))
          go_wp2
          go_roundw
          case rel => exact ⟨k + 1, q + nq, by omega, by go_num, HI2, by rw [HWR.out, World.drewN_drewN]⟩
          case measure => simp [intOf]; omega
        · have g3 : (y != 0) = true := by simpa using c3
          have HD := hfalse (by
            rintro (h | ⟨_, h | h⟩)
            · exact c1 h
            · cases h
            · exact c3 h)
          clear hfalse htrue c1 c2 c3 hka hzo
          go_wp2
          go_quiet ((go_at_call 79; exact Calls.quiet_of_same (HC _)))
          go_wp2
          go_ret
          exact ⟨by rw [HD.out]; rfl, below_drewN HBLr.out _⟩
    · obtain rfl : nI = k := by omega
      have HD : Hid (decide (initHolds ps ks is cells bd) = true) := Lib.hid (by
        rw [decide_eq_true_eq]
        refine ⟨by rw [HPL.out, HIL.out], ?_⟩
        rw [HIL.out]
        exact HI.out)
      go_wp2
      go_ret
      exact ⟨by rw [HD.out]; rfl, HBLr.out⟩
end Go.Proofs.YtmfdaeicbaibeaaDoor
