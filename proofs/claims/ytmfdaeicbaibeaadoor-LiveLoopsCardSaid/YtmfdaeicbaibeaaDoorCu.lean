/-
  Package ir: what a node hands, gets, returns.
-/
import Derived.Test.YtmfdaeicbaibeaaDoorCk
import Derived.BigQuiet
namespace Go.Proofs.YtmfdaeicbaibeaaDoor
set_option linter.unusedVariables false
set_option linter.unusedSimpArgs false
open Go.ChangeShapes Go.WideShapes Go.ChangeAt Go.RowKit

theorem inOrder_any (B : Nat) (A : Option Addr) (n c : Nat) (l : List Int) (w : World) (h : Reads w B 1 A n (i64c l)) (hn : l.length = n) (hnb : n ≤ 140737488351232) :
    Calls Tryd.prog 86 #[.slice A n c] w fun e w' => e = .returned (.bool (decide (inOrder l))) ∧ w' = w := by
  have H := Lib.hid h
  have HN := Lib.hid hn
  clear h hn
  go_enter Tryd.func86, Tryd.ntmps86
  go_wp2
  go_loopw [7] (fun i wr => ∃ k : Nat, k ≤ n ∧ i = .int .i64 k ∧ Hid (∀ j, j < k → l.getD j 0 = (j : Int)) ∧ wr = w) (fun i _ => n - (intOf i).toNat)
  case atStart => exact ⟨0, Nat.zero_le _, rfl, Lib.hid (by intro j hj; omega), rfl⟩
  case round =>
    obtain ⟨k, hk, rfl, HP, rfl⟩ := hrel
    by_cases hlt : k < n
    · obtain ⟨b, off, y, rfl, hb, HX, x1⟩ := H.out.int hlt
      have HG : Hid (l.getD k 0 = y) := Lib.hid (by simp [List.getD, HX.out])
      by_cases hxy : y = k
      · have hd : (y != (k : Int)) = false := by simpa using hxy
        have HQ : Hid (∀ j, j < k + 1 → l.getD j 0 = (j : Int)) := Lib.hid (by
          intro j hj
          by_cases hjk : j < k
          · exact HP.out j hjk
          · obtain rfl : j = k := by omega
            rw [HG.out, hxy])
        clear hxy
        go_wp2
        go_roundw
        case rel => exact ⟨k + 1, by omega, by go_num, HQ, by first | rfl | trivial⟩
        case measure => simp [intOf]; omega
      · have hd : (y != (k : Int)) = true := by simpa using hxy
        have HR : Hid (decide (inOrder l) = false) := Lib.hid (by
          rw [decide_eq_false_iff_not]
          intro hh
          exact hxy (by rw [← HG.out]; exact hh k (by rw [HN.out]; exact hlt)))
        clear hxy
        go_wp2
        go_ret
        exact ⟨by rw [HR.out]; rfl, by first | rfl | trivial⟩
    · obtain rfl : n = k := by omega
      have HR : Hid (decide (inOrder l) = true) := Lib.hid (by rw [decide_eq_true_eq]; intro j hj; exact HP.out j (by rw [← HN.out]; exact hj))
      go_wp2
      go_ret
      exact ⟨by rw [HR.out]; rfl, by first | rfl | trivial⟩

/-- are, at places that are laid for it -/
theorem are_lit (B p : Nat) (l : List Int) (n : Nat) (ks : List Int) (k : Int) (fo : Option Addr) (nF cF : Nat) (po ko io no : Option Addr) (nP pc nK kc nI ic nN nc : Nat) (cells keep entry : Int) (res bd : Bool) (w1 W : World) (hn : l.length = n) (hn4 : n ≤ 4) (hk : Reads w1 B 1 ko nK (u8c ks)) (hkl : ks.length = nK) (hB : B ≤ w1.heap.size) (hp : p = w1.heap.size)
    (hW : W = w1.alloc (.cells (i64c l).toArray 3) ∨ W = (w1.alloc (.cells (i64c l).toArray 3)).drew) :
    Calls Tryd.prog 87 #[.agg #[.slice fo nF cF, .slice po nP pc, .slice ko nK kc, .int .i64 cells, .slice io nI ic, .bool res, .int .i64 keep, .slice no nN nc, .int .i64 entry, .bool bd], .int .u8 k, .slice (some ⟨p, 0, none⟩) n n] W fun e w' => e = .returned (.bool (decide (∀ p ∈ l, fits ks bd p k))) ∧ Below w1.heap.size w1 w' := by
  subst hp
  have hr := lit_reads w1 3 (i64c l) n (by rw [length_i64c, hn])
  have h2 : Below w1.heap.size w1 (w1.alloc (.cells (i64c l).toArray 3)) := (Below.refl _ _).alloc (Nat.le_refl _) _
  rcases hW with rfl | rfl
  · refine (are_any (w1.heap.size + 1) _ n n l ks k fo nF cF po ko io no nP pc nK kc nI ic nN nc cells keep entry res bd _ hr hn (by omega) ((hk.below (h2.mono hB)).more (by omega)) hkl (by simp)).mono ?_
    rintro e w' ⟨rfl, h3⟩
    exact ⟨rfl, h2.trans (h3.mono (by simp))⟩
  · refine (are_any (w1.heap.size + 1) _ n n l ks k fo nF cF po ko io no nP pc nK kc nI ic nN nc cells keep entry res bd _ hr.drew hn (by omega) ((hk.below (h2.mono hB)).more (by omega)).drew hkl (by simp)).mono ?_
    rintro e w' ⟨rfl, h3⟩
    exact ⟨rfl, (below_drewN h2 1).trans (h3.mono (by simp))⟩
/-- .. and exist -/
theorem exist_lit (p : Nat) (l : List Int) (n : Nat) (fo : Option Addr) (nF cF : Nat) (po ko io no : Option Addr) (nP pc nK kc nI ic nN nc : Nat) (cells keep entry : Int) (res bd : Bool) (w1 W : World) (hn : l.length = n) (hn4 : n ≤ 4) (hp : p = w1.heap.size)
    (hW : W = w1.alloc (.cells (i64c l).toArray 3) ∨ W = (w1.alloc (.cells (i64c l).toArray 3)).drew) :
    Calls Tryd.prog 88 #[.agg #[.slice fo nF cF, .slice po nP pc, .slice ko nK kc, .int .i64 cells, .slice io nI ic, .bool res, .int .i64 keep, .slice no nN nc, .int .i64 entry, .bool bd], .slice (some ⟨p, 0, none⟩) n n] W fun e w' => e = .returned (.bool (decide (∀ p ∈ l, isOne p nK))) ∧ Below w1.heap.size w1 w' := by
  subst hp
  have hr := lit_reads w1 3 (i64c l) n (by rw [length_i64c, hn])
  have h2 : Below w1.heap.size w1 (w1.alloc (.cells (i64c l).toArray 3)) := (Below.refl _ _).alloc (Nat.le_refl _) _
  rcases hW with rfl | rfl
  · refine (exist_any (w1.heap.size + 1) _ n n l fo nF cF po ko io no nP pc nK kc nI ic nN nc cells keep entry res bd _ hr hn (by omega) (by simp)).mono ?_
    rintro e w' ⟨rfl, h3⟩
    exact ⟨rfl, h2.trans (h3.mono (by simp))⟩
  · refine (exist_any (w1.heap.size + 1) _ n n l fo nF cF po ko io no nP pc nK kc nI ic nN nc cells keep entry res bd _ hr.drew hn (by omega) (by simp)).mono ?_
    rintro e w' ⟨rfl, h3⟩
    exact ⟨rfl, (below_drewN h2 1).trans (h3.mono (by simp))⟩
theorem all_one (Q : Int → Prop) [DecidablePred Q] (x : Int) : decide (∀ p ∈ [x], Q p) = decide (Q x) := by rw [decide_eq_decide]; simp

def retHolds (ks : List Int) (bd res : Bool) (a : Int) : Prop := if res = true then fits ks bd a 0 else a = -1
instance (ks : List Int) (bd res : Bool) (a : Int) : Decidable (retHolds ks bd res a) := by unfold retHolds; infer_instance
set_option maxRecDepth 100000 in
theorem hasCell_any (fo : Option Addr) (nF cF : Nat) (po ko io no : Option Addr) (nP pc nK kc nI ic nN nc : Nat) (cells keep entry : Int) (res bd : Bool) (op bop d e a b f cell imm : Int) (args : List Int) (nx el : Int) (ao : Option Addr) (nA ac : Nat) (w : World) :
    Calls Tryd.prog 89 #[.agg #[.slice fo nF cF, .slice po nP pc, .slice ko nK kc, .int .i64 cells, .slice io nI ic, .bool res, .int .i64 keep, .slice no nN nc, .int .i64 entry, .bool bd], .agg #[.int .u8 op, .int .u8 bop, .int .i64 d, .int .i64 e, .int .i64 a, .int .i64 b, .int .i64 f, .int .i64 cell, .int .u64 imm, .slice ao nA ac, .int .i64 nx, .int .i64 el]] w fun e w' => e = .returned (.bool (decide (isOne cell cells))) ∧ Below w.heap.size w w' := by
  have HB2 : Hid (Below w.heap.size w ((w.alloc (.cells #[.slice fo nF cF, .slice po nP pc, .slice ko nK kc, .int .i64 cells, .slice io nI ic, .bool res, .int .i64 keep, .slice no nN nc, .int .i64 entry, .bool bd] 120)).alloc (.cells #[.int .u8 op, .int .u8 bop, .int .i64 d, .int .i64 e, .int .i64 a, .int .i64 b, .int .i64 f, .int .i64 cell, .int .u64 imm, .slice ao nA ac, .int .i64 nx, .int .i64 el] 64))) := ((Below.refl _ _).alloc (Nat.le_refl _) _).alloc (by simp) _
  have HCB : Hid (Blk ((w.alloc (.cells #[.slice fo nF cF, .slice po nP pc, .slice ko nK kc, .int .i64 cells, .slice io nI ic, .bool res, .int .i64 keep, .slice no nN nc, .int .i64 entry, .bool bd] 120)).alloc (.cells #[.int .u8 op, .int .u8 bop, .int .i64 d, .int .i64 e, .int .i64 a, .int .i64 b, .int .i64 f, .int .i64 cell, .int .u64 imm, .slice ao nA ac, .int .i64 nx, .int .i64 el] 64)) w.heap.size 120 #[.slice fo nF cF, .slice po nP pc, .slice ko nK kc, .int .i64 cells, .slice io nI ic, .bool res, .int .i64 keep, .slice no nN nc, .int .i64 entry, .bool bd]) := Lib.hid ((Blk.new w 120 #[.slice fo nF cF, .slice po nP pc, .slice ko nK kc, .int .i64 cells, .slice io nI ic, .bool res, .int .i64 keep, .slice no nN nc, .int .i64 entry, .bool bd]).alloc _)
  have HNB : Hid (Blk ((w.alloc (.cells #[.slice fo nF cF, .slice po nP pc, .slice ko nK kc, .int .i64 cells, .slice io nI ic, .bool res, .int .i64 keep, .slice no nN nc, .int .i64 entry, .bool bd] 120)).alloc (.cells #[.int .u8 op, .int .u8 bop, .int .i64 d, .int .i64 e, .int .i64 a, .int .i64 b, .int .i64 f, .int .i64 cell, .int .u64 imm, .slice ao nA ac, .int .i64 nx, .int .i64 el] 64)) (w.heap.size + 1) 64 #[.int .u8 op, .int .u8 bop, .int .i64 d, .int .i64 e, .int .i64 a, .int .i64 b, .int .i64 f, .int .i64 cell, .int .u64 imm, .slice ao nA ac, .int .i64 nx, .int .i64 el]) := Lib.hid (by
    have := Blk.new (w.alloc (.cells #[.slice fo nF cF, .slice po nP pc, .slice ko nK kc, .int .i64 cells, .slice io nI ic, .bool res, .int .i64 keep, .slice no nN nc, .int .i64 entry, .bool bd] 120)) 64 #[.int .u8 op, .int .u8 bop, .int .i64 d, .int .i64 e, .int .i64 a, .int .i64 b, .int .i64 f, .int .i64 cell, .int .u64 imm, .slice ao nA ac, .int .i64 nx, .int .i64 el]
    rwa [show (w.alloc (.cells #[.slice fo nF cF, .slice po nP pc, .slice ko nK kc, .int .i64 cells, .slice io nI ic, .bool res, .int .i64 keep, .slice no nN nc, .int .i64 entry, .bool bd] 120)).heap.size = w.heap.size + 1 by simp] at this)
  go_enter Tryd.func89, Tryd.ntmps89
  go_wp2_with (first | (go_at_call 79; refine (isOne_any _ _ _).mono ?_; rintro e w2 ⟨rfl, rfl⟩))
  go_ret
  exact ⟨rfl, HB2.out⟩

set_option maxRecDepth 100000 in
set_option maxHeartbeats 1600000 in
theorem returns_any (B : Nat) (ks : List Int) (fo : Option Addr) (nF cF : Nat) (po ko io no : Option Addr) (nP pc nK kc nI ic nN nc : Nat) (cells keep entry : Int) (res bd : Bool) (op bop d e a b f cell imm : Int) (args : List Int) (nx el : Int) (ao : Option Addr) (nA ac : Nat) (w : World) (hk : Reads w B 1 ko nK (u8c ks)) (hkl : ks.length = nK) (hB : B ≤ w.heap.size) :
    Calls Tryd.prog 92 #[.agg #[.slice fo nF cF, .slice po nP pc, .slice ko nK kc, .int .i64 cells, .slice io nI ic, .bool res, .int .i64 keep, .slice no nN nc, .int .i64 entry, .bool bd], .agg #[.int .u8 op, .int .u8 bop, .int .i64 d, .int .i64 e, .int .i64 a, .int .i64 b, .int .i64 f, .int .i64 cell, .int .u64 imm, .slice ao nA ac, .int .i64 nx, .int .i64 el]] w fun e w' => e = .returned (.bool (decide (retHolds ks bd res a))) ∧ Below w.heap.size w w' := by
  have HB2 : Hid (Below w.heap.size w ((w.alloc (.cells #[.slice fo nF cF, .slice po nP pc, .slice ko nK kc, .int .i64 cells, .slice io nI ic, .bool res, .int .i64 keep, .slice no nN nc, .int .i64 entry, .bool bd] 120)).alloc (.cells #[.int .u8 op, .int .u8 bop, .int .i64 d, .int .i64 e, .int .i64 a, .int .i64 b, .int .i64 f, .int .i64 cell, .int .u64 imm, .slice ao nA ac, .int .i64 nx, .int .i64 el] 64))) := ((Below.refl _ _).alloc (Nat.le_refl _) _).alloc (by simp) _
  have HCB : Hid (Blk ((w.alloc (.cells #[.slice fo nF cF, .slice po nP pc, .slice ko nK kc, .int .i64 cells, .slice io nI ic, .bool res, .int .i64 keep, .slice no nN nc, .int .i64 entry, .bool bd] 120)).alloc (.cells #[.int .u8 op, .int .u8 bop, .int .i64 d, .int .i64 e, .int .i64 a, .int .i64 b, .int .i64 f, .int .i64 cell, .int .u64 imm, .slice ao nA ac, .int .i64 nx, .int .i64 el] 64)) w.heap.size 120 #[.slice fo nF cF, .slice po nP pc, .slice ko nK kc, .int .i64 cells, .slice io nI ic, .bool res, .int .i64 keep, .slice no nN nc, .int .i64 entry, .bool bd]) := Lib.hid ((Blk.new w 120 #[.slice fo nF cF, .slice po nP pc, .slice ko nK kc, .int .i64 cells, .slice io nI ic, .bool res, .int .i64 keep, .slice no nN nc, .int .i64 entry, .bool bd]).alloc _)
  have HNB : Hid (Blk ((w.alloc (.cells #[.slice fo nF cF, .slice po nP pc, .slice ko nK kc, .int .i64 cells, .slice io nI ic, .bool res, .int .i64 keep, .slice no nN nc, .int .i64 entry, .bool bd] 120)).alloc (.cells #[.int .u8 op, .int .u8 bop, .int .i64 d, .int .i64 e, .int .i64 a, .int .i64 b, .int .i64 f, .int .i64 cell, .int .u64 imm, .slice ao nA ac, .int .i64 nx, .int .i64 el] 64)) (w.heap.size + 1) 64 #[.int .u8 op, .int .u8 bop, .int .i64 d, .int .i64 e, .int .i64 a, .int .i64 b, .int .i64 f, .int .i64 cell, .int .u64 imm, .slice ao nA ac, .int .i64 nx, .int .i64 el]) := Lib.hid (by
    have := Blk.new (w.alloc (.cells #[.slice fo nF cF, .slice po nP pc, .slice ko nK kc, .int .i64 cells, .slice io nI ic, .bool res, .int .i64 keep, .slice no nN nc, .int .i64 entry, .bool bd] 120)) 64 #[.int .u8 op, .int .u8 bop, .int .i64 d, .int .i64 e, .int .i64 a, .int .i64 b, .int .i64 f, .int .i64 cell, .int .u64 imm, .slice ao nA ac, .int .i64 nx, .int .i64 el]
    rwa [show (w.alloc (.cells #[.slice fo nF cF, .slice po nP pc, .slice ko nK kc, .int .i64 cells, .slice io nI ic, .bool res, .int .i64 keep, .slice no nN nc, .int .i64 entry, .bool bd] 120)).heap.size = w.heap.size + 1 by simp] at this)
  have HK := Lib.hid (hk.below (HB2.out.mono hB))
  have HKL := Lib.hid hkl
  clear hk hkl
  have HZ2 : Hid (w.heap.size + 1 + 1 = ((w.alloc (.cells #[.slice fo nF cF, .slice po nP pc, .slice ko nK kc, .int .i64 cells, .slice io nI ic, .bool res, .int .i64 keep, .slice no nN nc, .int .i64 entry, .bool bd] 120)).alloc (.cells #[.int .u8 op, .int .u8 bop, .int .i64 d, .int .i64 e, .int .i64 a, .int .i64 b, .int .i64 f, .int .i64 cell, .int .u64 imm, .slice ao nA ac, .int .i64 nx, .int .i64 el] 64)).heap.size) := Lib.hid (by simp)
  have hB2 : B ≤ ((w.alloc (.cells #[.slice fo nF cF, .slice po nP pc, .slice ko nK kc, .int .i64 cells, .slice io nI ic, .bool res, .int .i64 keep, .slice no nN nc, .int .i64 entry, .bool bd] 120)).alloc (.cells #[.int .u8 op, .int .u8 bop, .int .i64 d, .int .i64 e, .int .i64 a, .int .i64 b, .int .i64 f, .int .i64 cell, .int .u64 imm, .slice ao nA ac, .int .i64 nx, .int .i64 el] 64)).heap.size := by simp; omega
  cases res
  · have HD : Hid (decide (retHolds ks bd false a) = (a == -1)) := Lib.hid (by rw [Bool.eq_iff_iff, decide_eq_true_eq]; unfold retHolds; simp)
    go_enter Tryd.func92, Tryd.ntmps92
    go_wp2
    go_ret
    exact ⟨by rw [HD.out]; rfl, HB2.out⟩
  · have HD : Hid (decide (∀ p ∈ [a], fits ks bd p 0) = decide (retHolds ks bd true a)) := Lib.hid (by rw [all_one (fun p => fits ks bd p 0), decide_eq_decide]; unfold retHolds; simp)
    go_enter Tryd.func92, Tryd.ntmps92
    go_wp2_with (first | (go_at_call 87; refine (are_lit B _ [a] 1 ks 0 _ _ _ _ _ _ _ _ _ _ _ _ _ _ _ _ _ _ _ _ _ _ rfl (by omega) HK.out HKL.out hB2 HZ2.out (by first | exact .inl rfl | exact .inr rfl)).mono ?_; rintro ee w3 ⟨rfl, hb3⟩; have HB3 := Lib.hid hb3; clear hb3; rw [HD.out]))
    go_ret
    exact ⟨rfl, HB2.out.trans (HB3.out.mono (by simp; omega))⟩

theorem grAt_of {rs : List RG} {j : Nat} {r : RG} (h : rs[j]? = some r) : grAt (grs rs) j = r.gr := by
  unfold grAt grs
  simp [List.getD, h]
set_option maxRecDepth 100000 in
set_option maxHeartbeats 3200000 in
theorem gets_any (B : Nat) (rs : List RG) (ps ks is : List Int) (nodes : List Nd) (fo : Option Addr) (nF cF : Nat) (po ko io no : Option Addr) (nP pc nK kc nI ic nN nc : Nat) (cells keep entry : Int) (res bd : Bool) (op bop d e a b f cell imm : Int) (args : List Int) (nx el : Int) (ao : Option Addr) (nA ac : Nat) (w : World) (HF0 : RdP w B fo nF rs) (hf : isOne f nF) (hk : Reads w B 1 ko nK (u8c ks)) (hkl : ks.length = nK) (hB : B ≤ w.heap.size) :
    Calls Tryd.prog 91 #[.agg #[.slice fo nF cF, .slice po nP pc, .slice ko nK kc, .int .i64 cells, .slice io nI ic, .bool res, .int .i64 keep, .slice no nN nc, .int .i64 entry, .bool bd], .agg #[.int .u8 op, .int .u8 bop, .int .i64 d, .int .i64 e, .int .i64 a, .int .i64 b, .int .i64 f, .int .i64 cell, .int .u64 imm, .slice ao nA ac, .int .i64 nx, .int .i64 el]] w fun e w' => e = .returned (.bool (decide (gets (grs rs) ⟨ps, ks, cells, is, res, keep, nodes, entry⟩ bd f d))) ∧ Below w.heap.size w w' := by
  have HB2 : Hid (Below w.heap.size w ((w.alloc (.cells #[.slice fo nF cF, .slice po nP pc, .slice ko nK kc, .int .i64 cells, .slice io nI ic, .bool res, .int .i64 keep, .slice no nN nc, .int .i64 entry, .bool bd] 120)).alloc (.cells #[.int .u8 op, .int .u8 bop, .int .i64 d, .int .i64 e, .int .i64 a, .int .i64 b, .int .i64 f, .int .i64 cell, .int .u64 imm, .slice ao nA ac, .int .i64 nx, .int .i64 el] 64))) := ((Below.refl _ _).alloc (Nat.le_refl _) _).alloc (by simp) _
  have HCB : Hid (Blk ((w.alloc (.cells #[.slice fo nF cF, .slice po nP pc, .slice ko nK kc, .int .i64 cells, .slice io nI ic, .bool res, .int .i64 keep, .slice no nN nc, .int .i64 entry, .bool bd] 120)).alloc (.cells #[.int .u8 op, .int .u8 bop, .int .i64 d, .int .i64 e, .int .i64 a, .int .i64 b, .int .i64 f, .int .i64 cell, .int .u64 imm, .slice ao nA ac, .int .i64 nx, .int .i64 el] 64)) w.heap.size 120 #[.slice fo nF cF, .slice po nP pc, .slice ko nK kc, .int .i64 cells, .slice io nI ic, .bool res, .int .i64 keep, .slice no nN nc, .int .i64 entry, .bool bd]) := Lib.hid ((Blk.new w 120 #[.slice fo nF cF, .slice po nP pc, .slice ko nK kc, .int .i64 cells, .slice io nI ic, .bool res, .int .i64 keep, .slice no nN nc, .int .i64 entry, .bool bd]).alloc _)
  have HNB : Hid (Blk ((w.alloc (.cells #[.slice fo nF cF, .slice po nP pc, .slice ko nK kc, .int .i64 cells, .slice io nI ic, .bool res, .int .i64 keep, .slice no nN nc, .int .i64 entry, .bool bd] 120)).alloc (.cells #[.int .u8 op, .int .u8 bop, .int .i64 d, .int .i64 e, .int .i64 a, .int .i64 b, .int .i64 f, .int .i64 cell, .int .u64 imm, .slice ao nA ac, .int .i64 nx, .int .i64 el] 64)) (w.heap.size + 1) 64 #[.int .u8 op, .int .u8 bop, .int .i64 d, .int .i64 e, .int .i64 a, .int .i64 b, .int .i64 f, .int .i64 cell, .int .u64 imm, .slice ao nA ac, .int .i64 nx, .int .i64 el]) := Lib.hid (by
    have := Blk.new (w.alloc (.cells #[.slice fo nF cF, .slice po nP pc, .slice ko nK kc, .int .i64 cells, .slice io nI ic, .bool res, .int .i64 keep, .slice no nN nc, .int .i64 entry, .bool bd] 120)) 64 #[.int .u8 op, .int .u8 bop, .int .i64 d, .int .i64 e, .int .i64 a, .int .i64 b, .int .i64 f, .int .i64 cell, .int .u64 imm, .slice ao nA ac, .int .i64 nx, .int .i64 el]
    rwa [show (w.alloc (.cells #[.slice fo nF cF, .slice po nP pc, .slice ko nK kc, .int .i64 cells, .slice io nI ic, .bool res, .int .i64 keep, .slice no nN nc, .int .i64 entry, .bool bd] 120)).heap.size = w.heap.size + 1 by simp] at this)
  have HF := Lib.hid HF0
  have HK := Lib.hid (hk.below (HB2.out.mono hB))
  have hB2 : B ≤ ((w.alloc (.cells #[.slice fo nF cF, .slice po nP pc, .slice ko nK kc, .int .i64 cells, .slice io nI ic, .bool res, .int .i64 keep, .slice no nN nc, .int .i64 entry, .bool bd] 120)).alloc (.cells #[.int .u8 op, .int .u8 bop, .int .i64 d, .int .i64 e, .int .i64 a, .int .i64 b, .int .i64 f, .int .i64 cell, .int .u64 imm, .slice ao nA ac, .int .i64 nx, .int .i64 el] 64)).heap.size := by simp; omega
  have HKL := Lib.hid hkl
  clear hk hkl HF0
  have HZ2 : Hid (w.heap.size + 1 + 1 = ((w.alloc (.cells #[.slice fo nF cF, .slice po nP pc, .slice ko nK kc, .int .i64 cells, .slice io nI ic, .bool res, .int .i64 keep, .slice no nN nc, .int .i64 entry, .bool bd] 120)).alloc (.cells #[.int .u8 op, .int .u8 bop, .int .i64 d, .int .i64 e, .int .i64 a, .int .i64 b, .int .i64 f, .int .i64 cell, .int .u64 imm, .slice ao nA ac, .int .i64 nx, .int .i64 el] 64)).heap.size) := Lib.hid (by simp)
  obtain ⟨j, rfl⟩ : ∃ j : Nat, f = (j : Int) := ⟨f.toNat, by have := hf.1; omega⟩
  have hj : j < nF := by have := hf.2; omega
  obtain ⟨bf, off, r, rfl, hbf, HX, HRG, HWG, x0, x1, x2, x3, x4, x5, x6, x7⟩ := HF.out.gr hj
  clear x0 x1 x2 x3 x5 x6 x7 hf
  have hgr := grAt_of HX.out
  have HGR := Lib.hid hgr
  clear hgr
  obtain ⟨rr, hrr⟩ : ∃ rr, rr = r.gr.result := ⟨_, rfl⟩
  rw [← hrr] at x4
  have HRR : Hid ((grAt (grs rs) j).result = rr) := Lib.hid (by rw [HGR.out, hrr])
  clear hrr
  have hbr : bf < w.heap.size := by omega
  by_cases hd : d = -1
  · have HD : Hid (decide (gets (grs rs) ⟨ps, ks, cells, is, res, keep, nodes, entry⟩ bd j d) = true) := Lib.hid (by rw [decide_eq_true_eq]; exact .inl hd)
    have g : (d == -1) = true := by simpa using hd
    clear hd
    go_enter Tryd.func91, Tryd.ntmps91
    go_wp2
    go_ret
    exact ⟨by rw [HD.out]; rfl, HB2.out⟩
  · have g : (d == -1) = false := by simpa using hd
    cases rr
    · have HD : Hid (decide (gets (grs rs) ⟨ps, ks, cells, is, res, keep, nodes, entry⟩ bd j d) = false) := Lib.hid (by
        rw [decide_eq_false_iff_not]
        rintro (h | ⟨h, _⟩)
        · exact hd h
        · rw [HRR.out] at h; cases h)
      clear hd
      go_enter Tryd.func91, Tryd.ntmps91
      go_wp2
      go_ret
      exact ⟨by rw [HD.out]; rfl, HB2.out⟩
    · by_cases hft : fits ks bd d 0
      rotate_left
      · have HD : Hid (decide (gets (grs rs) ⟨ps, ks, cells, is, res, keep, nodes, entry⟩ bd j d) = false) := Lib.hid (by
          rw [decide_eq_false_iff_not]
          rintro (h | ⟨_, h, _⟩)
          · exact hd h
          · exact hft h)
        have HA : Hid (decide (∀ p ∈ [d], fits ks bd p 0) = false) := Lib.hid (by rw [all_one (fun p => fits ks bd p 0)]; exact decide_eq_false hft)
        clear hd hft
        go_enter Tryd.func91, Tryd.ntmps91
        go_wp2_with (first | (go_at_call 87; refine (are_lit B _ [d] 1 ks 0 _ _ _ _ _ _ _ _ _ _ _ _ _ _ _ _ _ _ _ _ _ _ rfl (by omega) HK.out HKL.out hB2 HZ2.out (by first | exact .inl rfl | exact .inr rfl)).mono ?_; rintro ee w3 ⟨rfl, hb3⟩; have HB3 := Lib.hid hb3; clear hb3; rw [HA.out]))
        go_ret
        exact ⟨by rw [HD.out]; rfl, HB2.out.trans (HB3.out.mono (by simp; omega))⟩
      · have HA : Hid (decide (∀ p ∈ [d], fits ks bd p 0) = true) := Lib.hid (by rw [all_one (fun p => fits ks bd p 0)]; exact decide_eq_true hft)
        have HD : Hid (decide (gets (grs rs) ⟨ps, ks, cells, is, res, keep, nodes, entry⟩ bd j d) = (!bd || (d == 0))) := Lib.hid (by
          rw [Bool.eq_iff_iff, decide_eq_true_eq]
          constructor
          · rintro (h | ⟨_, _, h | h⟩)
            · exact absurd h hd
            · simp [h]
            · simp [h]
          · intro h
            refine .inr ⟨HRR.out, hft, ?_⟩
            cases bd
            · exact .inl rfl
            · right; simpa using h)
        clear hd hft
        cases bd
        all_goals
          go_enter Tryd.func91, Tryd.ntmps91
          go_wp2_with (first | (go_at_call 87; refine (are_lit B _ [d] 1 ks 0 _ _ _ _ _ _ _ _ _ _ _ _ _ _ _ _ _ _ _ _ _ _ rfl (by omega) HK.out HKL.out hB2 HZ2.out (by first | exact .inl rfl | exact .inr rfl)).mono ?_; rintro ee w3 ⟨rfl, hb3⟩; have b9 : w3.cell? ⟨w.heap.size, 9, none⟩ = some (.bool _) := (HCB.out.below hb3 HCB.out.lt).cell 9; have n2 : w3.cell? ⟨w.heap.size + 1, 2, none⟩ = some (.int .i64 d) := (HNB.out.below hb3 HNB.out.lt).cell 2; have HB3 := Lib.hid hb3; clear hb3; rw [HA.out]))
          go_ret
          exact ⟨by rw [HD.out]; rfl, HB2.out.trans (HB3.out.mono (by simp; omega))⟩
end Go.Proofs.YtmfdaeicbaibeaaDoor
