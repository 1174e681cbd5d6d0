/-
  Texts of one seat, one behind the other: Cx, Cy.
-/
import Derived.Deep.RegionHeld3
import Derived.Test.YtepkogfiojkcpaaDoorMA10
import Derived.Test.YtepkogfiojkcpaaDoorMA8

set_option linter.unusedVariables false
set_option linter.unusedSimpArgs false
set_option maxRecDepth 100000
set_option maxHeartbeats 51200000
namespace Go.Proofs.YtepkogfiojkcpaaDoor
open Go.ChangeShapes Go.WideShapes Go.ChangeAt Go.RowKit
theorem exist_at (p:Nat) (l:List Int) (n:Nat) (fo:Option Addr) (nF cF:Nat) (po ko io no:Option Addr) (nP pc nK kc nI ic nN nc:Nat) (cells keep entry:Int) (res bd:Bool) (w1 W:World) (cs:Array Value) (hcs:cs=(i64c l).toArray) (hn:l.length=n) (hn4:n≤4) (hp:p=w1.heap.size)
  (hW:W=w1.alloc (.cells cs 3)∨W=(w1.alloc (.cells cs 3)).drew∨W=w1.drew.alloc (.cells cs 3)) :
  Calls Tryd.prog 113 #[.agg #[.slice fo nF cF,.slice po nP pc,.slice ko nK kc,.int .i64 cells,.slice io nI ic,.bool res,.int .i64 keep,.slice no nN nc,.int .i64 entry,.bool bd],.slice (some ⟨p,0,none⟩) n n] W fun e w'=>e=.returned (.bool (decide (∀ p ∈ l,isOne p nK)))∧Below w1.heap.size w1 w':=by
 subst hcs
 rcases hW with h | h | h
 ·exact exist_lit p l n fo nF cF po ko io no nP pc nK kc nI ic nN nc cells keep entry res bd w1 W hn hn4 hp (.inl h)
 ·exact exist_lit p l n fo nF cF po ko io no nP pc nK kc nI ic nN nc cells keep entry res bd w1 W hn hn4 hp (.inr h)
 ·refine (exist_lit p l n fo nF cF po ko io no nP pc nK kc nI ic nN nc cells keep entry res bd w1.drew W hn hn4 hp (.inl h)).mono ?_
  rintro e w' ⟨h1,h2⟩
  exact ⟨h1,(below_drewN (Below.refl _ _) 1).trans h2⟩
theorem are_at (B p:Nat) (l:List Int) (n:Nat) (ks:List Int) (k:Int) (fo:Option Addr) (nF cF:Nat) (po ko io no:Option Addr) (nP pc nK kc nI ic nN nc:Nat) (cells keep entry:Int) (res bd:Bool) (w1 W:World) (cs:Array Value) (hcs:cs=(i64c l).toArray) (hn:l.length=n) (hn4:n≤4) (hk:Reads w1 B 1 ko nK (u8c ks)) (hkl:ks.length=nK) (hB:B≤w1.heap.size) (hp:p=w1.heap.size)
  (hW:W=w1.alloc (.cells cs 3)∨W=(w1.alloc (.cells cs 3)).drew∨W=w1.drew.alloc (.cells cs 3)) :
  Calls Tryd.prog 112 #[.agg #[.slice fo nF cF,.slice po nP pc,.slice ko nK kc,.int .i64 cells,.slice io nI ic,.bool res,.int .i64 keep,.slice no nN nc,.int .i64 entry,.bool bd],.int .u8 k,.slice (some ⟨p,0,none⟩) n n] W fun e w'=>e=.returned (.bool (decide (∀ p ∈ l,fits ks bd p k)))∧Below w1.heap.size w1 w':=by
 subst hcs
 rcases hW with h | h | h
 ·exact are_lit B p l n ks k fo nF cF po ko io no nP pc nK kc nI ic nN nc cells keep entry res bd w1 W hn hn4 hk hkl hB hp (.inl h)
 ·exact are_lit B p l n ks k fo nF cF po ko io no nP pc nK kc nI ic nN nc cells keep entry res bd w1 W hn hn4 hk hkl hB hp (.inr h)
 ·refine (are_lit B p l n ks k fo nF cF po ko io no nP pc nK kc nI ic nN nc cells keep entry res bd w1.drew W hn hn4 hk.drew hkl hB hp (.inl h)).mono ?_
  rintro e w' ⟨h1,h2⟩
  exact ⟨h1,(below_drewN (Below.refl _ _) 1).trans h2⟩

theorem uses_d (B : Nat) (rs : List RG) (ps ks is : List Int) (nodes : List Nd) (fo : Option Addr) (nF cF : Nat) (po ko io no : Option Addr) (nP pc nK kc nI ic nN nc : Nat) (cells keep entry : Int) (res bd : Bool) (op bop d e a b f cell imm : Int) (args : List Int) (nx el : Int) (ao : Option Addr) (nA ac : Nat) (w : World) (HF0 : RdP w B fo nF rs) (hk : Reads w B 1 ko nK (u8c ks)) (hkl : ks.length = nK) (ha : Reads w B 1 ao nA (i64c args)) (hal : args.length = nA) (hnA : nA * 8 ≤ 140737488351232) (hB : B ≤ w.heap.size)
    (hh : bd = false → ∀ g ∈ grs rs, headHolds g false) (hop : op = 2) :
    Calls Tryd.prog 106 #[.agg #[.slice fo nF cF, .slice po nP pc, .slice ko nK kc, .int .i64 cells, .slice io nI ic, .bool res, .int .i64 keep, .slice no nN nc, .int .i64 entry, .bool bd], .agg #[.int .u8 op, .int .u8 bop, .int .i64 d, .int .i64 e, .int .i64 a, .int .i64 b, .int .i64 f, .int .i64 cell, .int .u64 imm, .slice ao nA ac, .int .i64 nx, .int .i64 el]] w fun ee w' => ee = .returned (.bool (decide (uses (grs rs) ⟨ps, ks, cells, is, res, keep, nodes, entry⟩ bd ⟨op, bop, d, e, a, b, f, cell, imm, args, nx, el⟩))) ∧ Below w.heap.size w w' := by
  have HB2 : Hid (Below w.heap.size w ((w.alloc (.cells #[.slice fo nF cF, .slice po nP pc, .slice ko nK kc, .int .i64 cells, .slice io nI ic, .bool res, .int .i64 keep, .slice no nN nc, .int .i64 entry, .bool bd] 151)).alloc (.cells #[.int .u8 op, .int .u8 bop, .int .i64 d, .int .i64 e, .int .i64 a, .int .i64 b, .int .i64 f, .int .i64 cell, .int .u64 imm, .slice ao nA ac, .int .i64 nx, .int .i64 el] 60))) := ((Below.refl _ _).alloc (Nat.le_refl _) _).alloc (by simp) _
  have HCB : Hid (Blk ((w.alloc (.cells #[.slice fo nF cF, .slice po nP pc, .slice ko nK kc, .int .i64 cells, .slice io nI ic, .bool res, .int .i64 keep, .slice no nN nc, .int .i64 entry, .bool bd] 151)).alloc (.cells #[.int .u8 op, .int .u8 bop, .int .i64 d, .int .i64 e, .int .i64 a, .int .i64 b, .int .i64 f, .int .i64 cell, .int .u64 imm, .slice ao nA ac, .int .i64 nx, .int .i64 el] 60)) w.heap.size 151 #[.slice fo nF cF, .slice po nP pc, .slice ko nK kc, .int .i64 cells, .slice io nI ic, .bool res, .int .i64 keep, .slice no nN nc, .int .i64 entry, .bool bd]) := Lib.hid ((Blk.new w 151 #[.slice fo nF cF, .slice po nP pc, .slice ko nK kc, .int .i64 cells, .slice io nI ic, .bool res, .int .i64 keep, .slice no nN nc, .int .i64 entry, .bool bd]).alloc _)
  have HNB : Hid (Blk ((w.alloc (.cells #[.slice fo nF cF, .slice po nP pc, .slice ko nK kc, .int .i64 cells, .slice io nI ic, .bool res, .int .i64 keep, .slice no nN nc, .int .i64 entry, .bool bd] 151)).alloc (.cells #[.int .u8 op, .int .u8 bop, .int .i64 d, .int .i64 e, .int .i64 a, .int .i64 b, .int .i64 f, .int .i64 cell, .int .u64 imm, .slice ao nA ac, .int .i64 nx, .int .i64 el] 60)) (w.heap.size + 1) 60 #[.int .u8 op, .int .u8 bop, .int .i64 d, .int .i64 e, .int .i64 a, .int .i64 b, .int .i64 f, .int .i64 cell, .int .u64 imm, .slice ao nA ac, .int .i64 nx, .int .i64 el]) := Lib.hid (by
    have := Blk.new (w.alloc (.cells #[.slice fo nF cF, .slice po nP pc, .slice ko nK kc, .int .i64 cells, .slice io nI ic, .bool res, .int .i64 keep, .slice no nN nc, .int .i64 entry, .bool bd] 151)) 60 #[.int .u8 op, .int .u8 bop, .int .i64 d, .int .i64 e, .int .i64 a, .int .i64 b, .int .i64 f, .int .i64 cell, .int .u64 imm, .slice ao nA ac, .int .i64 nx, .int .i64 el]
    rwa [show (w.alloc (.cells #[.slice fo nF cF, .slice po nP pc, .slice ko nK kc, .int .i64 cells, .slice io nI ic, .bool res, .int .i64 keep, .slice no nN nc, .int .i64 entry, .bool bd] 151)).heap.size = w.heap.size + 1 by simp] at this)
  have HF := Lib.hid (HF0.below (HB2.out.mono hB))
  have HK := Lib.hid (hk.below (HB2.out.mono hB))
  have HKL := Lib.hid hkl
  have HA := Lib.hid (ha.below (HB2.out.mono hB))
  have HAL := Lib.hid hal
  have HH := Lib.hid hh
  have HGL : Hid ((grs rs).length = nF) := Lib.hid (by rw [length_grs, HF0.len])
  have hB2 : B ≤ ((w.alloc (.cells #[.slice fo nF cF, .slice po nP pc, .slice ko nK kc, .int .i64 cells, .slice io nI ic, .bool res, .int .i64 keep, .slice no nN nc, .int .i64 entry, .bool bd] 151)).alloc (.cells #[.int .u8 op, .int .u8 bop, .int .i64 d, .int .i64 e, .int .i64 a, .int .i64 b, .int .i64 f, .int .i64 cell, .int .u64 imm, .slice ao nA ac, .int .i64 nx, .int .i64 el] 60)).heap.size := by simp; omega
  have HZ2 : Hid (w.heap.size + 1 + 1 = ((w.alloc (.cells #[.slice fo nF cF, .slice po nP pc, .slice ko nK kc, .int .i64 cells, .slice io nI ic, .bool res, .int .i64 keep, .slice no nN nc, .int .i64 entry, .bool bd] 151)).alloc (.cells #[.int .u8 op, .int .u8 bop, .int .i64 d, .int .i64 e, .int .i64 a, .int .i64 b, .int .i64 f, .int .i64 cell, .int .u64 imm, .slice ao nA ac, .int .i64 nx, .int .i64 el] 60)).heap.size) := Lib.hid (by simp)
  clear hk hkl HF0 ha hal hh
  rcases hop with rfl
  · -- 2
    have HU : Hid (uses (grs rs) ⟨ps, ks, cells, is, res, keep, nodes, entry⟩ bd ⟨2, bop, d, e, a, b, f, cell, imm, args, nx, el⟩ ↔ isOne a ks.length ∧ fits ks bd d (kindAt ks a)) := Lib.hid (by unfold uses; rw [if_neg (by simp)]; rw [if_pos (by simp)]; all_goals exact Iff.rfl)
    by_cases h1 : isOne a nK
    rotate_left
    · have H1 : Hid (decide (∀ p ∈ [a], isOne p nK) = false) := Lib.hid (decide_eq_false (by simpa using h1))
      have HD : Hid (decide (uses (grs rs) ⟨ps, ks, cells, is, res, keep, nodes, entry⟩ bd ⟨2, bop, d, e, a, b, f, cell, imm, args, nx, el⟩) = false) := Lib.hid (by rw [decide_eq_false_iff_not, HU.out]; rintro ⟨h, _⟩; rw [HKL.out] at h; exact h1 h)
      clear h1
      go_enter Tryd.func106, Tryd.ntmps106
      go_wp2
      refine wp_region_held_drew (S := fun W => W.cell? ⟨w.heap.size, 0, none⟩ = some (.slice fo nF cF) ∧ W.cell? ⟨w.heap.size, 1, none⟩ = some (.slice po nP pc) ∧ W.cell? ⟨w.heap.size, 2, none⟩ = some (.slice ko nK kc) ∧ W.cell? ⟨w.heap.size, 3, none⟩ = some (.int .i64 cells) ∧ W.cell? ⟨w.heap.size, 4, none⟩ = some (.slice io nI ic) ∧ W.cell? ⟨w.heap.size, 5, none⟩ = some (.bool res) ∧ W.cell? ⟨w.heap.size, 6, none⟩ = some (.int .i64 keep) ∧ W.cell? ⟨w.heap.size, 7, none⟩ = some (.slice no nN nc) ∧ W.cell? ⟨w.heap.size, 8, none⟩ = some (.int .i64 entry) ∧ W.cell? ⟨w.heap.size, 9, none⟩ = some (.bool bd) ∧ W.cell? ⟨w.heap.size + 1, 4, none⟩ = some (.int .i64 a) ∧ W.cell? ⟨w.heap.size + 1, 2, none⟩ = some (.int .i64 d)) (by kernel_rfl) (And.intro (HCB.out.cell 0) (And.intro (HCB.out.cell 1) (And.intro (HCB.out.cell 2) (And.intro (HCB.out.cell 3) (And.intro (HCB.out.cell 4) (And.intro (HCB.out.cell 5) (And.intro (HCB.out.cell 6) (And.intro (HCB.out.cell 7) (And.intro (HCB.out.cell 8) (And.intro (HCB.out.cell 9) (And.intro (HNB.out.cell 4) (HNB.out.cell 2)))))))))))) (fun hHeld => ?_)
      refine wpAnyH_take (i := 0) (oi := ⟨some 17, _, _, _, _, _⟩) (v := ?_) rfl (by kernel_rfl) (by kernel_rfl) (by kernel_rfl) (fun _ _ _ h => h) (Or.inl ⟨by rfl, ?_⟩) (by assumption) ?_
      rotate_left
      · intro W hSW
        (try dsimp only at hSW)
        go_simp
        try with_reducible rfl
      try simp only [Act.put, List.setIfInBounds_toArray, List.set_cons_zero, List.set_cons_succ]
      refine wpAnyH_take (i := 1) (oi := ⟨some 18, _, _, _, _, _⟩) (v := ?_) rfl (by kernel_rfl) (by kernel_rfl) (by kernel_rfl) (fun _ _ _ h => h) (Or.inl ⟨by rfl, ?_⟩) (by assumption) ?_
      rotate_left
      · intro W hSW
        (try dsimp only at hSW)
        go_simp
        try with_reducible rfl
      try simp only [Act.put, List.setIfInBounds_toArray, List.set_cons_zero, List.set_cons_succ]
      refine wpAnyH_take (i := 2) (oi := ⟨some 19, _, _, _, _, _⟩) (v := ?_) rfl (by kernel_rfl) (by kernel_rfl) (by kernel_rfl) (fun _ _ _ h => h) (Or.inl ⟨by rfl, ?_⟩) (by assumption) ?_
      rotate_left
      · intro W hSW
        (try dsimp only at hSW)
        go_simp
        try with_reducible rfl
      try simp only [Act.put, List.setIfInBounds_toArray, List.set_cons_zero, List.set_cons_succ]
      refine wpAnyH_ready (rs := [3]) (by kernel_rfl) (by simp) ?_
      refine AllReadyH.cons (o := ⟨some 20, _, _, _, _, _⟩) rfl (fun K hK => ?_) AllReadyH.nil
      go_simp
      refine hK.out _ _ (And.intro ((HCB.out.alloc _).cell 0) (And.intro ((HCB.out.alloc _).cell 1) (And.intro ((HCB.out.alloc _).cell 2) (And.intro ((HCB.out.alloc _).cell 3) (And.intro ((HCB.out.alloc _).cell 4) (And.intro ((HCB.out.alloc _).cell 5) (And.intro ((HCB.out.alloc _).cell 6) (And.intro ((HCB.out.alloc _).cell 7) (And.intro ((HCB.out.alloc _).cell 8) (And.intro ((HCB.out.alloc _).cell 9) (And.intro ((HNB.out.alloc _).cell 4) ((HNB.out.alloc _).cell 2)))))))))))) (fun hHeld2 => ?_)
      clear hK K hHeld
      try simp only [Act.put, List.setIfInBounds_toArray, List.set_cons_zero, List.set_cons_succ]
      refine wpAnyH_ready (rs := [4]) (by kernel_rfl) (by simp) ?_
      refine AllReadyH.cons (o := ⟨some 21, _, _, _, _, _⟩) rfl (fun K hK => ?_) AllReadyH.nil
      go_simp
      refine (exist_at _ [a] 1 _ _ _ _ _ _ _ _ _ _ _ _ _ _ _ _ _ _ _ _ ((w.alloc (.cells #[.slice fo nF cF, .slice po nP pc, .slice ko nK kc, .int .i64 cells, .slice io nI ic, .bool res, .int .i64 keep, .slice no nN nc, .int .i64 entry, .bool bd] 151)).alloc (.cells #[.int .u8 2, .int .u8 bop, .int .i64 d, .int .i64 e, .int .i64 a, .int .i64 b, .int .i64 f, .int .i64 cell, .int .u64 imm, .slice ao nA ac, .int .i64 nx, .int .i64 el] 60)) _ #[.int .i64 a] rfl rfl (by omega) HZ2.out (by first | with_reducible exact .inl rfl | with_reducible exact .inr (.inl rfl) | with_reducible exact .inr (.inr rfl))).mono ?_
      rintro ee w3 ⟨rfl, hb3⟩
      have hS3 := And.intro ((HCB.out.below hb3 HCB.out.lt).cell 0) (And.intro ((HCB.out.below hb3 HCB.out.lt).cell 1) (And.intro ((HCB.out.below hb3 HCB.out.lt).cell 2) (And.intro ((HCB.out.below hb3 HCB.out.lt).cell 3) (And.intro ((HCB.out.below hb3 HCB.out.lt).cell 4) (And.intro ((HCB.out.below hb3 HCB.out.lt).cell 5) (And.intro ((HCB.out.below hb3 HCB.out.lt).cell 6) (And.intro ((HCB.out.below hb3 HCB.out.lt).cell 7) (And.intro ((HCB.out.below hb3 HCB.out.lt).cell 8) (And.intro ((HCB.out.below hb3 HCB.out.lt).cell 9) (And.intro ((HNB.out.below hb3 HNB.out.lt).cell 4) ((HNB.out.below hb3 HNB.out.lt).cell 2)))))))))))
      have HB3 := Lib.hid hb3
      clear hb3
      rw [H1.out]
      go_wp2_with fail
      refine hK.out _ _ hS3 (fun hHeld3 => ?_)
      clear hK K hHeld2
      try simp only [Act.put, List.setIfInBounds_toArray, List.set_cons_zero, List.set_cons_succ]
      refine wpAnyH_take (i := 5) (oi := ⟨some 22, _, _, _, _, _⟩) (v := ?_) rfl (by kernel_rfl) (by kernel_rfl) (by kernel_rfl) (fun _ _ _ h => h) (Or.inl ⟨by rfl, ?_⟩) (by assumption) ?_
      rotate_left
      · intro W hSW
        (try dsimp only at hSW)
        go_simp
        try with_reducible rfl
      try simp only [Act.put, List.setIfInBounds_toArray, List.set_cons_zero, List.set_cons_succ]
      refine wpAnyH_take (i := 6) (oi := ⟨some 23, _, _, _, _, _⟩) (v := undef) rfl (by kernel_rfl) (by kernel_rfl) (by kernel_rfl) (fun _ _ _ h => h) (Or.inr ⟨by rfl, rfl⟩) (by assumption) ?_
      try simp only [Act.put, List.setIfInBounds_toArray, List.set_cons_zero, List.set_cons_succ]
      refine wpAnyH_take (i := 7) (oi := ⟨some 24, _, _, _, _, _⟩) (v := undef) rfl (by kernel_rfl) (by kernel_rfl) (by kernel_rfl) (fun _ _ _ h => h) (Or.inr ⟨by rfl, rfl⟩) (by assumption) ?_
      try simp only [Act.put, List.setIfInBounds_toArray, List.set_cons_zero, List.set_cons_succ]
      refine wpAnyH_take (i := 8) (oi := ⟨some 25, _, _, _, _, _⟩) (v := undef) rfl (by kernel_rfl) (by kernel_rfl) (by kernel_rfl) (fun _ _ _ h => h) (Or.inr ⟨by rfl, rfl⟩) (by assumption) ?_
      try simp only [Act.put, List.setIfInBounds_toArray, List.set_cons_zero, List.set_cons_succ]
      refine wpAnyH_take (i := 9) (oi := ⟨some 26, _, _, _, _, _⟩) (v := undef) rfl (by kernel_rfl) (by kernel_rfl) (by kernel_rfl) (fun _ _ _ h => h) (Or.inr ⟨by rfl, rfl⟩) (by assumption) ?_
      try simp only [Act.put, List.setIfInBounds_toArray, List.set_cons_zero, List.set_cons_succ]
      refine wpAnyH_take (i := 10) (oi := ⟨some 27, _, _, _, _, _⟩) (v := undef) rfl (by kernel_rfl) (by kernel_rfl) (by kernel_rfl) (fun _ _ _ h => h) (Or.inr ⟨by rfl, rfl⟩) (by assumption) ?_
      try simp only [Act.put, List.setIfInBounds_toArray, List.set_cons_zero, List.set_cons_succ]
      refine wpAnyH_take (i := 11) (oi := ⟨some 28, _, _, _, _, _⟩) (v := undef) rfl (by kernel_rfl) (by kernel_rfl) (by kernel_rfl) (fun _ _ _ h => h) (Or.inr ⟨by rfl, rfl⟩) (by assumption) ?_
      try simp only [Act.put, List.setIfInBounds_toArray, List.set_cons_zero, List.set_cons_succ]
      refine wpAnyH_take (i := 12) (oi := ⟨some 29, _, _, _, _, _⟩) (v := undef) rfl (by kernel_rfl) (by kernel_rfl) (by kernel_rfl) (fun _ _ _ h => h) (Or.inr ⟨by rfl, rfl⟩) (by assumption) ?_
      try simp only [Act.put, List.setIfInBounds_toArray, List.set_cons_zero, List.set_cons_succ]
      refine wpAnyH_take (i := 13) (oi := ⟨some 30, _, _, _, _, _⟩) (v := undef) rfl (by kernel_rfl) (by kernel_rfl) (by kernel_rfl) (fun _ _ _ h => h) (Or.inr ⟨by rfl, rfl⟩) (by assumption) ?_
      try simp only [Act.put, List.setIfInBounds_toArray, List.set_cons_zero, List.set_cons_succ]
      refine wpAnyH_take (i := 14) (oi := ⟨some 31, _, _, _, _, _⟩) (v := undef) rfl (by kernel_rfl) (by kernel_rfl) (by kernel_rfl) (fun _ _ _ h => h) (Or.inr ⟨by rfl, rfl⟩) (by assumption) ?_
      try simp only [Act.put, List.setIfInBounds_toArray, List.set_cons_zero, List.set_cons_succ]
      refine wpAnyH_take (i := 15) (oi := ⟨some 32, _, _, _, _, _⟩) (v := undef) rfl (by kernel_rfl) (by kernel_rfl) (by kernel_rfl) (fun _ _ _ h => h) (Or.inr ⟨by rfl, rfl⟩) (by assumption) ?_
      try simp only [Act.put, List.setIfInBounds_toArray, List.set_cons_zero, List.set_cons_succ]
      refine wpAnyH_take (i := 16) (oi := ⟨some 33, _, _, _, _, _⟩) (v := undef) rfl (by kernel_rfl) (by kernel_rfl) (by kernel_rfl) (fun _ _ _ h => h) (Or.inr ⟨by rfl, rfl⟩) (by assumption) ?_
      try simp only [Act.put, List.setIfInBounds_toArray, List.set_cons_zero, List.set_cons_succ]
      refine wpAnyH_take (i := 17) (oi := ⟨some 34, _, _, _, _, _⟩) (v := undef) rfl (by kernel_rfl) (by kernel_rfl) (by kernel_rfl) (fun _ _ _ h => h) (Or.inr ⟨by rfl, rfl⟩) (by assumption) ?_
      try simp only [Act.put, List.setIfInBounds_toArray, List.set_cons_zero, List.set_cons_succ]
      refine wpAnyH_take (i := 18) (oi := ⟨some 35, _, _, _, _, _⟩) (v := ?_) rfl (by kernel_rfl) (by kernel_rfl) (by kernel_rfl) (fun _ _ _ h => h) (Or.inl ⟨by rfl, ?_⟩) (by assumption) ?_
      rotate_left
      · intro W hSW
        (try dsimp only at hSW)
        go_simp
        try with_reducible rfl
      try simp only [Act.put, List.setIfInBounds_toArray, List.set_cons_zero, List.set_cons_succ]
      refine wpAnyH_take (i := 19) (oi := ⟨some 4, _, _, _, _, _⟩) (v := ?_) rfl (by kernel_rfl) (by kernel_rfl) (by kernel_rfl) (fun _ _ _ h => h) (Or.inl ⟨by rfl, ?_⟩) (by assumption) ?_
      rotate_left
      · intro W hSW
        (try dsimp only at hSW)
        go_simp
        try with_reducible rfl
      try simp only [Act.put, List.setIfInBounds_toArray, List.set_cons_zero, List.set_cons_succ]
      refine wpAnyH_done (by kernel_rfl) ?_ _
      go_wp2
      go_ret
      exact ⟨by rw [HD.out]; rfl, HB2.out.trans (HB3.out.mono (by simp; omega))⟩
    · obtain ⟨j, rfl⟩ : ∃ j : Nat, a = (j : Int) := ⟨a.toNat, by have := h1.1; omega⟩
      have hj : j < nK := by have := h1.2; omega
      obtain ⟨bk, ok, y, rfl, hbk, HXK, k1⟩ := HK.out.byte hj
      have HKA : Hid (kindAt ks j = y) := Lib.hid (by simp [kindAt, List.getD, HXK.out])
      have H1 : Hid (decide (∀ p ∈ [(j : Int)], isOne p nK) = true) := Lib.hid (decide_eq_true (by simpa using h1))
      have HD : Hid (decide (∀ p ∈ [d], fits ks bd p y) = decide (uses (grs rs) ⟨ps, ks, cells, is, res, keep, nodes, entry⟩ bd ⟨2, bop, d, e, (j : Int), b, f, cell, imm, args, nx, el⟩)) := Lib.hid (by
        rw [decide_eq_decide, HU.out, HKA.out, HKL.out]
        constructor
        · intro h; exact ⟨h1, by simpa using h⟩
        · rintro ⟨_, h⟩; simpa using h)
      have hbk2 : bk < w.heap.size + 1 + 1 := by omega
      clear h1
      go_enter Tryd.func106, Tryd.ntmps106
      go_wp2
      go_region_held3 (fun W => W.cell? ⟨w.heap.size, 0, none⟩ = some (.slice fo nF cF) ∧ W.cell? ⟨w.heap.size, 1, none⟩ = some (.slice po nP pc) ∧ W.cell? ⟨w.heap.size, 2, none⟩ = some (.slice (some ⟨bk, ok, none⟩) nK kc) ∧ W.cell? ⟨w.heap.size, 3, none⟩ = some (.int .i64 cells) ∧ W.cell? ⟨w.heap.size, 4, none⟩ = some (.slice io nI ic) ∧ W.cell? ⟨w.heap.size, 5, none⟩ = some (.bool res) ∧ W.cell? ⟨w.heap.size, 6, none⟩ = some (.int .i64 keep) ∧ W.cell? ⟨w.heap.size, 7, none⟩ = some (.slice no nN nc) ∧ W.cell? ⟨w.heap.size, 8, none⟩ = some (.int .i64 entry) ∧ W.cell? ⟨w.heap.size, 9, none⟩ = some (.bool bd) ∧ W.cell? ⟨w.heap.size + 1, 4, none⟩ = some (.int .i64 j) ∧ W.cell? ⟨w.heap.size + 1, 2, none⟩ = some (.int .i64 d) ∧ W.cell? ⟨bk, ok + j, none⟩ = some (.int .u8 y))
        (first | go_keep | exact hS3 | exact hS4)
        (first
          | (go_at_call 112; refine (are_at B _ [d] 1 ks y _ _ _ _ _ _ _ _ _ _ _ _ _ _ _ _ _ _ _ _ w3 _ #[.int .i64 d] rfl rfl (by omega) HK3.out HKL.out hB3 (by first | rfl | simp) (by first | with_reducible exact .inl rfl | with_reducible exact .inr (.inl rfl) | with_reducible exact .inr (.inr rfl))).mono ?_; rintro ee w4 ⟨rfl, hb4⟩; have hS4 := And.intro ((HCB.out.below (HB3.out.trans (hb4.mono HB3.out.size)) HCB.out.lt).cell 0) (And.intro ((HCB.out.below (HB3.out.trans (hb4.mono HB3.out.size)) HCB.out.lt).cell 1) (And.intro ((HCB.out.below (HB3.out.trans (hb4.mono HB3.out.size)) HCB.out.lt).cell 2) (And.intro ((HCB.out.below (HB3.out.trans (hb4.mono HB3.out.size)) HCB.out.lt).cell 3) (And.intro ((HCB.out.below (HB3.out.trans (hb4.mono HB3.out.size)) HCB.out.lt).cell 4) (And.intro ((HCB.out.below (HB3.out.trans (hb4.mono HB3.out.size)) HCB.out.lt).cell 5) (And.intro ((HCB.out.below (HB3.out.trans (hb4.mono HB3.out.size)) HCB.out.lt).cell 6) (And.intro ((HCB.out.below (HB3.out.trans (hb4.mono HB3.out.size)) HCB.out.lt).cell 7) (And.intro ((HCB.out.below (HB3.out.trans (hb4.mono HB3.out.size)) HCB.out.lt).cell 8) (And.intro ((HCB.out.below (HB3.out.trans (hb4.mono HB3.out.size)) HCB.out.lt).cell 9) (And.intro ((HNB.out.below (HB3.out.trans (hb4.mono HB3.out.size)) HNB.out.lt).cell 4) (And.intro ((HNB.out.below (HB3.out.trans (hb4.mono HB3.out.size)) HNB.out.lt).cell 2) (((HB3.out.trans (hb4.mono HB3.out.size)).cell (p := ⟨bk, ok + j, none⟩) (by simp; omega)).trans k1)))))))))))); have HB4 := Lib.hid hb4; clear hb4; rw [HD.out])
          | (go_at_call 113; refine (exist_at _ [(j : Int)] 1 _ _ _ _ _ _ _ _ _ _ _ _ _ _ _ _ _ _ _ _ ((w.alloc (.cells #[.slice fo nF cF, .slice po nP pc, .slice (some ⟨bk, ok, none⟩) nK kc, .int .i64 cells, .slice io nI ic, .bool res, .int .i64 keep, .slice no nN nc, .int .i64 entry, .bool bd] 151)).alloc (.cells #[.int .u8 2, .int .u8 bop, .int .i64 d, .int .i64 e, .int .i64 j, .int .i64 b, .int .i64 f, .int .i64 cell, .int .u64 imm, .slice ao nA ac, .int .i64 nx, .int .i64 el] 60)) _ #[.int .i64 j] rfl rfl (by omega) HZ2.out (by first | with_reducible exact .inl rfl | with_reducible exact .inr (.inl rfl) | with_reducible exact .inr (.inr rfl))).mono ?_; rintro ee w3 ⟨rfl, hb3⟩; have hS3 := And.intro ((HCB.out.below hb3 HCB.out.lt).cell 0) (And.intro ((HCB.out.below hb3 HCB.out.lt).cell 1) (And.intro ((HCB.out.below hb3 HCB.out.lt).cell 2) (And.intro ((HCB.out.below hb3 HCB.out.lt).cell 3) (And.intro ((HCB.out.below hb3 HCB.out.lt).cell 4) (And.intro ((HCB.out.below hb3 HCB.out.lt).cell 5) (And.intro ((HCB.out.below hb3 HCB.out.lt).cell 6) (And.intro ((HCB.out.below hb3 HCB.out.lt).cell 7) (And.intro ((HCB.out.below hb3 HCB.out.lt).cell 8) (And.intro ((HCB.out.below hb3 HCB.out.lt).cell 9) (And.intro ((HNB.out.below hb3 HNB.out.lt).cell 4) (And.intro ((HNB.out.below hb3 HNB.out.lt).cell 2) ((hb3.cell (p := ⟨bk, ok + j, none⟩) (by simp; omega)).trans k1)))))))))))); have HK3 := Lib.hid (HK.out.below (hb3.mono hB2)); have hB3 : B ≤ w3.heap.size := Nat.le_trans hB2 hb3.size; have hz3 : w.heap.size + 1 < w3.heap.size := Nat.lt_of_lt_of_le (by simp) hb3.size; have hk3 : bk < w3.heap.size := by omega
             have HB3 := Lib.hid hb3; clear hb3; rw [H1.out]))
      go_wp2
      go_ret
      exact ⟨rfl, HB2.out.trans ((HB3.out.trans (HB4.out.mono HB3.out.size)).mono (by simp; omega))⟩

theorem uses_any (B:Nat) (rs:List RG) (ps ks is:List Int) (nodes:List Nd) (fo:Option Addr) (nF cF:Nat) (po ko io no:Option Addr) (nP pc nK kc nI ic nN nc:Nat) (cells keep entry:Int) (res bd:Bool) (op bop d e a b f cell imm:Int) (args:List Int) (nx el:Int) (ao:Option Addr) (nA ac:Nat) (w:World) (HF0:RdP w B fo nF rs) (hk:Reads w B 1 ko nK (u8c ks)) (hkl:ks.length=nK) (ha:Reads w B 1 ao nA (i64c args)) (hal:args.length=nA) (hnA:nA*8≤140737488351232) (hB:B≤w.heap.size)
  (hh:bd=false→∀ g ∈ grs rs,headHolds g false) (ho0:0≤op) (ho1:op≤255) :
  Calls Tryd.prog 106 #[.agg #[.slice fo nF cF,.slice po nP pc,.slice ko nK kc,.int .i64 cells,.slice io nI ic,.bool res,.int .i64 keep,.slice no nN nc,.int .i64 entry,.bool bd],.agg #[.int .u8 op,.int .u8 bop,.int .i64 d,.int .i64 e,.int .i64 a,.int .i64 b,.int .i64 f,.int .i64 cell,.int .u64 imm,.slice ao nA ac,.int .i64 nx,.int .i64 el]] w fun ee w'=>ee=.returned (.bool (decide (uses (grs rs) ⟨ps,ks,cells,is,res,keep,nodes,entry⟩ bd ⟨op,bop,d,e,a,b,f,cell,imm,args,nx,el⟩)))∧Below w.heap.size w w':=by
 by_cases h1:op=1∨op=16∨op=9∨op=14∨op=17∨op=18∨op=10
 ·exact uses_a B rs ps ks is nodes fo nF cF po ko io no nP pc nK kc nI ic nN nc cells keep entry res bd op bop d e a b f cell imm args nx el ao nA ac w HF0 hk hkl ha hal hnA hB hh h1
 by_cases h2:op=4∨op=5∨op=6∨op=15∨op=3
 ·exact uses_b B rs ps ks is nodes fo nF cF po ko io no nP pc nK kc nI ic nN nc cells keep entry res bd op bop d e a b f cell imm args nx el ao nA ac w HF0 hk hkl ha hal hnA hB hh h2
 by_cases h3:op=7∨op=8
 ·exact uses_c B rs ps ks is nodes fo nF cF po ko io no nP pc nK kc nI ic nN nc cells keep entry res bd op bop d e a b f cell imm args nx el ao nA ac w HF0 hk hkl ha hal hnA hB hh h3
 by_cases h5:op=12∨op=13
 ·exact uses_e B rs ps ks is nodes fo nF cF po ko io no nP pc nK kc nI ic nN nc cells keep entry res bd op bop d e a b f cell imm args nx el ao nA ac w HF0 hk hkl ha hal hnA hB hh h5
 by_cases h6:op=11
 ·exact uses_f B rs ps ks is nodes fo nF cF po ko io no nP pc nK kc nI ic nN nc cells keep entry res bd op bop d e a b f cell imm args nx el ao nA ac w HF0 hk hkl ha hal hnA hB hh h6
 by_cases h4:op=2
 ·exact uses_d B rs ps ks is nodes fo nF cF po ko io no nP pc nK kc nI ic nN nc cells keep entry res bd op bop d e a b f cell imm args nx el ao nA ac w HF0 hk hkl ha hal hnA hB hh h4
 exact uses_z B rs ps ks is nodes fo nF cF po ko io no nP pc nK kc nI ic nN nc cells keep entry res bd op bop d e a b f cell imm args nx el ao nA ac w HF0 hk hkl ha hal hnA hB hh ho0 ho1 (by omega)
theorem headHolds_any (B:Nat) (ps ks is:List Int) (nodes:List Nd) (bd:Bool) (po ko io no:Option Addr) (nP pc nK kc nI ic nN nc:Nat) (cells keep entry:Int) (res:Bool) (w:World) (hp:Reads w B 1 po nP (i64c ps)) (hpl:ps.length=nP) (hpc:nP≤pc) (hnP:nP≤140737488351232) (hk:Reads w B 1 ko nK (u8c ks)) (hkl:ks.length=nK) (hnK:nK≤140737488351232) (hi:Reads w B 1 io nI (i64c is)) (hil:is.length=nI) (hnI:nI≤140737488351232) (hnl:nodes.length=nN) (hB:B≤w.heap.size) :
  Calls Tryd.prog 83 #[.agg #[.slice po nP pc,.slice ko nK kc,.int .i64 cells,.slice io nI ic,.bool res,.int .i64 keep,.slice no nN nc,.int .i64 entry],.bool bd] w fun e w'=>e=.returned (.bool (decide (headHolds ⟨ps,ks,cells,is,res,keep,nodes,entry⟩ bd)))∧Below w.heap.size w w':=by
 have HBL:Hid (Below w.heap.size w (w.alloc (.cells #[.slice po nP pc,.slice ko nK kc,.int .i64 cells,.slice io nI ic,.bool res,.int .i64 keep,.slice no nN nc,.int .i64 entry] 38))):=(Below.refl _ _).alloc (Nat.le_refl _) _
 have HBX:Hid (Blk (w.alloc (.cells #[.slice po nP pc,.slice ko nK kc,.int .i64 cells,.slice io nI ic,.bool res,.int .i64 keep,.slice no nN nc,.int .i64 entry] 38)) w.heap.size 38 #[.slice po nP pc,.slice ko nK kc,.int .i64 cells,.slice io nI ic,.bool res,.int .i64 keep,.slice no nN nc,.int .i64 entry]):=Blk.new w _ _
 have HP:=Lib.hid (hp.below (HBL.out.mono hB))
 have HK:=Lib.hid (hk.below (HBL.out.mono hB))
 have HP0:=Lib.hid hp
 have HK0:=Lib.hid hk
 have HI0:=Lib.hid hi
 have HPL:=Lib.hid hpl
 have HKL:=Lib.hid hkl
 have HIL:=Lib.hid hil
 have HNL:=Lib.hid hnl
 have hB1:B≤(w.alloc (.cells #[.slice po nP pc,.slice ko nK kc,.int .i64 cells,.slice io nI ic,.bool res,.int .i64 keep,.slice no nN nc,.int .i64 entry] 38)).heap.size:=by simp;omega
 have HDF:(headHolds ⟨ps,ks,cells,is,res,keep,nodes,entry⟩ bd↔kindsHold ks bd∧0≤cells∧cells≤64∧paramsHold ps ks bd∧initHolds ps ks is cells bd∧(keep=-1∨isOne keep cells)∧nN≤4096∧isOne entry nN):=by
  unfold headHolds
  simp only [hnl]
 clear hp hk hi hpl hkl hil hnl
 by_cases c1:kindsHold ks bd
 rotate_left
 ·have HD:Hid (decide (headHolds ⟨ps,ks,cells,is,res,keep,nodes,entry⟩ bd)=false):=Lib.hid (by rw [decide_eq_false_iff_not,HDF];rintro ⟨h1,h2,h3,h4,h5,h6,h7,h8⟩;exact c1 h1)
  have H1:Hid (decide (kindsHold ks bd)=false):=Lib.hid (decide_eq_false c1)
  clear HDF c1
  go_enter Tryd.func83,Tryd.ntmps83
  go_wp2_with (first
   | (go_at_call 100;refine (kindsHold_any B _ _ _ ks bd _ HK.out HKL.out hnK).mono ?_;rintro e w1 ⟨rfl,rfl⟩;rw [H1.out]))
  go_ret
  exact ⟨by rw [HD.out];rfl,HBL.out⟩
 have H1:Hid (decide (kindsHold ks bd)=true):=Lib.hid (decide_eq_true c1)
 by_cases c2:0≤cells
 rotate_left
 ·have HD:Hid (decide (headHolds ⟨ps,ks,cells,is,res,keep,nodes,entry⟩ bd)=false):=Lib.hid (by rw [decide_eq_false_iff_not,HDF];rintro ⟨h1,h2,h3,h4,h5,h6,h7,h8⟩;exact c2 h2)
  have g2:decide (cells≥0)=false:=by simp;omega
  clear HDF c1 c2
  go_enter Tryd.func83,Tryd.ntmps83
  go_wp2_with (first
   | (go_at_call 100;refine (kindsHold_any B _ _ _ ks bd _ HK.out HKL.out hnK).mono ?_;rintro e w1 ⟨rfl,rfl⟩;rw [H1.out]))
  go_ret
  exact ⟨by rw [HD.out];rfl,HBL.out⟩
 have g2:decide (cells≥0)=true:=by simp;omega
 by_cases c3:cells≤64
 rotate_left
 ·have HD:Hid (decide (headHolds ⟨ps,ks,cells,is,res,keep,nodes,entry⟩ bd)=false):=Lib.hid (by rw [decide_eq_false_iff_not,HDF];rintro ⟨h1,h2,h3,h4,h5,h6,h7,h8⟩;exact c3 h3)
  have g3:decide (cells≤64)=false:=by simp;omega
  clear HDF c1 c2 c3
  go_enter Tryd.func83,Tryd.ntmps83
  go_wp2_with (first
   | (go_at_call 100;refine (kindsHold_any B _ _ _ ks bd _ HK.out HKL.out hnK).mono ?_;rintro e w1 ⟨rfl,rfl⟩;rw [H1.out]))
  go_ret
  exact ⟨by rw [HD.out];rfl,HBL.out⟩
 have g3:decide (cells≤64)=true:=by simp;omega
 by_cases c4:paramsHold ps ks bd
 rotate_left
 ·have HD:Hid (decide (headHolds ⟨ps,ks,cells,is,res,keep,nodes,entry⟩ bd)=false):=Lib.hid (by rw [decide_eq_false_iff_not,HDF];rintro ⟨h1,h2,h3,h4,h5,h6,h7,h8⟩;exact c4 h4)
  have H4:Hid (decide (paramsHold ps ks bd)=false):=Lib.hid (decide_eq_false c4)
  clear HDF c1 c2 c3 c4
  go_enter Tryd.func83,Tryd.ntmps83
  go_wp2_with (first
   | (go_at_call 100;refine (kindsHold_any B _ _ _ ks bd _ HK.out HKL.out hnK).mono ?_;rintro e w1 ⟨rfl,rfl⟩;rw [H1.out])
   | (go_at_call 101;refine (paramsHold_any B ps ks bd _ _ _ _ _ _ _ _ _ _ _ _ _ _ _ _ _ HP.out HPL.out hpc hnP HKL.out hB1).mono ?_;rintro e w2 ⟨rfl,hb2⟩;have hbx2:=HBX.out.below hb2 HBX.out.lt;have e0:w2.cell? ⟨w.heap.size,0,none⟩=some (.slice po nP pc):=hbx2.cell 0;have e1:w2.cell? ⟨w.heap.size,1,none⟩=some (.slice ko nK kc):=hbx2.cell 1;have e2:w2.cell? ⟨w.heap.size,2,none⟩=some (.int .i64 cells):=hbx2.cell 2;have e3:w2.cell? ⟨w.heap.size,3,none⟩=some (.slice io nI ic):=hbx2.cell 3;have e4:w2.cell? ⟨w.heap.size,4,none⟩=some (.bool res):=hbx2.cell 4;have e5:w2.cell? ⟨w.heap.size,5,none⟩=some (.int .i64 keep):=hbx2.cell 5;have e6:w2.cell? ⟨w.heap.size,6,none⟩=some (.slice no nN nc):=hbx2.cell 6;have e7:w2.cell? ⟨w.heap.size,7,none⟩=some (.int .i64 entry):=hbx2.cell 7;have HBL2:=Lib.hid (HBL.out.trans (hb2.mono HBL.out.size));have hs2:w.heap.size<w2.heap.size:=hbx2.lt;have HX2:=Lib.hid hbx2;clear hb2 hbx2;rw [H4.out]))
  go_ret
  exact ⟨by rw [HD.out];rfl,HBL2.out⟩
 have H4:Hid (decide (paramsHold ps ks bd)=true):=Lib.hid (decide_eq_true c4)
 have HPP:=Lib.hid c4
 by_cases c5:initHolds ps ks is cells bd
 rotate_left
 ·have HD:Hid (decide (headHolds ⟨ps,ks,cells,is,res,keep,nodes,entry⟩ bd)=false):=Lib.hid (by rw [decide_eq_false_iff_not,HDF];rintro ⟨h1,h2,h3,h4,h5,h6,h7,h8⟩;exact c5 h5)
  have H5:Hid (decide (initHolds ps ks is cells bd)=false):=Lib.hid (decide_eq_false c5)
  clear HDF c1 c2 c3 c4 c5
  go_enter Tryd.func83,Tryd.ntmps83
  go_wp2_with (first
   | (go_at_call 100;refine (kindsHold_any B _ _ _ ks bd _ HK.out HKL.out hnK).mono ?_;rintro e w1 ⟨rfl,rfl⟩;rw [H1.out])
   | (go_at_call 101;refine (paramsHold_any B ps ks bd _ _ _ _ _ _ _ _ _ _ _ _ _ _ _ _ _ HP.out HPL.out hpc hnP HKL.out hB1).mono ?_;rintro e w2 ⟨rfl,hb2⟩;have hbx2:=HBX.out.below hb2 HBX.out.lt;have e0:w2.cell? ⟨w.heap.size,0,none⟩=some (.slice po nP pc):=hbx2.cell 0;have e1:w2.cell? ⟨w.heap.size,1,none⟩=some (.slice ko nK kc):=hbx2.cell 1;have e2:w2.cell? ⟨w.heap.size,2,none⟩=some (.int .i64 cells):=hbx2.cell 2;have e3:w2.cell? ⟨w.heap.size,3,none⟩=some (.slice io nI ic):=hbx2.cell 3;have e4:w2.cell? ⟨w.heap.size,4,none⟩=some (.bool res):=hbx2.cell 4;have e5:w2.cell? ⟨w.heap.size,5,none⟩=some (.int .i64 keep):=hbx2.cell 5;have e6:w2.cell? ⟨w.heap.size,6,none⟩=some (.slice no nN nc):=hbx2.cell 6;have e7:w2.cell? ⟨w.heap.size,7,none⟩=some (.int .i64 entry):=hbx2.cell 7;have HBL2:=Lib.hid (HBL.out.trans (hb2.mono HBL.out.size));have hs2:w.heap.size<w2.heap.size:=hbx2.lt;have HX2:=Lib.hid hbx2;clear hb2 hbx2;rw [H4.out])
   | (go_at_call 102;refine (initHolds_any B ps ks is bd _ _ _ _ _ _ _ _ _ _ _ _ _ _ _ _ w2 (HP0.out.below (HBL2.out.mono hB)) HPL.out (HK0.out.below (HBL2.out.mono hB)) HKL.out (HI0.out.below (HBL2.out.mono hB)) HIL.out hnI (by omega) HPP.out).mono ?_;rintro e w3 ⟨rfl,hb3⟩;have hbx3:=HX2.out.below hb3 hs2;have f0:w3.cell? ⟨w.heap.size,0,none⟩=some (.slice po nP pc):=hbx3.cell 0;have f1:w3.cell? ⟨w.heap.size,1,none⟩=some (.slice ko nK kc):=hbx3.cell 1;have f2:w3.cell? ⟨w.heap.size,2,none⟩=some (.int .i64 cells):=hbx3.cell 2;have f3:w3.cell? ⟨w.heap.size,3,none⟩=some (.slice io nI ic):=hbx3.cell 3;have f4:w3.cell? ⟨w.heap.size,4,none⟩=some (.bool res):=hbx3.cell 4;have f5:w3.cell? ⟨w.heap.size,5,none⟩=some (.int .i64 keep):=hbx3.cell 5;have f6:w3.cell? ⟨w.heap.size,6,none⟩=some (.slice no nN nc):=hbx3.cell 6;have f7:w3.cell? ⟨w.heap.size,7,none⟩=some (.int .i64 entry):=hbx3.cell 7;have HBL3:=Lib.hid (HBL2.out.trans (hb3.mono HBL2.out.size));clear hb3 hbx3;rw [H5.out]))
  go_ret
  exact ⟨by rw [HD.out];rfl,HBL3.out⟩
 have H5:Hid (decide (initHolds ps ks is cells bd)=true):=Lib.hid (decide_eq_true c5)
 by_cases c6:keep=-1∨isOne keep cells
 rotate_left
 ·have HD:Hid (decide (headHolds ⟨ps,ks,cells,is,res,keep,nodes,entry⟩ bd)=false):=Lib.hid (by rw [decide_eq_false_iff_not,HDF];rintro ⟨h1,h2,h3,h4,h5,h6,h7,h8⟩;exact c6 h6)
  have g6:(keep == -1)=false:=by simp;exact fun h=>c6 (.inl h)
  have H6:Hid (decide (isOne keep cells)=false):=Lib.hid (decide_eq_false fun h=>c6 (.inr h))
  have H8:=H6
  clear HDF c1 c2 c3 c4 c5 c6
  go_enter Tryd.func83,Tryd.ntmps83
  go_wp2_with (first
   | (go_at_call 100;refine (kindsHold_any B _ _ _ ks bd _ HK.out HKL.out hnK).mono ?_;rintro e w1 ⟨rfl,rfl⟩;rw [H1.out])
   | (go_at_call 101;refine (paramsHold_any B ps ks bd _ _ _ _ _ _ _ _ _ _ _ _ _ _ _ _ _ HP.out HPL.out hpc hnP HKL.out hB1).mono ?_;rintro e w2 ⟨rfl,hb2⟩;have hbx2:=HBX.out.below hb2 HBX.out.lt;have e0:w2.cell? ⟨w.heap.size,0,none⟩=some (.slice po nP pc):=hbx2.cell 0;have e1:w2.cell? ⟨w.heap.size,1,none⟩=some (.slice ko nK kc):=hbx2.cell 1;have e2:w2.cell? ⟨w.heap.size,2,none⟩=some (.int .i64 cells):=hbx2.cell 2;have e3:w2.cell? ⟨w.heap.size,3,none⟩=some (.slice io nI ic):=hbx2.cell 3;have e4:w2.cell? ⟨w.heap.size,4,none⟩=some (.bool res):=hbx2.cell 4;have e5:w2.cell? ⟨w.heap.size,5,none⟩=some (.int .i64 keep):=hbx2.cell 5;have e6:w2.cell? ⟨w.heap.size,6,none⟩=some (.slice no nN nc):=hbx2.cell 6;have e7:w2.cell? ⟨w.heap.size,7,none⟩=some (.int .i64 entry):=hbx2.cell 7;have HBL2:=Lib.hid (HBL.out.trans (hb2.mono HBL.out.size));have hs2:w.heap.size<w2.heap.size:=hbx2.lt;have HX2:=Lib.hid hbx2;clear hb2 hbx2;rw [H4.out])
   | (go_at_call 102;refine (initHolds_any B ps ks is bd _ _ _ _ _ _ _ _ _ _ _ _ _ _ _ _ w2 (HP0.out.below (HBL2.out.mono hB)) HPL.out (HK0.out.below (HBL2.out.mono hB)) HKL.out (HI0.out.below (HBL2.out.mono hB)) HIL.out hnI (by omega) HPP.out).mono ?_;rintro e w3 ⟨rfl,hb3⟩;have hbx3:=HX2.out.below hb3 hs2;have f0:w3.cell? ⟨w.heap.size,0,none⟩=some (.slice po nP pc):=hbx3.cell 0;have f1:w3.cell? ⟨w.heap.size,1,none⟩=some (.slice ko nK kc):=hbx3.cell 1;have f2:w3.cell? ⟨w.heap.size,2,none⟩=some (.int .i64 cells):=hbx3.cell 2;have f3:w3.cell? ⟨w.heap.size,3,none⟩=some (.slice io nI ic):=hbx3.cell 3;have f4:w3.cell? ⟨w.heap.size,4,none⟩=some (.bool res):=hbx3.cell 4;have f5:w3.cell? ⟨w.heap.size,5,none⟩=some (.int .i64 keep):=hbx3.cell 5;have f6:w3.cell? ⟨w.heap.size,6,none⟩=some (.slice no nN nc):=hbx3.cell 6;have f7:w3.cell? ⟨w.heap.size,7,none⟩=some (.int .i64 entry):=hbx3.cell 7;have HBL3:=Lib.hid (HBL2.out.trans (hb3.mono HBL2.out.size));clear hb3 hbx3;rw [H5.out])
   | (go_at_call 103;refine (isOne_any _ _ _).mono ?_;rintro e w4 ⟨rfl,rfl⟩;first | rw [H6.out] | rw [H8.out]))
  go_ret
  exact ⟨by rw [HD.out];rfl,HBL3.out⟩
 by_cases c7:nN≤4096
 rotate_left
 ·have HD:Hid (decide (headHolds ⟨ps,ks,cells,is,res,keep,nodes,entry⟩ bd)=false):=Lib.hid (by rw [decide_eq_false_iff_not,HDF];rintro ⟨h1,h2,h3,h4,h5,h6,h7,h8⟩;exact c7 h7)
  rcases c6 with c6 | c6
  ·have g6:(keep == -1)=true:=by simpa using c6
   have g7:decide ((nN:Int)≤4096)=false:=by simp;omega
   clear HDF c1 c2 c3 c4 c5 c6 c7
   go_enter Tryd.func83,Tryd.ntmps83
   go_wp2_with (first
    | (go_at_call 100;refine (kindsHold_any B _ _ _ ks bd _ HK.out HKL.out hnK).mono ?_;rintro e w1 ⟨rfl,rfl⟩;rw [H1.out])
    | (go_at_call 101;refine (paramsHold_any B ps ks bd _ _ _ _ _ _ _ _ _ _ _ _ _ _ _ _ _ HP.out HPL.out hpc hnP HKL.out hB1).mono ?_;rintro e w2 ⟨rfl,hb2⟩;have hbx2:=HBX.out.below hb2 HBX.out.lt;have e0:w2.cell? ⟨w.heap.size,0,none⟩=some (.slice po nP pc):=hbx2.cell 0;have e1:w2.cell? ⟨w.heap.size,1,none⟩=some (.slice ko nK kc):=hbx2.cell 1;have e2:w2.cell? ⟨w.heap.size,2,none⟩=some (.int .i64 cells):=hbx2.cell 2;have e3:w2.cell? ⟨w.heap.size,3,none⟩=some (.slice io nI ic):=hbx2.cell 3;have e4:w2.cell? ⟨w.heap.size,4,none⟩=some (.bool res):=hbx2.cell 4;have e5:w2.cell? ⟨w.heap.size,5,none⟩=some (.int .i64 keep):=hbx2.cell 5;have e6:w2.cell? ⟨w.heap.size,6,none⟩=some (.slice no nN nc):=hbx2.cell 6;have e7:w2.cell? ⟨w.heap.size,7,none⟩=some (.int .i64 entry):=hbx2.cell 7;have HBL2:=Lib.hid (HBL.out.trans (hb2.mono HBL.out.size));have hs2:w.heap.size<w2.heap.size:=hbx2.lt;have HX2:=Lib.hid hbx2;clear hb2 hbx2;rw [H4.out])
    | (go_at_call 102;refine (initHolds_any B ps ks is bd _ _ _ _ _ _ _ _ _ _ _ _ _ _ _ _ w2 (HP0.out.below (HBL2.out.mono hB)) HPL.out (HK0.out.below (HBL2.out.mono hB)) HKL.out (HI0.out.below (HBL2.out.mono hB)) HIL.out hnI (by omega) HPP.out).mono ?_;rintro e w3 ⟨rfl,hb3⟩;have hbx3:=HX2.out.below hb3 hs2;have f0:w3.cell? ⟨w.heap.size,0,none⟩=some (.slice po nP pc):=hbx3.cell 0;have f1:w3.cell? ⟨w.heap.size,1,none⟩=some (.slice ko nK kc):=hbx3.cell 1;have f2:w3.cell? ⟨w.heap.size,2,none⟩=some (.int .i64 cells):=hbx3.cell 2;have f3:w3.cell? ⟨w.heap.size,3,none⟩=some (.slice io nI ic):=hbx3.cell 3;have f4:w3.cell? ⟨w.heap.size,4,none⟩=some (.bool res):=hbx3.cell 4;have f5:w3.cell? ⟨w.heap.size,5,none⟩=some (.int .i64 keep):=hbx3.cell 5;have f6:w3.cell? ⟨w.heap.size,6,none⟩=some (.slice no nN nc):=hbx3.cell 6;have f7:w3.cell? ⟨w.heap.size,7,none⟩=some (.int .i64 entry):=hbx3.cell 7;have HBL3:=Lib.hid (HBL2.out.trans (hb3.mono HBL2.out.size));clear hb3 hbx3;rw [H5.out]))
   go_ret
   exact ⟨by rw [HD.out];rfl,HBL3.out⟩
  ·have H6:Hid (decide (isOne keep cells)=true):=Lib.hid (decide_eq_true c6)
   have g6:(keep == -1)=false:=by have:=c6.1;simp;omega
   have g7:decide ((nN:Int)≤4096)=false:=by simp;omega
   have H8:=H6
   clear HDF c1 c2 c3 c4 c5 c6 c7
   go_enter Tryd.func83,Tryd.ntmps83
   go_wp2_with (first
    | (go_at_call 100;refine (kindsHold_any B _ _ _ ks bd _ HK.out HKL.out hnK).mono ?_;rintro e w1 ⟨rfl,rfl⟩;rw [H1.out])
    | (go_at_call 101;refine (paramsHold_any B ps ks bd _ _ _ _ _ _ _ _ _ _ _ _ _ _ _ _ _ HP.out HPL.out hpc hnP HKL.out hB1).mono ?_;rintro e w2 ⟨rfl,hb2⟩;have hbx2:=HBX.out.below hb2 HBX.out.lt;have e0:w2.cell? ⟨w.heap.size,0,none⟩=some (.slice po nP pc):=hbx2.cell 0;have e1:w2.cell? ⟨w.heap.size,1,none⟩=some (.slice ko nK kc):=hbx2.cell 1;have e2:w2.cell? ⟨w.heap.size,2,none⟩=some (.int .i64 cells):=hbx2.cell 2;have e3:w2.cell? ⟨w.heap.size,3,none⟩=some (.slice io nI ic):=hbx2.cell 3;have e4:w2.cell? ⟨w.heap.size,4,none⟩=some (.bool res):=hbx2.cell 4;have e5:w2.cell? ⟨w.heap.size,5,none⟩=some (.int .i64 keep):=hbx2.cell 5;have e6:w2.cell? ⟨w.heap.size,6,none⟩=some (.slice no nN nc):=hbx2.cell 6;have e7:w2.cell? ⟨w.heap.size,7,none⟩=some (.int .i64 entry):=hbx2.cell 7;have HBL2:=Lib.hid (HBL.out.trans (hb2.mono HBL.out.size));have hs2:w.heap.size<w2.heap.size:=hbx2.lt;have HX2:=Lib.hid hbx2;clear hb2 hbx2;rw [H4.out])
    | (go_at_call 102;refine (initHolds_any B ps ks is bd _ _ _ _ _ _ _ _ _ _ _ _ _ _ _ _ w2 (HP0.out.below (HBL2.out.mono hB)) HPL.out (HK0.out.below (HBL2.out.mono hB)) HKL.out (HI0.out.below (HBL2.out.mono hB)) HIL.out hnI (by omega) HPP.out).mono ?_;rintro e w3 ⟨rfl,hb3⟩;have hbx3:=HX2.out.below hb3 hs2;have f0:w3.cell? ⟨w.heap.size,0,none⟩=some (.slice po nP pc):=hbx3.cell 0;have f1:w3.cell? ⟨w.heap.size,1,none⟩=some (.slice ko nK kc):=hbx3.cell 1;have f2:w3.cell? ⟨w.heap.size,2,none⟩=some (.int .i64 cells):=hbx3.cell 2;have f3:w3.cell? ⟨w.heap.size,3,none⟩=some (.slice io nI ic):=hbx3.cell 3;have f4:w3.cell? ⟨w.heap.size,4,none⟩=some (.bool res):=hbx3.cell 4;have f5:w3.cell? ⟨w.heap.size,5,none⟩=some (.int .i64 keep):=hbx3.cell 5;have f6:w3.cell? ⟨w.heap.size,6,none⟩=some (.slice no nN nc):=hbx3.cell 6;have f7:w3.cell? ⟨w.heap.size,7,none⟩=some (.int .i64 entry):=hbx3.cell 7;have HBL3:=Lib.hid (HBL2.out.trans (hb3.mono HBL2.out.size));clear hb3 hbx3;rw [H5.out])
    | (go_at_call 103;refine (isOne_any _ _ _).mono ?_;rintro e w4 ⟨rfl,rfl⟩;first | rw [H6.out] | rw [H8.out]))
   go_ret
   exact ⟨by rw [HD.out];rfl,HBL3.out⟩
 have g7:decide ((nN:Int)≤4096)=true:=by simp;omega
 by_cases c8:isOne entry nN
 rotate_left
 ·have HD:Hid (decide (headHolds ⟨ps,ks,cells,is,res,keep,nodes,entry⟩ bd)=false):=Lib.hid (by rw [decide_eq_false_iff_not,HDF];rintro ⟨h1,h2,h3,h4,h5,h6,h7,h8⟩;exact c8 h8)
  rcases c6 with c6 | c6
  ·have g6:(keep == -1)=true:=by simpa using c6
   have H8:Hid (decide (isOne entry nN)=false):=Lib.hid (decide_eq_false c8)
   have H6:=H8
   clear HDF c1 c2 c3 c4 c5 c6 c7 c8
   go_enter Tryd.func83,Tryd.ntmps83
   go_wp2_with (first
    | (go_at_call 100;refine (kindsHold_any B _ _ _ ks bd _ HK.out HKL.out hnK).mono ?_;rintro e w1 ⟨rfl,rfl⟩;rw [H1.out])
    | (go_at_call 101;refine (paramsHold_any B ps ks bd _ _ _ _ _ _ _ _ _ _ _ _ _ _ _ _ _ HP.out HPL.out hpc hnP HKL.out hB1).mono ?_;rintro e w2 ⟨rfl,hb2⟩;have hbx2:=HBX.out.below hb2 HBX.out.lt;have e0:w2.cell? ⟨w.heap.size,0,none⟩=some (.slice po nP pc):=hbx2.cell 0;have e1:w2.cell? ⟨w.heap.size,1,none⟩=some (.slice ko nK kc):=hbx2.cell 1;have e2:w2.cell? ⟨w.heap.size,2,none⟩=some (.int .i64 cells):=hbx2.cell 2;have e3:w2.cell? ⟨w.heap.size,3,none⟩=some (.slice io nI ic):=hbx2.cell 3;have e4:w2.cell? ⟨w.heap.size,4,none⟩=some (.bool res):=hbx2.cell 4;have e5:w2.cell? ⟨w.heap.size,5,none⟩=some (.int .i64 keep):=hbx2.cell 5;have e6:w2.cell? ⟨w.heap.size,6,none⟩=some (.slice no nN nc):=hbx2.cell 6;have e7:w2.cell? ⟨w.heap.size,7,none⟩=some (.int .i64 entry):=hbx2.cell 7;have HBL2:=Lib.hid (HBL.out.trans (hb2.mono HBL.out.size));have hs2:w.heap.size<w2.heap.size:=hbx2.lt;have HX2:=Lib.hid hbx2;clear hb2 hbx2;rw [H4.out])
    | (go_at_call 102;refine (initHolds_any B ps ks is bd _ _ _ _ _ _ _ _ _ _ _ _ _ _ _ _ w2 (HP0.out.below (HBL2.out.mono hB)) HPL.out (HK0.out.below (HBL2.out.mono hB)) HKL.out (HI0.out.below (HBL2.out.mono hB)) HIL.out hnI (by omega) HPP.out).mono ?_;rintro e w3 ⟨rfl,hb3⟩;have hbx3:=HX2.out.below hb3 hs2;have f0:w3.cell? ⟨w.heap.size,0,none⟩=some (.slice po nP pc):=hbx3.cell 0;have f1:w3.cell? ⟨w.heap.size,1,none⟩=some (.slice ko nK kc):=hbx3.cell 1;have f2:w3.cell? ⟨w.heap.size,2,none⟩=some (.int .i64 cells):=hbx3.cell 2;have f3:w3.cell? ⟨w.heap.size,3,none⟩=some (.slice io nI ic):=hbx3.cell 3;have f4:w3.cell? ⟨w.heap.size,4,none⟩=some (.bool res):=hbx3.cell 4;have f5:w3.cell? ⟨w.heap.size,5,none⟩=some (.int .i64 keep):=hbx3.cell 5;have f6:w3.cell? ⟨w.heap.size,6,none⟩=some (.slice no nN nc):=hbx3.cell 6;have f7:w3.cell? ⟨w.heap.size,7,none⟩=some (.int .i64 entry):=hbx3.cell 7;have HBL3:=Lib.hid (HBL2.out.trans (hb3.mono HBL2.out.size));clear hb3 hbx3;rw [H5.out])
    | (go_at_call 103;refine (isOne_any _ _ _).mono ?_;rintro e w4 ⟨rfl,rfl⟩;first | rw [H6.out] | rw [H8.out]))
   go_ret
   exact ⟨by rw [HD.out];rfl,HBL3.out⟩
  ·have H6:Hid (decide (isOne keep cells)=true):=Lib.hid (decide_eq_true c6)
   have g6:(keep == -1)=false:=by have:=c6.1;simp;omega
   have H8:Hid (decide (isOne entry nN)=false):=Lib.hid (decide_eq_false c8)
   clear HDF c1 c2 c3 c4 c5 c6 c7 c8
   go_enter Tryd.func83,Tryd.ntmps83
   go_wp2_with (first
    | (go_at_call 100;refine (kindsHold_any B _ _ _ ks bd _ HK.out HKL.out hnK).mono ?_;rintro e w1 ⟨rfl,rfl⟩;rw [H1.out])
    | (go_at_call 101;refine (paramsHold_any B ps ks bd _ _ _ _ _ _ _ _ _ _ _ _ _ _ _ _ _ HP.out HPL.out hpc hnP HKL.out hB1).mono ?_;rintro e w2 ⟨rfl,hb2⟩;have hbx2:=HBX.out.below hb2 HBX.out.lt;have e0:w2.cell? ⟨w.heap.size,0,none⟩=some (.slice po nP pc):=hbx2.cell 0;have e1:w2.cell? ⟨w.heap.size,1,none⟩=some (.slice ko nK kc):=hbx2.cell 1;have e2:w2.cell? ⟨w.heap.size,2,none⟩=some (.int .i64 cells):=hbx2.cell 2;have e3:w2.cell? ⟨w.heap.size,3,none⟩=some (.slice io nI ic):=hbx2.cell 3;have e4:w2.cell? ⟨w.heap.size,4,none⟩=some (.bool res):=hbx2.cell 4;have e5:w2.cell? ⟨w.heap.size,5,none⟩=some (.int .i64 keep):=hbx2.cell 5;have e6:w2.cell? ⟨w.heap.size,6,none⟩=some (.slice no nN nc):=hbx2.cell 6;have e7:w2.cell? ⟨w.heap.size,7,none⟩=some (.int .i64 entry):=hbx2.cell 7;have HBL2:=Lib.hid (HBL.out.trans (hb2.mono HBL.out.size));have hs2:w.heap.size<w2.heap.size:=hbx2.lt;have HX2:=Lib.hid hbx2;clear hb2 hbx2;rw [H4.out])
    | (go_at_call 102;refine (initHolds_any B ps ks is bd _ _ _ _ _ _ _ _ _ _ _ _ _ _ _ _ w2 (HP0.out.below (HBL2.out.mono hB)) HPL.out (HK0.out.below (HBL2.out.mono hB)) HKL.out (HI0.out.below (HBL2.out.mono hB)) HIL.out hnI (by omega) HPP.out).mono ?_;rintro e w3 ⟨rfl,hb3⟩;have hbx3:=HX2.out.below hb3 hs2;have f0:w3.cell? ⟨w.heap.size,0,none⟩=some (.slice po nP pc):=hbx3.cell 0;have f1:w3.cell? ⟨w.heap.size,1,none⟩=some (.slice ko nK kc):=hbx3.cell 1;have f2:w3.cell? ⟨w.heap.size,2,none⟩=some (.int .i64 cells):=hbx3.cell 2;have f3:w3.cell? ⟨w.heap.size,3,none⟩=some (.slice io nI ic):=hbx3.cell 3;have f4:w3.cell? ⟨w.heap.size,4,none⟩=some (.bool res):=hbx3.cell 4;have f5:w3.cell? ⟨w.heap.size,5,none⟩=some (.int .i64 keep):=hbx3.cell 5;have f6:w3.cell? ⟨w.heap.size,6,none⟩=some (.slice no nN nc):=hbx3.cell 6;have f7:w3.cell? ⟨w.heap.size,7,none⟩=some (.int .i64 entry):=hbx3.cell 7;have HBL3:=Lib.hid (HBL2.out.trans (hb3.mono HBL2.out.size));clear hb3 hbx3;rw [H5.out])
    | (go_at_call 103;refine (isOne_any _ _ _).mono ?_;rintro e w4 ⟨rfl,rfl⟩;first | rw [H6.out] | rw [H8.out]))
   go_ret
   exact ⟨by rw [HD.out];rfl,HBL3.out⟩
 have H8:Hid (decide (isOne entry nN)=true):=Lib.hid (decide_eq_true c8)
 have HD:Hid (decide (headHolds ⟨ps,ks,cells,is,res,keep,nodes,entry⟩ bd)=true):=Lib.hid (by rw [decide_eq_true_eq,HDF];exact ⟨c1,c2,c3,c4,c5,c6,c7,c8⟩)
 rcases c6 with c6 | c6
 ·have g6:(keep == -1)=true:=by simpa using c6
  have H6:=H8
  clear HDF c1 c2 c3 c4 c5 c6 c7 c8
  go_enter Tryd.func83,Tryd.ntmps83
  go_wp2_with (first
   | (go_at_call 100;refine (kindsHold_any B _ _ _ ks bd _ HK.out HKL.out hnK).mono ?_;rintro e w1 ⟨rfl,rfl⟩;rw [H1.out])
   | (go_at_call 101;refine (paramsHold_any B ps ks bd _ _ _ _ _ _ _ _ _ _ _ _ _ _ _ _ _ HP.out HPL.out hpc hnP HKL.out hB1).mono ?_;rintro e w2 ⟨rfl,hb2⟩;have hbx2:=HBX.out.below hb2 HBX.out.lt;have e0:w2.cell? ⟨w.heap.size,0,none⟩=some (.slice po nP pc):=hbx2.cell 0;have e1:w2.cell? ⟨w.heap.size,1,none⟩=some (.slice ko nK kc):=hbx2.cell 1;have e2:w2.cell? ⟨w.heap.size,2,none⟩=some (.int .i64 cells):=hbx2.cell 2;have e3:w2.cell? ⟨w.heap.size,3,none⟩=some (.slice io nI ic):=hbx2.cell 3;have e4:w2.cell? ⟨w.heap.size,4,none⟩=some (.bool res):=hbx2.cell 4;have e5:w2.cell? ⟨w.heap.size,5,none⟩=some (.int .i64 keep):=hbx2.cell 5;have e6:w2.cell? ⟨w.heap.size,6,none⟩=some (.slice no nN nc):=hbx2.cell 6;have e7:w2.cell? ⟨w.heap.size,7,none⟩=some (.int .i64 entry):=hbx2.cell 7;have HBL2:=Lib.hid (HBL.out.trans (hb2.mono HBL.out.size));have hs2:w.heap.size<w2.heap.size:=hbx2.lt;have HX2:=Lib.hid hbx2;clear hb2 hbx2;rw [H4.out])
   | (go_at_call 102;refine (initHolds_any B ps ks is bd _ _ _ _ _ _ _ _ _ _ _ _ _ _ _ _ w2 (HP0.out.below (HBL2.out.mono hB)) HPL.out (HK0.out.below (HBL2.out.mono hB)) HKL.out (HI0.out.below (HBL2.out.mono hB)) HIL.out hnI (by omega) HPP.out).mono ?_;rintro e w3 ⟨rfl,hb3⟩;have hbx3:=HX2.out.below hb3 hs2;have f0:w3.cell? ⟨w.heap.size,0,none⟩=some (.slice po nP pc):=hbx3.cell 0;have f1:w3.cell? ⟨w.heap.size,1,none⟩=some (.slice ko nK kc):=hbx3.cell 1;have f2:w3.cell? ⟨w.heap.size,2,none⟩=some (.int .i64 cells):=hbx3.cell 2;have f3:w3.cell? ⟨w.heap.size,3,none⟩=some (.slice io nI ic):=hbx3.cell 3;have f4:w3.cell? ⟨w.heap.size,4,none⟩=some (.bool res):=hbx3.cell 4;have f5:w3.cell? ⟨w.heap.size,5,none⟩=some (.int .i64 keep):=hbx3.cell 5;have f6:w3.cell? ⟨w.heap.size,6,none⟩=some (.slice no nN nc):=hbx3.cell 6;have f7:w3.cell? ⟨w.heap.size,7,none⟩=some (.int .i64 entry):=hbx3.cell 7;have HBL3:=Lib.hid (HBL2.out.trans (hb3.mono HBL2.out.size));clear hb3 hbx3;rw [H5.out])
   | (go_at_call 103;refine (isOne_any _ _ _).mono ?_;rintro e w4 ⟨rfl,rfl⟩;first | rw [H6.out] | rw [H8.out]))
  go_ret
  exact ⟨by rw [HD.out];rfl,HBL3.out⟩
 ·have H6:Hid (decide (isOne keep cells)=true):=Lib.hid (decide_eq_true c6)
  have g6:(keep == -1)=false:=by have:=c6.1;simp;omega
  clear HDF c1 c2 c3 c4 c5 c6 c7 c8
  go_enter Tryd.func83,Tryd.ntmps83
  go_wp2_with (first
   | (go_at_call 100;refine (kindsHold_any B _ _ _ ks bd _ HK.out HKL.out hnK).mono ?_;rintro e w1 ⟨rfl,rfl⟩;rw [H1.out])
   | (go_at_call 101;refine (paramsHold_any B ps ks bd _ _ _ _ _ _ _ _ _ _ _ _ _ _ _ _ _ HP.out HPL.out hpc hnP HKL.out hB1).mono ?_;rintro e w2 ⟨rfl,hb2⟩;have hbx2:=HBX.out.below hb2 HBX.out.lt;have e0:w2.cell? ⟨w.heap.size,0,none⟩=some (.slice po nP pc):=hbx2.cell 0;have e1:w2.cell? ⟨w.heap.size,1,none⟩=some (.slice ko nK kc):=hbx2.cell 1;have e2:w2.cell? ⟨w.heap.size,2,none⟩=some (.int .i64 cells):=hbx2.cell 2;have e3:w2.cell? ⟨w.heap.size,3,none⟩=some (.slice io nI ic):=hbx2.cell 3;have e4:w2.cell? ⟨w.heap.size,4,none⟩=some (.bool res):=hbx2.cell 4;have e5:w2.cell? ⟨w.heap.size,5,none⟩=some (.int .i64 keep):=hbx2.cell 5;have e6:w2.cell? ⟨w.heap.size,6,none⟩=some (.slice no nN nc):=hbx2.cell 6;have e7:w2.cell? ⟨w.heap.size,7,none⟩=some (.int .i64 entry):=hbx2.cell 7;have HBL2:=Lib.hid (HBL.out.trans (hb2.mono HBL.out.size));have hs2:w.heap.size<w2.heap.size:=hbx2.lt;have HX2:=Lib.hid hbx2;clear hb2 hbx2;rw [H4.out])
   | (go_at_call 102;refine (initHolds_any B ps ks is bd _ _ _ _ _ _ _ _ _ _ _ _ _ _ _ _ w2 (HP0.out.below (HBL2.out.mono hB)) HPL.out (HK0.out.below (HBL2.out.mono hB)) HKL.out (HI0.out.below (HBL2.out.mono hB)) HIL.out hnI (by omega) HPP.out).mono ?_;rintro e w3 ⟨rfl,hb3⟩;have hbx3:=HX2.out.below hb3 hs2;have f0:w3.cell? ⟨w.heap.size,0,none⟩=some (.slice po nP pc):=hbx3.cell 0;have f1:w3.cell? ⟨w.heap.size,1,none⟩=some (.slice ko nK kc):=hbx3.cell 1;have f2:w3.cell? ⟨w.heap.size,2,none⟩=some (.int .i64 cells):=hbx3.cell 2;have f3:w3.cell? ⟨w.heap.size,3,none⟩=some (.slice io nI ic):=hbx3.cell 3;have f4:w3.cell? ⟨w.heap.size,4,none⟩=some (.bool res):=hbx3.cell 4;have f5:w3.cell? ⟨w.heap.size,5,none⟩=some (.int .i64 keep):=hbx3.cell 5;have f6:w3.cell? ⟨w.heap.size,6,none⟩=some (.slice no nN nc):=hbx3.cell 6;have f7:w3.cell? ⟨w.heap.size,7,none⟩=some (.int .i64 entry):=hbx3.cell 7;have HBL3:=Lib.hid (HBL2.out.trans (hb3.mono HBL2.out.size));clear hb3 hbx3;rw [H5.out])
   | (go_at_call 103;refine (isOne_any _ _ _).mono ?_;rintro e w4 ⟨rfl,rfl⟩;first | rw [H6.out] | rw [H8.out]))
  go_ret
  exact ⟨by rw [HD.out];rfl,HBL3.out⟩
end Go.Proofs.YtepkogfiojkcpaaDoor
