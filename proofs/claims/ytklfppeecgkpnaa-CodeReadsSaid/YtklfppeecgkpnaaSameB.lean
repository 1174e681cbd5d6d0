/-
  Programs compared: slices.EqualFunc, package code's Same.
-/
import Derived.Test.YtklfppeecgkpnaaSameA
namespace Go.Proofs.Ytklfppeecgkpnaa
set_option linter.unusedVariables false
open Go.ChangeShapes Go.WideShapes Go.ChangeAt Go.RowKit

theorem boolEq (a b : Bool) : (a == b) = decide (a = b) := by cases a <;> cases b <;> rfl

set_option maxRecDepth 100000 in
set_option maxHeartbeats 3200000 in
theorem same_1 (B : Nat) (p p' kp kp' : Int) (lo lo' co co' : Option Addr) (nl nl' lc lc' nc nc' cc cc' : Nat) (rs rs' : Bool) (ls ls' : List Int) (is is' : List Ins) (w : World)
    (hL : Reads w B 1 lo nl (u8c ls)) (hL' : Reads w B 1 lo' nl' (u8c ls')) (hC : Reads w B 3 co nc (insc is)) (hC' : Reads w B 3 co' nc' (insc is')) (hll : ls.length = nl) (hll' : ls'.length = nl') (hcl : is.length = nc) (hcl' : is'.length = nc')
    (b1 : nl ≤ 140737488351232) (b2 : nl' ≤ 140737488351232) (b3 : nc ≤ 140737488351232) (b4 : nc' ≤ 140737488351232) (hB : B ≤ w.heap.size) (k1 : ¬ p = p') :
    Calls Try.prog 32 #[.agg #[.int .i64 p, .slice lo nl lc, .bool rs, .int .i64 kp, .slice co nc cc], .agg #[.int .i64 p', .slice lo' nl' lc', .bool rs', .int .i64 kp', .slice co' nc' cc']] w fun e w' => e = .returned (.bool false) ∧ Below w.heap.size w w' := by
  have HAB : Hid (Below w.heap.size w ((w.alloc (.cells #[.int .i64 p, .slice lo nl lc, .bool rs, .int .i64 kp, .slice co nc cc] 43)).alloc (.cells #[.int .i64 p', .slice lo' nl' lc', .bool rs', .int .i64 kp', .slice co' nc' cc'] 43))) := ((Below.refl _ _).alloc (Nat.le_refl _) _).alloc (by simp) _
  clear hL hL' hC hC' hll hll' hcl hcl'
  have g1 : (p == p') = false := by simpa using k1
  clear k1
  go_enter Try.func32, Try.ntmps32
  go_wp2
  go_ret
  exact ⟨rfl, HAB.out⟩

set_option maxRecDepth 100000 in
set_option maxHeartbeats 3200000 in
theorem same_2 (B : Nat) (p p' kp kp' : Int) (lo lo' co co' : Option Addr) (nl nl' lc lc' nc nc' cc cc' : Nat) (rs rs' : Bool) (ls ls' : List Int) (is is' : List Ins) (w : World)
    (hL : Reads w B 1 lo nl (u8c ls)) (hL' : Reads w B 1 lo' nl' (u8c ls')) (hC : Reads w B 3 co nc (insc is)) (hC' : Reads w B 3 co' nc' (insc is')) (hll : ls.length = nl) (hll' : ls'.length = nl') (hcl : is.length = nc) (hcl' : is'.length = nc')
    (b1 : nl ≤ 140737488351232) (b2 : nl' ≤ 140737488351232) (b3 : nc ≤ 140737488351232) (b4 : nc' ≤ 140737488351232) (hB : B ≤ w.heap.size) (k1 : p = p') (k2 : ¬ rs = rs') :
    Calls Try.prog 32 #[.agg #[.int .i64 p, .slice lo nl lc, .bool rs, .int .i64 kp, .slice co nc cc], .agg #[.int .i64 p', .slice lo' nl' lc', .bool rs', .int .i64 kp', .slice co' nc' cc']] w fun e w' => e = .returned (.bool false) ∧ Below w.heap.size w w' := by
  have HAB : Hid (Below w.heap.size w ((w.alloc (.cells #[.int .i64 p, .slice lo nl lc, .bool rs, .int .i64 kp, .slice co nc cc] 43)).alloc (.cells #[.int .i64 p', .slice lo' nl' lc', .bool rs', .int .i64 kp', .slice co' nc' cc'] 43))) := ((Below.refl _ _).alloc (Nat.le_refl _) _).alloc (by simp) _
  clear hL hL' hC hC' hll hll' hcl hcl'
  subst k1
  have g1 : (p == p) = true := by simp
  have HK := Lib.hid k2
  clear k2
  cases rs <;> cases rs'
  · exact absurd rfl HK.out
  rotate_right
  · exact absurd rfl HK.out
  all_goals
    go_enter Try.func32, Try.ntmps32
    go_wp2
    go_ret
    exact ⟨rfl, HAB.out⟩

set_option maxRecDepth 100000 in
set_option maxHeartbeats 3200000 in
theorem same_3 (B : Nat) (p p' kp kp' : Int) (lo lo' co co' : Option Addr) (nl nl' lc lc' nc nc' cc cc' : Nat) (rs rs' : Bool) (ls ls' : List Int) (is is' : List Ins) (w : World)
    (hL : Reads w B 1 lo nl (u8c ls)) (hL' : Reads w B 1 lo' nl' (u8c ls')) (hC : Reads w B 3 co nc (insc is)) (hC' : Reads w B 3 co' nc' (insc is')) (hll : ls.length = nl) (hll' : ls'.length = nl') (hcl : is.length = nc) (hcl' : is'.length = nc')
    (b1 : nl ≤ 140737488351232) (b2 : nl' ≤ 140737488351232) (b3 : nc ≤ 140737488351232) (b4 : nc' ≤ 140737488351232) (hB : B ≤ w.heap.size) (k1 : p = p') (k2 : rs = rs') (k3 : ¬ kp = kp') :
    Calls Try.prog 32 #[.agg #[.int .i64 p, .slice lo nl lc, .bool rs, .int .i64 kp, .slice co nc cc], .agg #[.int .i64 p', .slice lo' nl' lc', .bool rs', .int .i64 kp', .slice co' nc' cc']] w fun e w' => e = .returned (.bool false) ∧ Below w.heap.size w w' := by
  have HAB : Hid (Below w.heap.size w ((w.alloc (.cells #[.int .i64 p, .slice lo nl lc, .bool rs, .int .i64 kp, .slice co nc cc] 43)).alloc (.cells #[.int .i64 p', .slice lo' nl' lc', .bool rs', .int .i64 kp', .slice co' nc' cc'] 43))) := ((Below.refl _ _).alloc (Nat.le_refl _) _).alloc (by simp) _
  clear hL hL' hC hC' hll hll' hcl hcl'
  subst k1
  subst k2
  have g3 : (kp == kp') = false := by simpa using k3
  clear k3
  cases rs
  all_goals
    go_enter Try.func32, Try.ntmps32
    go_wp2
    go_ret
    exact ⟨rfl, HAB.out⟩

set_option maxRecDepth 100000 in
set_option maxHeartbeats 3200000 in
theorem same_4 (B : Nat) (p p' kp kp' : Int) (lo lo' co co' : Option Addr) (nl nl' lc lc' nc nc' cc cc' : Nat) (rs rs' : Bool) (ls ls' : List Int) (is is' : List Ins) (w : World)
    (hL : Reads w B 1 lo nl (u8c ls)) (hL' : Reads w B 1 lo' nl' (u8c ls')) (hC : Reads w B 3 co nc (insc is)) (hC' : Reads w B 3 co' nc' (insc is')) (hll : ls.length = nl) (hll' : ls'.length = nl') (hcl : is.length = nc) (hcl' : is'.length = nc')
    (b1 : nl ≤ 140737488351232) (b2 : nl' ≤ 140737488351232) (b3 : nc ≤ 140737488351232) (b4 : nc' ≤ 140737488351232) (hB : B ≤ w.heap.size) (k1 : p = p') (k2 : rs = rs') (k3 : kp = kp') (k4 : ¬ ls = ls') :
    Calls Try.prog 32 #[.agg #[.int .i64 p, .slice lo nl lc, .bool rs, .int .i64 kp, .slice co nc cc], .agg #[.int .i64 p', .slice lo' nl' lc', .bool rs', .int .i64 kp', .slice co' nc' cc']] w fun e w' => e = .returned (.bool false) ∧ Below w.heap.size w w' := by
  have HAB : Hid (Below w.heap.size w ((w.alloc (.cells #[.int .i64 p, .slice lo nl lc, .bool rs, .int .i64 kp, .slice co nc cc] 43)).alloc (.cells #[.int .i64 p', .slice lo' nl' lc', .bool rs', .int .i64 kp', .slice co' nc' cc'] 43))) := ((Below.refl _ _).alloc (Nat.le_refl _) _).alloc (by simp) _
  have HL := Lib.hid ((hL.alloc hB (.cells #[.int .i64 p, .slice lo nl lc, .bool rs, .int .i64 kp, .slice co nc cc] 43)).alloc (by simp; omega) (.cells #[.int .i64 p', .slice lo' nl' lc', .bool rs', .int .i64 kp', .slice co' nc' cc'] 43))
  have HL' := Lib.hid ((hL'.alloc hB (.cells #[.int .i64 p, .slice lo nl lc, .bool rs, .int .i64 kp, .slice co nc cc] 43)).alloc (by simp; omega) (.cells #[.int .i64 p', .slice lo' nl' lc', .bool rs', .int .i64 kp', .slice co' nc' cc'] 43))
  have HC := Lib.hid ((hC.alloc hB (.cells #[.int .i64 p, .slice lo nl lc, .bool rs, .int .i64 kp, .slice co nc cc] 43)).alloc (by simp; omega) (.cells #[.int .i64 p', .slice lo' nl' lc', .bool rs', .int .i64 kp', .slice co' nc' cc'] 43))
  have HC' := Lib.hid ((hC'.alloc hB (.cells #[.int .i64 p, .slice lo nl lc, .bool rs, .int .i64 kp, .slice co nc cc] 43)).alloc (by simp; omega) (.cells #[.int .i64 p', .slice lo' nl' lc', .bool rs', .int .i64 kp', .slice co' nc' cc'] 43))
  have H1 := Lib.hid hll
  have H2 := Lib.hid hll'
  have H3 := Lib.hid hcl
  have H4 := Lib.hid hcl'
  clear hL hL' hC hC' hll hll' hcl hcl'
  subst k1
  subst k2
  subst k3
  have K4 : Hid (decide (ls = ls') = false) := Lib.hid (by simpa using k4)
  clear k4
  cases rs
  all_goals
    go_enter Try.func32, Try.ntmps32
    go_wp2_with (go_at_call 33; refine (equal_kinds B lo lo' nl nl' lc lc' ls ls' _ HL.out HL'.out H1.out H2.out b1 b2).mono ?_; rintro e w2 ⟨rfl, q, rfl⟩; rw [K4.out])
    go_ret
    exact ⟨rfl, below_drewN HAB.out _⟩

set_option maxRecDepth 100000 in
set_option maxHeartbeats 3200000 in
theorem same_5 (B : Nat) (p p' kp kp' : Int) (lo lo' co co' : Option Addr) (nl nl' lc lc' nc nc' cc cc' : Nat) (rs rs' : Bool) (ls ls' : List Int) (is is' : List Ins) (w : World)
    (hL : Reads w B 1 lo nl (u8c ls)) (hL' : Reads w B 1 lo' nl' (u8c ls')) (hC : Reads w B 3 co nc (insc is)) (hC' : Reads w B 3 co' nc' (insc is')) (hll : ls.length = nl) (hll' : ls'.length = nl') (hcl : is.length = nc) (hcl' : is'.length = nc')
    (b1 : nl ≤ 140737488351232) (b2 : nl' ≤ 140737488351232) (b3 : nc ≤ 140737488351232) (b4 : nc' ≤ 140737488351232) (hB : B ≤ w.heap.size) (k1 : p = p') (k2 : rs = rs') (k3 : kp = kp') (k4 : ls = ls') :
    Calls Try.prog 32 #[.agg #[.int .i64 p, .slice lo nl lc, .bool rs, .int .i64 kp, .slice co nc cc], .agg #[.int .i64 p', .slice lo' nl' lc', .bool rs', .int .i64 kp', .slice co' nc' cc']] w fun e w' => e = .returned (.bool (decide (is = is'))) ∧ Below w.heap.size w w' := by
  have HAB : Hid (Below w.heap.size w ((w.alloc (.cells #[.int .i64 p, .slice lo nl lc, .bool rs, .int .i64 kp, .slice co nc cc] 43)).alloc (.cells #[.int .i64 p', .slice lo' nl' lc', .bool rs', .int .i64 kp', .slice co' nc' cc'] 43))) := ((Below.refl _ _).alloc (Nat.le_refl _) _).alloc (by simp) _
  have HL := Lib.hid ((hL.alloc hB (.cells #[.int .i64 p, .slice lo nl lc, .bool rs, .int .i64 kp, .slice co nc cc] 43)).alloc (by simp; omega) (.cells #[.int .i64 p', .slice lo' nl' lc', .bool rs', .int .i64 kp', .slice co' nc' cc'] 43))
  have HL' := Lib.hid ((hL'.alloc hB (.cells #[.int .i64 p, .slice lo nl lc, .bool rs, .int .i64 kp, .slice co nc cc] 43)).alloc (by simp; omega) (.cells #[.int .i64 p', .slice lo' nl' lc', .bool rs', .int .i64 kp', .slice co' nc' cc'] 43))
  have HC := Lib.hid ((hC.alloc hB (.cells #[.int .i64 p, .slice lo nl lc, .bool rs, .int .i64 kp, .slice co nc cc] 43)).alloc (by simp; omega) (.cells #[.int .i64 p', .slice lo' nl' lc', .bool rs', .int .i64 kp', .slice co' nc' cc'] 43))
  have HC' := Lib.hid ((hC'.alloc hB (.cells #[.int .i64 p, .slice lo nl lc, .bool rs, .int .i64 kp, .slice co nc cc] 43)).alloc (by simp; omega) (.cells #[.int .i64 p', .slice lo' nl' lc', .bool rs', .int .i64 kp', .slice co' nc' cc'] 43))
  have H1 := Lib.hid hll
  have H2 := Lib.hid hll'
  have H3 := Lib.hid hcl
  have H4 := Lib.hid hcl'
  clear hL hL' hC hC' hll hll' hcl hcl'
  subst k1
  subst k2
  subst k3
  have K4 : Hid (decide (ls = ls') = true) := Lib.hid (by simpa using k4)
  clear k4
  cases rs
  all_goals
    go_enter Try.func32, Try.ntmps32
    go_wp2_with (first | (go_at_call 33; refine (equal_kinds B lo lo' nl nl' lc lc' ls ls' _ HL.out HL'.out H1.out H2.out b1 b2).mono ?_; rintro e w2 ⟨rfl, q, rfl⟩; rw [K4.out]) | (go_at_call 34; refine (equal_ins B co co' nc nc' cc cc' is is' _ (HC.out.drewN _) (HC'.out.drewN _) H3.out H4.out b3 b4).mono ?_; rintro e w3 ⟨rfl, q2, rfl⟩))
    go_ret
    exact ⟨rfl, below_drewN HAB.out _⟩

theorem fn_eq (f g : Fn) : decide (f = g) = (decide (f.params = g.params) && decide (f.result = g.result) && decide (f.keep = g.keep) && decide (f.locals = g.locals) && decide (f.code = g.code)) := by
  obtain ⟨a1, a2, a3, a4, a5⟩ := f
  obtain ⟨b1, b2, b3, b4, b5⟩ := g
  rw [Bool.eq_iff_iff]
  simp only [Bool.and_eq_true, decide_eq_true_eq, Fn.mk.injEq]
  constructor
  · rintro ⟨h1, h2, h3, h4, h5⟩; exact ⟨⟨⟨⟨h1, h3⟩, h4⟩, h2⟩, h5⟩
  · rintro ⟨⟨⟨⟨h1, h3⟩, h4⟩, h2⟩, h5⟩; exact ⟨h1, h2, h3, h4, h5⟩
theorem sameF_any (B : Nat) (r s : Raw) (w : World) (h : RdF w B r) (h' : RdF w B s) (hw : WfF r.fn) (hw' : WfF s.fn) (hB : B ≤ w.heap.size) :
    Calls Try.prog 32 #[.agg #[.int .i64 r.fn.params, .slice r.lo r.fn.locals.length r.lc, .bool r.fn.result, .int .i64 r.fn.keep, .slice r.co r.fn.code.length r.cc], .agg #[.int .i64 s.fn.params, .slice s.lo s.fn.locals.length s.lc, .bool s.fn.result, .int .i64 s.fn.keep, .slice s.co s.fn.code.length s.cc]] w fun e w' => e = .returned (.bool (decide (r.fn = s.fn))) ∧ Below w.heap.size w w' := by
  have b1 := hw.ll
  have b2 := hw'.ll
  have b3 : r.fn.code.length ≤ 140737488351232 := by have := hw.cl; omega
  have b4 : s.fn.code.length ≤ 140737488351232 := by have := hw'.cl; omega
  rw [fn_eq]
  by_cases c1 : r.fn.params = s.fn.params
  rotate_left
  · rw [decide_eq_false c1]
    simp only [Bool.false_and]
    exact same_1 B _ _ _ _ _ _ _ _ _ _ _ _ _ _ _ _ _ _ _ _ _ _ w h.locals h'.locals h.code h'.code rfl rfl rfl rfl b1 b2 b3 b4 hB c1
  by_cases c2 : r.fn.result = s.fn.result
  rotate_left
  · rw [decide_eq_false c2]
    simp only [Bool.false_and, Bool.and_false]
    exact same_2 B _ _ _ _ _ _ _ _ _ _ _ _ _ _ _ _ _ _ _ _ _ _ w h.locals h'.locals h.code h'.code rfl rfl rfl rfl b1 b2 b3 b4 hB c1 c2
  by_cases c3 : r.fn.keep = s.fn.keep
  rotate_left
  · rw [decide_eq_false c3]
    simp only [Bool.false_and, Bool.and_false]
    exact same_3 B _ _ _ _ _ _ _ _ _ _ _ _ _ _ _ _ _ _ _ _ _ _ w h.locals h'.locals h.code h'.code rfl rfl rfl rfl b1 b2 b3 b4 hB c1 c2 c3
  by_cases c4 : r.fn.locals = s.fn.locals
  rotate_left
  · rw [decide_eq_false c4]
    simp only [Bool.false_and, Bool.and_false]
    exact same_4 B _ _ _ _ _ _ _ _ _ _ _ _ _ _ _ _ _ _ _ _ _ _ w h.locals h'.locals h.code h'.code rfl rfl rfl rfl b1 b2 b3 b4 hB c1 c2 c3 c4
  rw [decide_eq_true c1, decide_eq_true c2, decide_eq_true c3, decide_eq_true c4]
  simp only [Bool.true_and]
  exact same_5 B _ _ _ _ _ _ _ _ _ _ _ _ _ _ _ _ _ _ _ _ _ _ w h.locals h'.locals h.code h'.code rfl rfl rfl rfl b1 b2 b3 b4 hB c1 c2 c3 c4

set_option maxRecDepth 100000 in
set_option maxHeartbeats 3200000 in
theorem equalF_any (B : Nat) (ao bo : Option Addr) (n m c d : Nat) (ra rb : List Raw) (w : World) (ha : RdP w B ao n ra) (hb : RdP w B bo m rb) (hB : B ≤ w.heap.size) :
    Calls Try.prog 31 #[.slice ao n c, .slice bo m d, .func (.func 32) #[] #[]] w fun e w' => e = .returned (.bool (decide (fns ra = fns rb))) ∧ Below w.heap.size w w' := by
  have HA := Lib.hid ha
  have HB := Lib.hid hb
  have s1 := ha.sz
  have s2 := hb.sz
  have HN : Hid ((fns ra).length = n) := Lib.hid (by rw [length_fns, ha.len])
  have HM : Hid ((fns rb).length = m) := Lib.hid (by rw [length_fns, hb.len])
  clear ha hb
  by_cases hgt : n ≠ m
  · have hr : decide (fns ra = fns rb) = false := eq_len (by rw [HN.out, HM.out]; exact hgt)
    have HR := Lib.hid hr
    clear hr
    go_enter Try.func31, Try.ntmps31
    go_wp2
    go_ret
    exact ⟨by rw [HR.out]; rfl, Below.refl _ _⟩
  · obtain rfl : n = m := by omega
    clear hgt
    go_enter Try.func31, Try.ntmps31
    go_wp2
    go_loopw [17] (fun i wr => ∃ k : Nat, k ≤ n ∧ i = .int .i64 k ∧ Hid ((fns rb).take k = (fns ra).take k) ∧ Hid (Below w.heap.size w wr)) (fun i _ => n - (intOf i).toNat)
    case atStart => exact ⟨0, Nat.zero_le _, rfl, rfl, Below.refl _ _⟩
    case round =>
      obtain ⟨k, hk, rfl, HP, HW⟩ := hrel
      have hz := HW.out.size
      by_cases hlt : k < n
      · obtain ⟨b1, o1, r, rfl, hbk1, HX, HRF, HWF, x0, x1, x2, x3, x4⟩ := (HA.out.below (HW.out.mono hB)).fn hlt
        obtain ⟨b2, o2, s, rfl, hbk2, HY, HRG, HWG, y0, y1, y2, y3, y4⟩ := (HB.out.below (HW.out.mono hB)).fn hlt
        have hbr1 : b1 < wr.heap.size := by omega
        have hbr2 : b2 < wr.heap.size := by omega
        have HXK : Hid ((fns ra)[k]? = some r.fn) := Lib.hid (by unfold fns; rw [List.getElem?_map, HX.out]; rfl)
        have HYK : Hid ((fns rb)[k]? = some s.fn) := Lib.hid (by unfold fns; rw [List.getElem?_map, HY.out]; rfl)
        have HW2 := Lib.hid ((HW.out.alloc hz (.cells #[.int .i64 r.fn.params, .slice r.lo r.fn.locals.length r.lc, .bool r.fn.result, .int .i64 r.fn.keep, .slice r.co r.fn.code.length r.cc] 43)).alloc (by simp; omega) (.cells #[.int .i64 s.fn.params, .slice s.lo s.fn.locals.length s.lc, .bool s.fn.result, .int .i64 s.fn.keep, .slice s.co s.fn.code.length s.cc] 43))
        have hk2 : ∀ p : Addr, p.block < B → ((wr.alloc (.cells #[.int .i64 r.fn.params, .slice r.lo r.fn.locals.length r.lc, .bool r.fn.result, .int .i64 r.fn.keep, .slice r.co r.fn.code.length r.cc] 43)).alloc (.cells #[.int .i64 s.fn.params, .slice s.lo s.fn.locals.length s.lc, .bool s.fn.result, .int .i64 s.fn.keep, .slice s.co s.fn.code.length s.cc] 43)).cell? p = wr.cell? p := fun p hp => (World.cell?_alloc_lt _ _ p (by simp; omega)).trans (World.cell?_alloc_lt _ _ p (by omega))
        have HF2 := Lib.hid (HRF.out.keep hk2)
        have HG2 := Lib.hid (HRG.out.keep hk2)
        clear hk2
        by_cases hxy : r.fn = s.fn
        · have HD : Hid (decide (r.fn = s.fn) = true) := Lib.hid (by simpa using hxy)
          have HT1 : Hid ((fns rb).take (k + 1) = (fns ra).take (k + 1)) := Lib.hid (by rw [take_snoc HXK.out, take_snoc HYK.out, HP.out, hxy])
          clear hxy
          go_wp2_with (go_at_call 32; refine (sameF_any B r s _ HF2.out HG2.out HWF.out HWG.out (by simp; omega)).mono ?_; rintro e w2 ⟨rfl, hb2⟩; rw [HD.out]; refine Hid.out ?_)
          have HB3 := Lib.hid (HW2.out.trans (hb2.mono (by simp; omega)))
          clear hb2
          refine Lib.hid ?_
          go_wp2
          go_roundw
          case rel => exact ⟨k + 1, by omega, by go_num, HT1, HB3⟩
          case measure => simp [intOf]; omega
        · have HD : Hid (decide (r.fn = s.fn) = false) := Lib.hid (by simpa using hxy)
          have HR : Hid (decide (fns ra = fns rb) = false) := Lib.hid (eq_at HXK.out HYK.out hxy)
          clear hxy
          go_wp2_with (go_at_call 32; refine (sameF_any B r s _ HF2.out HG2.out HWF.out HWG.out (by simp; omega)).mono ?_; rintro e w2 ⟨rfl, hb2⟩; rw [HD.out]; refine Hid.out ?_)
          have HB3 := Lib.hid (HW2.out.trans (hb2.mono (by simp; omega)))
          clear hb2
          refine Lib.hid ?_
          go_wp2
          go_ret
          exact ⟨by rw [HR.out]; rfl, HB3.out⟩
      · obtain rfl : n = k := by omega
        have hr : decide (fns ra = fns rb) = true := by
          have h := HP.out
          rw [List.take_of_length_le (by rw [HM.out]; omega), List.take_of_length_le (by rw [HN.out]; omega)] at h
          rw [h]; simp
        have HR := Lib.hid hr
        clear hr
        go_wp2
        go_ret
        exact ⟨by rw [HR.out]; rfl, HW.out⟩

set_option maxRecDepth 100000 in
theorem same_any (B : Nat) (ao bo : Option Addr) (n m c d : Nat) (ra rb : List Raw) (w : World) (ha : RdP w B ao n ra) (hb : RdP w B bo m rb) (hB : B ≤ w.heap.size) :
    Calls Try.prog 19 #[.agg #[.slice ao n c], .agg #[.slice bo m d]] w fun e w' => e = .returned (.bool (decide (fns ra = fns rb))) ∧ Below w.heap.size w w' := by
  have HA := Lib.hid ((ha.alloc hB (.cells #[.slice ao n c] 26)).alloc (by simp; omega) (.cells #[.slice bo m d] 26))
  have HB := Lib.hid ((hb.alloc hB (.cells #[.slice ao n c] 26)).alloc (by simp; omega) (.cells #[.slice bo m d] 26))
  have HW : Hid (Below w.heap.size w ((w.alloc (.cells #[.slice ao n c] 26)).alloc (.cells #[.slice bo m d] 26))) := ((Below.refl _ _).alloc (Nat.le_refl _) _).alloc (by simp) _
  clear ha hb
  go_enter Try.func19, Try.ntmps19
  go_wp2_with (go_at_call 31; refine (equalF_any B ao bo n m c d ra rb _ HA.out HB.out (by simp; omega)).mono ?_; rintro e w2 ⟨rfl, hb2⟩; refine Hid.out ?_)
  have HW2 := Lib.hid (HW.out.trans (hb2.mono (by simp; omega)))
  clear hb2
  refine Lib.hid ?_
  go_wp2
  go_ret
  exact ⟨rfl, HW2.out⟩
end Go.Proofs.Ytklfppeecgkpnaa
