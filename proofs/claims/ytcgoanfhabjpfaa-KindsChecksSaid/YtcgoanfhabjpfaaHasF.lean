/-
  Package code's funcHasBytes and hasBytes.
-/
import Derived.Test.YtcgoanfhabjpfaaHas
namespace Go.Proofs.Ytcgoanfhabjpfaa
set_option linter.unusedVariables false
open Go.ChangeShapes Go.WideShapes Go.ChangeAt Go.RowKit

theorem fit_1 (n : Nat) : fitB 1 (n : Int) = decide (n ≤ 255) := by unfold fitB; simp only [Int.reducePow]; congr 1; simp; omega
theorem fit_2 (n : Nat) : fitB 2 (n : Int) = decide (n ≤ 65535) := by unfold fitB; simp only [Int.reducePow]; congr 1; simp; omega
theorem fitsB1 (n : Nat) (b : Bool) (w : World) (h : n ≤ 140737488351232) (hb : decide (n ≤ 255) = b) : Calls Try.prog 38 #[.int .u64 n, .int .i64 1] w fun e w' => e = .returned (.bool b) ∧ w = w' := by
  rw [← hb, ← fit_1]
  exact fits_any n 1 w (by omega) (by omega) (by omega)
theorem fits2 (n : Nat) (b : Bool) (w : World) (h : n ≤ 140737488351232) (hb : decide (n ≤ 65535) = b) : Calls Try.prog 38 #[.int .u64 n, .int .i64 2] w fun e w' => e = .returned (.bool b) ∧ w = w' := by
  rw [← hb, ← fit_2]
  exact fits_any n 2 w (by omega) (by omega) (by omega)
theorem keep_box {w w2 : World} {q : Nat} {t : TypeId} {cs : Array Value} (h : Blk w q t cs) (hb : Below w.heap.size w w2) : Blk w2 q t cs := h.below hb h.lt

set_option maxRecDepth 100000 in
set_option maxHeartbeats 3200000 in
theorem has_1 (B : Nat) (p kp : Int) (lo co : Option Addr) (nl lc nc cc : Nat) (rs : Bool) (ls : List Int) (is : List Ins) (w : World) (hL : Reads w B 1 lo nl (u8c ls)) (hll : ls.length = nl) (hC : Reads w B 3 co nc (insc is)) (hcl : is.length = nc) (hWI : ∀ i ∈ is, WfI i)
    (hn1 : nl ≤ 140737488351232) (hn2 : nc * 24 ≤ 140737488351232) (hB : B ≤ w.heap.size) (k1 : ¬ (nl ≤ 255)) :
    Calls Try.prog 39 #[.agg #[.int .i64 p, .slice lo nl lc, .bool rs, .int .i64 kp, .slice co nc cc]] w fun e w' => e = .returned (.bool false) ∧ Below w.heap.size w w' := by
  have HL := Lib.hid (hL.alloc hB (.cells #[.int .i64 p, .slice lo nl lc, .bool rs, .int .i64 kp, .slice co nc cc] 47))
  have HLL := Lib.hid hll
  have HC := Lib.hid (hC.alloc hB (.cells #[.int .i64 p, .slice lo nl lc, .bool rs, .int .i64 kp, .slice co nc cc] 47))
  have HCL := Lib.hid hcl
  have HWI := Lib.hid hWI
  have HAB : Hid (Below w.heap.size w (w.alloc (.cells #[.int .i64 p, .slice lo nl lc, .bool rs, .int .i64 kp, .slice co nc cc] 47))) := (Below.refl _ _).alloc (Nat.le_refl _) _
  have HBX := Lib.hid (Blk.new w 47 #[.int .i64 p, .slice lo nl lc, .bool rs, .int .i64 kp, .slice co nc cc])
  clear hL hll hC hcl hWI
  have K1 : Hid (decide (nl ≤ 255) = false) := Lib.hid (by simp; omega)
  clear HL HLL HC HCL HWI HBX
  go_enter Try.func39, Try.ntmps39
  go_wp2_with (first | (go_at_call 38; with_reducible refine (fitsB1 nl false _ hn1 K1.out).mono ?_; rintro e w2 ⟨rfl, rfl⟩))
  go_ret
  exact ⟨rfl, HAB.out⟩

set_option maxRecDepth 100000 in
set_option maxHeartbeats 3200000 in
theorem has_2 (B : Nat) (p kp : Int) (lo co : Option Addr) (nl lc nc cc : Nat) (rs : Bool) (ls : List Int) (is : List Ins) (w : World) (hL : Reads w B 1 lo nl (u8c ls)) (hll : ls.length = nl) (hC : Reads w B 3 co nc (insc is)) (hcl : is.length = nc) (hWI : ∀ i ∈ is, WfI i)
    (hn1 : nl ≤ 140737488351232) (hn2 : nc * 24 ≤ 140737488351232) (hB : B ≤ w.heap.size) (k1 : nl ≤ 255) (k2 : ¬ (nc ≤ 65535)) :
    Calls Try.prog 39 #[.agg #[.int .i64 p, .slice lo nl lc, .bool rs, .int .i64 kp, .slice co nc cc]] w fun e w' => e = .returned (.bool false) ∧ Below w.heap.size w w' := by
  have HL := Lib.hid (hL.alloc hB (.cells #[.int .i64 p, .slice lo nl lc, .bool rs, .int .i64 kp, .slice co nc cc] 47))
  have HLL := Lib.hid hll
  have HC := Lib.hid (hC.alloc hB (.cells #[.int .i64 p, .slice lo nl lc, .bool rs, .int .i64 kp, .slice co nc cc] 47))
  have HCL := Lib.hid hcl
  have HWI := Lib.hid hWI
  have HAB : Hid (Below w.heap.size w (w.alloc (.cells #[.int .i64 p, .slice lo nl lc, .bool rs, .int .i64 kp, .slice co nc cc] 47))) := (Below.refl _ _).alloc (Nat.le_refl _) _
  have HBX := Lib.hid (Blk.new w 47 #[.int .i64 p, .slice lo nl lc, .bool rs, .int .i64 kp, .slice co nc cc])
  clear hL hll hC hcl hWI
  have K1 : Hid (decide (nl ≤ 255) = true) := Lib.hid (by simp; omega)
  have K2 : Hid (decide (nc ≤ 65535) = false) := Lib.hid (by simp; omega)
  clear HL HLL HC HCL HWI HBX
  go_enter Try.func39, Try.ntmps39
  go_wp2_with (first | (go_at_call 38; with_reducible refine (fitsB1 nl true _ hn1 K1.out).mono ?_; rintro e w2 ⟨rfl, rfl⟩) | (go_at_call 38; with_reducible refine (fits2 nc false _ (by omega) K2.out).mono ?_; rintro e w2 ⟨rfl, rfl⟩))
  go_ret
  exact ⟨rfl, HAB.out⟩

set_option maxRecDepth 100000 in
set_option maxHeartbeats 3200000 in
theorem has_3 (B : Nat) (p kp : Int) (lo co : Option Addr) (nl lc nc cc : Nat) (rs : Bool) (ls : List Int) (is : List Ins) (w : World) (hL : Reads w B 1 lo nl (u8c ls)) (hll : ls.length = nl) (hC : Reads w B 3 co nc (insc is)) (hcl : is.length = nc) (hWI : ∀ i ∈ is, WfI i)
    (hn1 : nl ≤ 140737488351232) (hn2 : nc * 24 ≤ 140737488351232) (hB : B ≤ w.heap.size) (k1 : nl ≤ 255) (k2 : nc ≤ 65535) (k3 : ¬ (0 ≤ p)) :
    Calls Try.prog 39 #[.agg #[.int .i64 p, .slice lo nl lc, .bool rs, .int .i64 kp, .slice co nc cc]] w fun e w' => e = .returned (.bool false) ∧ Below w.heap.size w w' := by
  have HL := Lib.hid (hL.alloc hB (.cells #[.int .i64 p, .slice lo nl lc, .bool rs, .int .i64 kp, .slice co nc cc] 47))
  have HLL := Lib.hid hll
  have HC := Lib.hid (hC.alloc hB (.cells #[.int .i64 p, .slice lo nl lc, .bool rs, .int .i64 kp, .slice co nc cc] 47))
  have HCL := Lib.hid hcl
  have HWI := Lib.hid hWI
  have HAB : Hid (Below w.heap.size w (w.alloc (.cells #[.int .i64 p, .slice lo nl lc, .bool rs, .int .i64 kp, .slice co nc cc] 47))) := (Below.refl _ _).alloc (Nat.le_refl _) _
  have HBX := Lib.hid (Blk.new w 47 #[.int .i64 p, .slice lo nl lc, .bool rs, .int .i64 kp, .slice co nc cc])
  clear hL hll hC hcl hWI
  have K1 : Hid (decide (nl ≤ 255) = true) := Lib.hid (by simp; omega)
  have K2 : Hid (decide (nc ≤ 65535) = true) := Lib.hid (by simp; omega)
  have K3 : decide (0 ≤ p) = false := by simp; omega
  clear HL HLL HC HCL HWI HBX
  go_enter Try.func39, Try.ntmps39
  go_wp2_with (first | (go_at_call 38; with_reducible refine (fitsB1 nl true _ hn1 K1.out).mono ?_; rintro e w2 ⟨rfl, rfl⟩) | (go_at_call 38; with_reducible refine (fits2 nc true _ (by omega) K2.out).mono ?_; rintro e w2 ⟨rfl, rfl⟩))
  go_ret
  exact ⟨rfl, HAB.out⟩

set_option maxRecDepth 100000 in
set_option maxHeartbeats 3200000 in
theorem has_4 (B : Nat) (p kp : Int) (lo co : Option Addr) (nl lc nc cc : Nat) (rs : Bool) (ls : List Int) (is : List Ins) (w : World) (hL : Reads w B 1 lo nl (u8c ls)) (hll : ls.length = nl) (hC : Reads w B 3 co nc (insc is)) (hcl : is.length = nc) (hWI : ∀ i ∈ is, WfI i)
    (hn1 : nl ≤ 140737488351232) (hn2 : nc * 24 ≤ 140737488351232) (hB : B ≤ w.heap.size) (k1 : nl ≤ 255) (k2 : nc ≤ 65535) (k3 : 0 ≤ p) (k4 : ¬ (p ≤ (nl : Int))) :
    Calls Try.prog 39 #[.agg #[.int .i64 p, .slice lo nl lc, .bool rs, .int .i64 kp, .slice co nc cc]] w fun e w' => e = .returned (.bool false) ∧ Below w.heap.size w w' := by
  have HL := Lib.hid (hL.alloc hB (.cells #[.int .i64 p, .slice lo nl lc, .bool rs, .int .i64 kp, .slice co nc cc] 47))
  have HLL := Lib.hid hll
  have HC := Lib.hid (hC.alloc hB (.cells #[.int .i64 p, .slice lo nl lc, .bool rs, .int .i64 kp, .slice co nc cc] 47))
  have HCL := Lib.hid hcl
  have HWI := Lib.hid hWI
  have HAB : Hid (Below w.heap.size w (w.alloc (.cells #[.int .i64 p, .slice lo nl lc, .bool rs, .int .i64 kp, .slice co nc cc] 47))) := (Below.refl _ _).alloc (Nat.le_refl _) _
  have HBX := Lib.hid (Blk.new w 47 #[.int .i64 p, .slice lo nl lc, .bool rs, .int .i64 kp, .slice co nc cc])
  clear hL hll hC hcl hWI
  have K1 : Hid (decide (nl ≤ 255) = true) := Lib.hid (by simp; omega)
  have K2 : Hid (decide (nc ≤ 65535) = true) := Lib.hid (by simp; omega)
  have K3 : decide (0 ≤ p) = true := by simp; omega
  have K4 : decide (p ≤ (nl : Int)) = false := by simp; omega
  clear HL HLL HC HCL HWI HBX
  go_enter Try.func39, Try.ntmps39
  go_wp2_with (first | (go_at_call 38; with_reducible refine (fitsB1 nl true _ hn1 K1.out).mono ?_; rintro e w2 ⟨rfl, rfl⟩) | (go_at_call 38; with_reducible refine (fits2 nc true _ (by omega) K2.out).mono ?_; rintro e w2 ⟨rfl, rfl⟩))
  go_ret
  exact ⟨rfl, HAB.out⟩

set_option maxRecDepth 100000 in
set_option maxHeartbeats 3200000 in
theorem has_5 (B : Nat) (p kp : Int) (lo co : Option Addr) (nl lc nc cc : Nat) (rs : Bool) (ls : List Int) (is : List Ins) (w : World) (hL : Reads w B 1 lo nl (u8c ls)) (hll : ls.length = nl) (hC : Reads w B 3 co nc (insc is)) (hcl : is.length = nc) (hWI : ∀ i ∈ is, WfI i)
    (hn1 : nl ≤ 140737488351232) (hn2 : nc * 24 ≤ 140737488351232) (hB : B ≤ w.heap.size) (k1 : nl ≤ 255) (k2 : nc ≤ 65535) (k3 : 0 ≤ p) (k4 : p ≤ (nl : Int)) (k5 : ¬ (-1 ≤ kp)) :
    Calls Try.prog 39 #[.agg #[.int .i64 p, .slice lo nl lc, .bool rs, .int .i64 kp, .slice co nc cc]] w fun e w' => e = .returned (.bool false) ∧ Below w.heap.size w w' := by
  have HL := Lib.hid (hL.alloc hB (.cells #[.int .i64 p, .slice lo nl lc, .bool rs, .int .i64 kp, .slice co nc cc] 47))
  have HLL := Lib.hid hll
  have HC := Lib.hid (hC.alloc hB (.cells #[.int .i64 p, .slice lo nl lc, .bool rs, .int .i64 kp, .slice co nc cc] 47))
  have HCL := Lib.hid hcl
  have HWI := Lib.hid hWI
  have HAB : Hid (Below w.heap.size w (w.alloc (.cells #[.int .i64 p, .slice lo nl lc, .bool rs, .int .i64 kp, .slice co nc cc] 47))) := (Below.refl _ _).alloc (Nat.le_refl _) _
  have HBX := Lib.hid (Blk.new w 47 #[.int .i64 p, .slice lo nl lc, .bool rs, .int .i64 kp, .slice co nc cc])
  clear hL hll hC hcl hWI
  have K1 : Hid (decide (nl ≤ 255) = true) := Lib.hid (by simp; omega)
  have K2 : Hid (decide (nc ≤ 65535) = true) := Lib.hid (by simp; omega)
  have K3 : decide (0 ≤ p) = true := by simp; omega
  have K4 : decide (p ≤ (nl : Int)) = true := by simp; omega
  have K5 : decide (-1 ≤ kp) = false := by simp; omega
  clear HL HLL HC HCL HWI HBX
  go_enter Try.func39, Try.ntmps39
  go_wp2_with (first | (go_at_call 38; with_reducible refine (fitsB1 nl true _ hn1 K1.out).mono ?_; rintro e w2 ⟨rfl, rfl⟩) | (go_at_call 38; with_reducible refine (fits2 nc true _ (by omega) K2.out).mono ?_; rintro e w2 ⟨rfl, rfl⟩))
  go_ret
  exact ⟨rfl, HAB.out⟩

set_option maxRecDepth 100000 in
set_option maxHeartbeats 3200000 in
theorem has_6 (B : Nat) (p kp : Int) (lo co : Option Addr) (nl lc nc cc : Nat) (rs : Bool) (ls : List Int) (is : List Ins) (w : World) (hL : Reads w B 1 lo nl (u8c ls)) (hll : ls.length = nl) (hC : Reads w B 3 co nc (insc is)) (hcl : is.length = nc) (hWI : ∀ i ∈ is, WfI i)
    (hn1 : nl ≤ 140737488351232) (hn2 : nc * 24 ≤ 140737488351232) (hB : B ≤ w.heap.size) (k1 : nl ≤ 255) (k2 : nc ≤ 65535) (k3 : 0 ≤ p) (k4 : p ≤ (nl : Int)) (k5 : -1 ≤ kp) (k6 : ¬ (kp ≤ 254)) :
    Calls Try.prog 39 #[.agg #[.int .i64 p, .slice lo nl lc, .bool rs, .int .i64 kp, .slice co nc cc]] w fun e w' => e = .returned (.bool false) ∧ Below w.heap.size w w' := by
  have HL := Lib.hid (hL.alloc hB (.cells #[.int .i64 p, .slice lo nl lc, .bool rs, .int .i64 kp, .slice co nc cc] 47))
  have HLL := Lib.hid hll
  have HC := Lib.hid (hC.alloc hB (.cells #[.int .i64 p, .slice lo nl lc, .bool rs, .int .i64 kp, .slice co nc cc] 47))
  have HCL := Lib.hid hcl
  have HWI := Lib.hid hWI
  have HAB : Hid (Below w.heap.size w (w.alloc (.cells #[.int .i64 p, .slice lo nl lc, .bool rs, .int .i64 kp, .slice co nc cc] 47))) := (Below.refl _ _).alloc (Nat.le_refl _) _
  have HBX := Lib.hid (Blk.new w 47 #[.int .i64 p, .slice lo nl lc, .bool rs, .int .i64 kp, .slice co nc cc])
  clear hL hll hC hcl hWI
  have K1 : Hid (decide (nl ≤ 255) = true) := Lib.hid (by simp; omega)
  have K2 : Hid (decide (nc ≤ 65535) = true) := Lib.hid (by simp; omega)
  have K3 : decide (0 ≤ p) = true := by simp; omega
  have K4 : decide (p ≤ (nl : Int)) = true := by simp; omega
  have K5 : decide (-1 ≤ kp) = true := by simp; omega
  have K6 : decide (kp < 255) = false := by simp; omega
  clear HL HLL HC HCL HWI HBX
  go_enter Try.func39, Try.ntmps39
  go_wp2_with (first | (go_at_call 38; with_reducible refine (fitsB1 nl true _ hn1 K1.out).mono ?_; rintro e w2 ⟨rfl, rfl⟩) | (go_at_call 38; with_reducible refine (fits2 nc true _ (by omega) K2.out).mono ?_; rintro e w2 ⟨rfl, rfl⟩))
  go_ret
  exact ⟨rfl, HAB.out⟩

set_option maxRecDepth 100000 in
set_option maxHeartbeats 3200000 in
theorem has_7 (B : Nat) (p kp : Int) (lo co : Option Addr) (nl lc nc cc : Nat) (rs : Bool) (ls : List Int) (is : List Ins) (w : World) (hL : Reads w B 1 lo nl (u8c ls)) (hll : ls.length = nl) (hC : Reads w B 3 co nc (insc is)) (hcl : is.length = nc) (hWI : ∀ i ∈ is, WfI i)
    (hn1 : nl ≤ 140737488351232) (hn2 : nc * 24 ≤ 140737488351232) (hB : B ≤ w.heap.size) (k1 : nl ≤ 255) (k2 : nc ≤ 65535) (k3 : 0 ≤ p) (k4 : p ≤ (nl : Int)) (k5 : -1 ≤ kp) (k6 : kp ≤ 254) (k7 : ls.all kindB = false) :
    Calls Try.prog 39 #[.agg #[.int .i64 p, .slice lo nl lc, .bool rs, .int .i64 kp, .slice co nc cc]] w fun e w' => e = .returned (.bool false) ∧ Below w.heap.size w w' := by
  have HL := Lib.hid (hL.alloc hB (.cells #[.int .i64 p, .slice lo nl lc, .bool rs, .int .i64 kp, .slice co nc cc] 47))
  have HLL := Lib.hid hll
  have HC := Lib.hid (hC.alloc hB (.cells #[.int .i64 p, .slice lo nl lc, .bool rs, .int .i64 kp, .slice co nc cc] 47))
  have HCL := Lib.hid hcl
  have HWI := Lib.hid hWI
  have HAB : Hid (Below w.heap.size w (w.alloc (.cells #[.int .i64 p, .slice lo nl lc, .bool rs, .int .i64 kp, .slice co nc cc] 47))) := (Below.refl _ _).alloc (Nat.le_refl _) _
  have HBX := Lib.hid (Blk.new w 47 #[.int .i64 p, .slice lo nl lc, .bool rs, .int .i64 kp, .slice co nc cc])
  clear hL hll hC hcl hWI
  have K1 : Hid (decide (nl ≤ 255) = true) := Lib.hid (by simp; omega)
  have K2 : Hid (decide (nc ≤ 65535) = true) := Lib.hid (by simp; omega)
  have K3 : decide (0 ≤ p) = true := by simp; omega
  have K4 : decide (p ≤ (nl : Int)) = true := by simp; omega
  have K5 : decide (-1 ≤ kp) = true := by simp; omega
  have K6 : decide (kp < 255) = true := by simp; omega
  have K7 := Lib.hid k7
  clear k7
  go_enter Try.func39, Try.ntmps39
  go_wp2_with (first | (go_at_call 38; with_reducible refine (fitsB1 nl true _ hn1 K1.out).mono ?_; rintro e w2 ⟨rfl, rfl⟩) | (go_at_call 38; with_reducible refine (fits2 nc true _ (by omega) K2.out).mono ?_; rintro e w2 ⟨rfl, rfl⟩) | (go_at_call 48; refine (allK_any B lo nl lc ls _ HL.out HLL.out hn1).mono ?_; rintro e w2 ⟨rfl, rfl⟩; rw [K7.out]))
  go_ret
  exact ⟨rfl, HAB.out⟩

set_option maxRecDepth 100000 in
set_option maxHeartbeats 3200000 in
theorem has_8 (B : Nat) (p kp : Int) (lo co : Option Addr) (nl lc nc cc : Nat) (rs : Bool) (ls : List Int) (is : List Ins) (w : World) (hL : Reads w B 1 lo nl (u8c ls)) (hll : ls.length = nl) (hC : Reads w B 3 co nc (insc is)) (hcl : is.length = nc) (hWI : ∀ i ∈ is, WfI i)
    (hn1 : nl ≤ 140737488351232) (hn2 : nc * 24 ≤ 140737488351232) (hB : B ≤ w.heap.size) (k1 : nl ≤ 255) (k2 : nc ≤ 65535) (k3 : 0 ≤ p) (k4 : p ≤ (nl : Int)) (k5 : -1 ≤ kp) (k6 : kp ≤ 254) (k7 : ls.all kindB = true) :
    Calls Try.prog 39 #[.agg #[.int .i64 p, .slice lo nl lc, .bool rs, .int .i64 kp, .slice co nc cc]] w fun e w' => e = .returned (.bool (is.all okI)) ∧ Below w.heap.size w w' := by
  have HL := Lib.hid (hL.alloc hB (.cells #[.int .i64 p, .slice lo nl lc, .bool rs, .int .i64 kp, .slice co nc cc] 47))
  have HLL := Lib.hid hll
  have HC := Lib.hid (hC.alloc hB (.cells #[.int .i64 p, .slice lo nl lc, .bool rs, .int .i64 kp, .slice co nc cc] 47))
  have HCL := Lib.hid hcl
  have HWI := Lib.hid hWI
  have HAB : Hid (Below w.heap.size w (w.alloc (.cells #[.int .i64 p, .slice lo nl lc, .bool rs, .int .i64 kp, .slice co nc cc] 47))) := (Below.refl _ _).alloc (Nat.le_refl _) _
  have HBX := Lib.hid (Blk.new w 47 #[.int .i64 p, .slice lo nl lc, .bool rs, .int .i64 kp, .slice co nc cc])
  clear hL hll hC hcl hWI
  have K1 : Hid (decide (nl ≤ 255) = true) := Lib.hid (by simp; omega)
  have K2 : Hid (decide (nc ≤ 65535) = true) := Lib.hid (by simp; omega)
  have K3 : decide (0 ≤ p) = true := by simp; omega
  have K4 : decide (p ≤ (nl : Int)) = true := by simp; omega
  have K5 : decide (-1 ≤ kp) = true := by simp; omega
  have K6 : decide (kp < 255) = true := by simp; omega
  have K7 := Lib.hid k7
  clear k7
  go_enter Try.func39, Try.ntmps39
  go_wp2_with (first | (go_at_call 38; with_reducible refine (fitsB1 nl true _ hn1 K1.out).mono ?_; rintro e w2 ⟨rfl, rfl⟩) | (go_at_call 38; with_reducible refine (fits2 nc true _ (by omega) K2.out).mono ?_; rintro e w2 ⟨rfl, rfl⟩) | (go_at_call 48; refine (allK_any B lo nl lc ls _ HL.out HLL.out hn1).mono ?_; rintro e w2 ⟨rfl, rfl⟩; rw [K7.out]) | (go_at_call 50; refine (allI_any B co nc cc is _ HC.out HCL.out (by omega) HWI.out (by simp; omega)).mono ?_; rintro e w2 ⟨rfl, hb2⟩; refine Hid.out ?_))
  have HB2 := Lib.hid (HAB.out.trans (hb2.mono (by simp)))
  clear hb2
  refine Lib.hid ?_
  go_wp2
  go_ret
  exact ⟨rfl, HB2.out⟩

set_option maxRecDepth 100000 in
theorem okF_any (B : Nat) (r : Raw) (w : World) (h : RdF w B r) (hw : WfF r.fn) (hB : B ≤ w.heap.size) :
    Calls Try.prog 39 #[.agg #[.int .i64 r.fn.params, .slice r.lo r.fn.locals.length r.lc, .bool r.fn.result, .int .i64 r.fn.keep, .slice r.co r.fn.code.length r.cc]] w fun e w' => e = .returned (.bool (okF r.fn)) ∧ Below w.heap.size w w' := by
  have h1 := h.locals
  have h2 := h.code
  have h3 := hw.ll
  have h4 := hw.cl
  have h5 := hw.code
  unfold okF
  by_cases c1 : r.fn.locals.length ≤ 255
  rotate_left
  · rw [decide_eq_false c1]
    simp only [Bool.false_and]
    exact has_1 B _ _ _ _ _ _ _ _ _ _ _ w h1 rfl h2 rfl h5 h3 h4 hB c1
  by_cases c2 : r.fn.code.length ≤ 65535
  rotate_left
  · rw [decide_eq_true c1, decide_eq_false c2]
    simp only [Bool.and_false, Bool.false_and]
    exact has_2 B _ _ _ _ _ _ _ _ _ _ _ w h1 rfl h2 rfl h5 h3 h4 hB c1 c2
  by_cases c3 : 0 ≤ r.fn.params
  rotate_left
  · rw [decide_eq_true c1, decide_eq_true c2, decide_eq_false c3]
    simp only [Bool.and_false, Bool.false_and, Bool.true_and]
    exact has_3 B _ _ _ _ _ _ _ _ _ _ _ w h1 rfl h2 rfl h5 h3 h4 hB c1 c2 c3
  by_cases c4 : r.fn.params ≤ (r.fn.locals.length : Int)
  rotate_left
  · rw [decide_eq_true c1, decide_eq_true c2, decide_eq_true c3, decide_eq_false c4]
    simp only [Bool.and_false, Bool.false_and, Bool.true_and]
    exact has_4 B _ _ _ _ _ _ _ _ _ _ _ w h1 rfl h2 rfl h5 h3 h4 hB c1 c2 c3 c4
  by_cases c5 : -1 ≤ r.fn.keep
  rotate_left
  · rw [decide_eq_true c1, decide_eq_true c2, decide_eq_true c3, decide_eq_true c4, decide_eq_false c5]
    simp only [Bool.and_false, Bool.false_and, Bool.true_and]
    exact has_5 B _ _ _ _ _ _ _ _ _ _ _ w h1 rfl h2 rfl h5 h3 h4 hB c1 c2 c3 c4 c5
  by_cases c6 : r.fn.keep ≤ 254
  rotate_left
  · rw [decide_eq_true c1, decide_eq_true c2, decide_eq_true c3, decide_eq_true c4, decide_eq_true c5, decide_eq_false c6]
    simp only [Bool.and_false, Bool.false_and, Bool.true_and]
    exact has_6 B _ _ _ _ _ _ _ _ _ _ _ w h1 rfl h2 rfl h5 h3 h4 hB c1 c2 c3 c4 c5 c6
  rw [decide_eq_true c1, decide_eq_true c2, decide_eq_true c3, decide_eq_true c4, decide_eq_true c5, decide_eq_true c6]
  simp only [Bool.true_and]
  cases c7 : r.fn.locals.all kindB with
  | false =>
    simp only [Bool.false_and]
    exact has_7 B _ _ _ _ _ _ _ _ _ _ _ w h1 rfl h2 rfl h5 h3 h4 hB c1 c2 c3 c4 c5 c6 c7
  | true =>
    simp only [Bool.true_and]
    exact has_8 B _ _ _ _ _ _ _ _ _ _ _ w h1 rfl h2 rfl h5 h3 h4 hB c1 c2 c3 c4 c5 c6 c7

set_option maxRecDepth 100000 in
set_option maxHeartbeats 1600000 in
theorem all_okF (B : Nat) (A : Option Addr) (n c : Nat) (rs : List Raw) (w : World) (h : RdP w B A n rs) (hB : B ≤ w.heap.size) :
    Calls Try.prog 27 #[.slice A n c, .func (.func 39) #[] #[]] w fun e w' => e = .returned (.bool ((fns rs).all okF)) ∧ Below w.heap.size w w' := by
  have H := Lib.hid h
  have hsz := h.sz
  clear h
  go_enter Try.func27, Try.ntmps27
  go_wp2
  go_loopw [9] (fun i wr => ∃ k : Nat, k ≤ n ∧ i = .int .i64 k ∧ Hid (((fns rs).take k).all okF = true) ∧ Hid (Below w.heap.size w wr)) (fun i _ => n - (intOf i).toNat)
  case atStart => exact ⟨0, Nat.zero_le _, rfl, rfl, Below.refl _ _⟩
  case round =>
    obtain ⟨k, hk, rfl, HT, HB⟩ := hrel
    by_cases hlt : k < n
    · obtain ⟨b, off, r, rfl, hb, HX, HF, HW, x0, x1, x2, x3, x4⟩ := (H.out.below (HB.out.mono hB)).fn hlt
      have hz := HB.out.size
      have HFN : Hid ((fns rs)[k]? = some r.fn) := Lib.hid (by unfold fns; rw [List.getElem?_map, HX.out]; rfl)
      have HB2 : Hid (Below w.heap.size w (wr.alloc (.cells #[.int .i64 r.fn.params, .slice r.lo r.fn.locals.length r.lc, .bool r.fn.result, .int .i64 r.fn.keep, .slice r.co r.fn.code.length r.cc] 47))) := HB.out.alloc hz _
      have HF2 : Hid (RdF (wr.alloc (.cells #[.int .i64 r.fn.params, .slice r.lo r.fn.locals.length r.lc, .bool r.fn.result, .int .i64 r.fn.keep, .slice r.co r.fn.code.length r.cc] 47)) B r) := HF.out.keep fun p hp => World.cell?_alloc_lt wr _ p (by omega)
      cases hp : okF r.fn with
      | true =>
        have HT1 : Hid (((fns rs).take (k + 1)).all okF = true) := Lib.hid (by rw [List.take_add_one, HFN.out, List.all_append, HT.out]; simp [hp])
        have HP := Lib.hid hp
        clear hp
        go_wp2_with (go_at_call 39; refine (okF_any B r _ HF2.out HW.out (by simp; omega)).mono ?_; rintro e w2 ⟨rfl, hb2⟩; rw [HP.out]; refine Hid.out ?_)
        have HB3 := Lib.hid (HB2.out.trans (hb2.mono (by simp; omega)))
        clear hb2
        refine Lib.hid ?_
        go_wp2
        go_roundw
        case rel => exact ⟨k + 1, by omega, by go_num, HT1, HB3⟩
        case measure => simp [intOf]; omega
      | false =>
        have HA : Hid ((fns rs).all okF = false) := Lib.hid (by
          rw [List.all_eq_false]
          exact ⟨r.fn, List.mem_of_getElem? HFN.out, by simp [hp]⟩)
        have HP := Lib.hid hp
        clear hp
        go_wp2_with (go_at_call 39; refine (okF_any B r _ HF2.out HW.out (by simp; omega)).mono ?_; rintro e w2 ⟨rfl, hb2⟩; rw [HP.out]; refine Hid.out ?_)
        have HB3 := Lib.hid (HB2.out.trans (hb2.mono (by simp; omega)))
        clear hb2
        refine Lib.hid ?_
        go_wp2
        go_ret
        exact ⟨by rw [HA.out]; rfl, HB3.out⟩
    · obtain rfl : n = k := by omega
      clear hlt hk
      have HA : Hid ((fns rs).all okF = true) := Lib.hid (by
        have h := HT.out
        rw [List.take_of_length_le (by rw [length_fns, H.out.len]; omega)] at h
        exact h)
      go_wp2
      go_ret
      exact ⟨by rw [HA.out]; rfl, HB.out⟩

set_option maxRecDepth 100000 in
set_option maxHeartbeats 1600000 in
theorem hasBytes_any (B : Nat) (A : Option Addr) (n c : Nat) (rs : List Raw) (w : World) (h : RdP w B A n rs) (hB : B ≤ w.heap.size) :
    Calls Try.prog 24 #[.agg #[.slice A n c]] w fun e w' => e = .returned (.bool (okP (fns rs))) ∧ Below w.heap.size w w' := by
  have hl := h.len
  have hsz := h.sz
  have hb : okP (fns rs) = (decide (0 < n) && decide (n ≤ 255) && (fns rs).all okF) := by unfold okP; rw [length_fns, hl]
  rw [hb]
  have H := Lib.hid (h.alloc hB (.cells #[.slice A n c] 24))
  have HB : ∀ o : Obj, Hid (Below w.heap.size w (w.alloc o)) := fun o => (Below.refl _ _).alloc (Nat.le_refl _) o
  clear hb h hl
  by_cases c1 : 0 < n
  · rw [decide_eq_true c1]
    by_cases c2 : n ≤ 255
    · rw [decide_eq_true c2]
      have K2 : Hid (decide (n ≤ 255) = true) := Lib.hid (by simp; omega)
      go_enter Try.func24, Try.ntmps24
      go_wp2_with (first | (go_at_call 38; with_reducible refine (fitsB1 n true _ (by omega) K2.out).mono ?_; rintro e w2 ⟨rfl, rfl⟩) | (go_at_call 27; refine (all_okF B A n c rs _ H.out (by simp; omega)).mono ?_; rintro e w2 ⟨rfl, hb2⟩; refine Hid.out ?_))
      have HB2 := Lib.hid ((HB _).out.trans (hb2.mono (by simp)))
      clear hb2
      refine Lib.hid ?_
      go_wp2
      go_ret
      exact ⟨rfl, HB2.out⟩
    · rw [decide_eq_false c2]
      have K2 : Hid (decide (n ≤ 255) = false) := Lib.hid (by simp; omega)
      go_enter Try.func24, Try.ntmps24
      go_wp2_with (go_at_call 38; with_reducible refine (fitsB1 n false _ (by omega) K2.out).mono ?_; rintro e w2 ⟨rfl, rfl⟩)
      go_ret
      exact ⟨rfl, (HB _).out⟩
  · rw [decide_eq_false c1]
    obtain rfl : n = 0 := by omega
    go_enter Try.func24, Try.ntmps24
    go_wp2
    go_ret
    exact ⟨rfl, (HB _).out⟩
end Go.Proofs.Ytcgoanfhabjpfaa
