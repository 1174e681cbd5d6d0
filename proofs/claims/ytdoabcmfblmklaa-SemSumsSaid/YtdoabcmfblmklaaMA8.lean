/-
  Texts of one seat, one behind the other: HasF, PutF, Encode, KCheck, KCheckW, SRunW, SChk.
-/
import Derived.StillTailTactics
import Derived.Deep.RegionHeld3
import Derived.Test.YtdoabcmfblmklaaMA7
import Derived.Test.YtdoabcmfblmklaaMA5

/-
  Package code's funcHasBytes and hasBytes.
-/
namespace Go.Proofs.Ytdoabcmfblmklaa
set_option linter.unusedVariables false
open Go.ChangeShapes Go.WideShapes Go.ChangeAt Go.RowKit

theorem fit_1 (n : Nat) : fitB 1 (n : Int) = decide (n ≤ 255) := by unfold fitB; simp only [Int.reducePow]; congr 1; simp; omega
theorem fit_2 (n : Nat) : fitB 2 (n : Int) = decide (n ≤ 65535) := by unfold fitB; simp only [Int.reducePow]; congr 1; simp; omega
theorem fitsB1 (n : Nat) (b : Bool) (w : World) (h : n ≤ 140737488351232) (hb : decide (n ≤ 255) = b) : Calls Try.prog 54 #[.int .u64 n, .int .i64 1] w fun e w' => e = .returned (.bool b) ∧ w = w' := by
  rw [← hb, ← fit_1]
  exact fits_any n 1 w (by omega) (by omega) (by omega)
theorem fits2 (n : Nat) (b : Bool) (w : World) (h : n ≤ 140737488351232) (hb : decide (n ≤ 65535) = b) : Calls Try.prog 54 #[.int .u64 n, .int .i64 2] w fun e w' => e = .returned (.bool b) ∧ w = w' := by
  rw [← hb, ← fit_2]
  exact fits_any n 2 w (by omega) (by omega) (by omega)
theorem keep_box {w w2 : World} {q : Nat} {t : TypeId} {cs : Array Value} (h : Blk w q t cs) (hb : Below w.heap.size w w2) : Blk w2 q t cs := h.below hb h.lt

set_option maxRecDepth 100000 in
set_option maxHeartbeats 3200000 in
theorem has_1 (B : Nat) (p kp : Int) (lo co : Option Addr) (nl lc nc cc : Nat) (rs : Bool) (ls : List Int) (is : List Ins) (w : World) (hL : Reads w B 1 lo nl (u8c ls)) (hll : ls.length = nl) (hC : Reads w B 3 co nc (insc is)) (hcl : is.length = nc) (hWI : ∀ i ∈ is, WfI i)
    (hn1 : nl ≤ 140737488351232) (hn2 : nc * 24 ≤ 140737488351232) (hB : B ≤ w.heap.size) (k1 : ¬ (nl ≤ 255)) :
    Calls Try.prog 55 #[.agg #[.int .i64 p, .slice lo nl lc, .bool rs, .int .i64 kp, .slice co nc cc]] w fun e w' => e = .returned (.bool false) ∧ Below w.heap.size w w' := by
  have HL := Lib.hid (hL.alloc hB (.cells #[.int .i64 p, .slice lo nl lc, .bool rs, .int .i64 kp, .slice co nc cc] 46))
  have HLL := Lib.hid hll
  have HC := Lib.hid (hC.alloc hB (.cells #[.int .i64 p, .slice lo nl lc, .bool rs, .int .i64 kp, .slice co nc cc] 46))
  have HCL := Lib.hid hcl
  have HWI := Lib.hid hWI
  have HAB : Hid (Below w.heap.size w (w.alloc (.cells #[.int .i64 p, .slice lo nl lc, .bool rs, .int .i64 kp, .slice co nc cc] 46))) := (Below.refl _ _).alloc (Nat.le_refl _) _
  have HBX := Lib.hid (Blk.new w 46 #[.int .i64 p, .slice lo nl lc, .bool rs, .int .i64 kp, .slice co nc cc])
  clear hL hll hC hcl hWI
  have K1 : Hid (decide (nl ≤ 255) = false) := Lib.hid (by simp; omega)
  clear HL HLL HC HCL HWI HBX
  go_enter Try.func55, Try.ntmps55
  go_wp2_with (first | (go_at_call 54; with_reducible refine (fitsB1 nl false _ hn1 K1.out).mono ?_; rintro e w2 ⟨rfl, rfl⟩))
  go_ret
  exact ⟨rfl, HAB.out⟩

set_option maxRecDepth 100000 in
set_option maxHeartbeats 3200000 in
theorem has_2 (B : Nat) (p kp : Int) (lo co : Option Addr) (nl lc nc cc : Nat) (rs : Bool) (ls : List Int) (is : List Ins) (w : World) (hL : Reads w B 1 lo nl (u8c ls)) (hll : ls.length = nl) (hC : Reads w B 3 co nc (insc is)) (hcl : is.length = nc) (hWI : ∀ i ∈ is, WfI i)
    (hn1 : nl ≤ 140737488351232) (hn2 : nc * 24 ≤ 140737488351232) (hB : B ≤ w.heap.size) (k1 : nl ≤ 255) (k2 : ¬ (nc ≤ 65535)) :
    Calls Try.prog 55 #[.agg #[.int .i64 p, .slice lo nl lc, .bool rs, .int .i64 kp, .slice co nc cc]] w fun e w' => e = .returned (.bool false) ∧ Below w.heap.size w w' := by
  have HL := Lib.hid (hL.alloc hB (.cells #[.int .i64 p, .slice lo nl lc, .bool rs, .int .i64 kp, .slice co nc cc] 46))
  have HLL := Lib.hid hll
  have HC := Lib.hid (hC.alloc hB (.cells #[.int .i64 p, .slice lo nl lc, .bool rs, .int .i64 kp, .slice co nc cc] 46))
  have HCL := Lib.hid hcl
  have HWI := Lib.hid hWI
  have HAB : Hid (Below w.heap.size w (w.alloc (.cells #[.int .i64 p, .slice lo nl lc, .bool rs, .int .i64 kp, .slice co nc cc] 46))) := (Below.refl _ _).alloc (Nat.le_refl _) _
  have HBX := Lib.hid (Blk.new w 46 #[.int .i64 p, .slice lo nl lc, .bool rs, .int .i64 kp, .slice co nc cc])
  clear hL hll hC hcl hWI
  have K1 : Hid (decide (nl ≤ 255) = true) := Lib.hid (by simp; omega)
  have K2 : Hid (decide (nc ≤ 65535) = false) := Lib.hid (by simp; omega)
  clear HL HLL HC HCL HWI HBX
  go_enter Try.func55, Try.ntmps55
  go_wp2_with (first | (go_at_call 54; with_reducible refine (fitsB1 nl true _ hn1 K1.out).mono ?_; rintro e w2 ⟨rfl, rfl⟩) | (go_at_call 54; with_reducible refine (fits2 nc false _ (by omega) K2.out).mono ?_; rintro e w2 ⟨rfl, rfl⟩))
  go_ret
  exact ⟨rfl, HAB.out⟩

set_option maxRecDepth 100000 in
set_option maxHeartbeats 3200000 in
theorem has_3 (B : Nat) (p kp : Int) (lo co : Option Addr) (nl lc nc cc : Nat) (rs : Bool) (ls : List Int) (is : List Ins) (w : World) (hL : Reads w B 1 lo nl (u8c ls)) (hll : ls.length = nl) (hC : Reads w B 3 co nc (insc is)) (hcl : is.length = nc) (hWI : ∀ i ∈ is, WfI i)
    (hn1 : nl ≤ 140737488351232) (hn2 : nc * 24 ≤ 140737488351232) (hB : B ≤ w.heap.size) (k1 : nl ≤ 255) (k2 : nc ≤ 65535) (k3 : ¬ (0 ≤ p)) :
    Calls Try.prog 55 #[.agg #[.int .i64 p, .slice lo nl lc, .bool rs, .int .i64 kp, .slice co nc cc]] w fun e w' => e = .returned (.bool false) ∧ Below w.heap.size w w' := by
  have HL := Lib.hid (hL.alloc hB (.cells #[.int .i64 p, .slice lo nl lc, .bool rs, .int .i64 kp, .slice co nc cc] 46))
  have HLL := Lib.hid hll
  have HC := Lib.hid (hC.alloc hB (.cells #[.int .i64 p, .slice lo nl lc, .bool rs, .int .i64 kp, .slice co nc cc] 46))
  have HCL := Lib.hid hcl
  have HWI := Lib.hid hWI
  have HAB : Hid (Below w.heap.size w (w.alloc (.cells #[.int .i64 p, .slice lo nl lc, .bool rs, .int .i64 kp, .slice co nc cc] 46))) := (Below.refl _ _).alloc (Nat.le_refl _) _
  have HBX := Lib.hid (Blk.new w 46 #[.int .i64 p, .slice lo nl lc, .bool rs, .int .i64 kp, .slice co nc cc])
  clear hL hll hC hcl hWI
  have K1 : Hid (decide (nl ≤ 255) = true) := Lib.hid (by simp; omega)
  have K2 : Hid (decide (nc ≤ 65535) = true) := Lib.hid (by simp; omega)
  have K3 : decide (0 ≤ p) = false := by simp; omega
  clear HL HLL HC HCL HWI HBX
  go_enter Try.func55, Try.ntmps55
  go_wp2_with (first | (go_at_call 54; with_reducible refine (fitsB1 nl true _ hn1 K1.out).mono ?_; rintro e w2 ⟨rfl, rfl⟩) | (go_at_call 54; with_reducible refine (fits2 nc true _ (by omega) K2.out).mono ?_; rintro e w2 ⟨rfl, rfl⟩))
  go_ret
  exact ⟨rfl, HAB.out⟩

set_option maxRecDepth 100000 in
set_option maxHeartbeats 3200000 in
theorem has_4 (B : Nat) (p kp : Int) (lo co : Option Addr) (nl lc nc cc : Nat) (rs : Bool) (ls : List Int) (is : List Ins) (w : World) (hL : Reads w B 1 lo nl (u8c ls)) (hll : ls.length = nl) (hC : Reads w B 3 co nc (insc is)) (hcl : is.length = nc) (hWI : ∀ i ∈ is, WfI i)
    (hn1 : nl ≤ 140737488351232) (hn2 : nc * 24 ≤ 140737488351232) (hB : B ≤ w.heap.size) (k1 : nl ≤ 255) (k2 : nc ≤ 65535) (k3 : 0 ≤ p) (k4 : ¬ (p ≤ (nl : Int))) :
    Calls Try.prog 55 #[.agg #[.int .i64 p, .slice lo nl lc, .bool rs, .int .i64 kp, .slice co nc cc]] w fun e w' => e = .returned (.bool false) ∧ Below w.heap.size w w' := by
  have HL := Lib.hid (hL.alloc hB (.cells #[.int .i64 p, .slice lo nl lc, .bool rs, .int .i64 kp, .slice co nc cc] 46))
  have HLL := Lib.hid hll
  have HC := Lib.hid (hC.alloc hB (.cells #[.int .i64 p, .slice lo nl lc, .bool rs, .int .i64 kp, .slice co nc cc] 46))
  have HCL := Lib.hid hcl
  have HWI := Lib.hid hWI
  have HAB : Hid (Below w.heap.size w (w.alloc (.cells #[.int .i64 p, .slice lo nl lc, .bool rs, .int .i64 kp, .slice co nc cc] 46))) := (Below.refl _ _).alloc (Nat.le_refl _) _
  have HBX := Lib.hid (Blk.new w 46 #[.int .i64 p, .slice lo nl lc, .bool rs, .int .i64 kp, .slice co nc cc])
  clear hL hll hC hcl hWI
  have K1 : Hid (decide (nl ≤ 255) = true) := Lib.hid (by simp; omega)
  have K2 : Hid (decide (nc ≤ 65535) = true) := Lib.hid (by simp; omega)
  have K3 : decide (0 ≤ p) = true := by simp; omega
  have K4 : decide (p ≤ (nl : Int)) = false := by simp; omega
  clear HL HLL HC HCL HWI HBX
  go_enter Try.func55, Try.ntmps55
  go_wp2_with (first | (go_at_call 54; with_reducible refine (fitsB1 nl true _ hn1 K1.out).mono ?_; rintro e w2 ⟨rfl, rfl⟩) | (go_at_call 54; with_reducible refine (fits2 nc true _ (by omega) K2.out).mono ?_; rintro e w2 ⟨rfl, rfl⟩))
  go_ret
  exact ⟨rfl, HAB.out⟩

set_option maxRecDepth 100000 in
set_option maxHeartbeats 3200000 in
theorem has_5 (B : Nat) (p kp : Int) (lo co : Option Addr) (nl lc nc cc : Nat) (rs : Bool) (ls : List Int) (is : List Ins) (w : World) (hL : Reads w B 1 lo nl (u8c ls)) (hll : ls.length = nl) (hC : Reads w B 3 co nc (insc is)) (hcl : is.length = nc) (hWI : ∀ i ∈ is, WfI i)
    (hn1 : nl ≤ 140737488351232) (hn2 : nc * 24 ≤ 140737488351232) (hB : B ≤ w.heap.size) (k1 : nl ≤ 255) (k2 : nc ≤ 65535) (k3 : 0 ≤ p) (k4 : p ≤ (nl : Int)) (k5 : ¬ (-1 ≤ kp)) :
    Calls Try.prog 55 #[.agg #[.int .i64 p, .slice lo nl lc, .bool rs, .int .i64 kp, .slice co nc cc]] w fun e w' => e = .returned (.bool false) ∧ Below w.heap.size w w' := by
  have HL := Lib.hid (hL.alloc hB (.cells #[.int .i64 p, .slice lo nl lc, .bool rs, .int .i64 kp, .slice co nc cc] 46))
  have HLL := Lib.hid hll
  have HC := Lib.hid (hC.alloc hB (.cells #[.int .i64 p, .slice lo nl lc, .bool rs, .int .i64 kp, .slice co nc cc] 46))
  have HCL := Lib.hid hcl
  have HWI := Lib.hid hWI
  have HAB : Hid (Below w.heap.size w (w.alloc (.cells #[.int .i64 p, .slice lo nl lc, .bool rs, .int .i64 kp, .slice co nc cc] 46))) := (Below.refl _ _).alloc (Nat.le_refl _) _
  have HBX := Lib.hid (Blk.new w 46 #[.int .i64 p, .slice lo nl lc, .bool rs, .int .i64 kp, .slice co nc cc])
  clear hL hll hC hcl hWI
  have K1 : Hid (decide (nl ≤ 255) = true) := Lib.hid (by simp; omega)
  have K2 : Hid (decide (nc ≤ 65535) = true) := Lib.hid (by simp; omega)
  have K3 : decide (0 ≤ p) = true := by simp; omega
  have K4 : decide (p ≤ (nl : Int)) = true := by simp; omega
  have K5 : decide (-1 ≤ kp) = false := by simp; omega
  clear HL HLL HC HCL HWI HBX
  go_enter Try.func55, Try.ntmps55
  go_wp2_with (first | (go_at_call 54; with_reducible refine (fitsB1 nl true _ hn1 K1.out).mono ?_; rintro e w2 ⟨rfl, rfl⟩) | (go_at_call 54; with_reducible refine (fits2 nc true _ (by omega) K2.out).mono ?_; rintro e w2 ⟨rfl, rfl⟩))
  go_ret
  exact ⟨rfl, HAB.out⟩

set_option maxRecDepth 100000 in
set_option maxHeartbeats 3200000 in
theorem has_6 (B : Nat) (p kp : Int) (lo co : Option Addr) (nl lc nc cc : Nat) (rs : Bool) (ls : List Int) (is : List Ins) (w : World) (hL : Reads w B 1 lo nl (u8c ls)) (hll : ls.length = nl) (hC : Reads w B 3 co nc (insc is)) (hcl : is.length = nc) (hWI : ∀ i ∈ is, WfI i)
    (hn1 : nl ≤ 140737488351232) (hn2 : nc * 24 ≤ 140737488351232) (hB : B ≤ w.heap.size) (k1 : nl ≤ 255) (k2 : nc ≤ 65535) (k3 : 0 ≤ p) (k4 : p ≤ (nl : Int)) (k5 : -1 ≤ kp) (k6 : ¬ (kp ≤ 254)) :
    Calls Try.prog 55 #[.agg #[.int .i64 p, .slice lo nl lc, .bool rs, .int .i64 kp, .slice co nc cc]] w fun e w' => e = .returned (.bool false) ∧ Below w.heap.size w w' := by
  have HL := Lib.hid (hL.alloc hB (.cells #[.int .i64 p, .slice lo nl lc, .bool rs, .int .i64 kp, .slice co nc cc] 46))
  have HLL := Lib.hid hll
  have HC := Lib.hid (hC.alloc hB (.cells #[.int .i64 p, .slice lo nl lc, .bool rs, .int .i64 kp, .slice co nc cc] 46))
  have HCL := Lib.hid hcl
  have HWI := Lib.hid hWI
  have HAB : Hid (Below w.heap.size w (w.alloc (.cells #[.int .i64 p, .slice lo nl lc, .bool rs, .int .i64 kp, .slice co nc cc] 46))) := (Below.refl _ _).alloc (Nat.le_refl _) _
  have HBX := Lib.hid (Blk.new w 46 #[.int .i64 p, .slice lo nl lc, .bool rs, .int .i64 kp, .slice co nc cc])
  clear hL hll hC hcl hWI
  have K1 : Hid (decide (nl ≤ 255) = true) := Lib.hid (by simp; omega)
  have K2 : Hid (decide (nc ≤ 65535) = true) := Lib.hid (by simp; omega)
  have K3 : decide (0 ≤ p) = true := by simp; omega
  have K4 : decide (p ≤ (nl : Int)) = true := by simp; omega
  have K5 : decide (-1 ≤ kp) = true := by simp; omega
  have K6 : decide (kp < 255) = false := by simp; omega
  clear HL HLL HC HCL HWI HBX
  go_enter Try.func55, Try.ntmps55
  go_wp2_with (first | (go_at_call 54; with_reducible refine (fitsB1 nl true _ hn1 K1.out).mono ?_; rintro e w2 ⟨rfl, rfl⟩) | (go_at_call 54; with_reducible refine (fits2 nc true _ (by omega) K2.out).mono ?_; rintro e w2 ⟨rfl, rfl⟩))
  go_ret
  exact ⟨rfl, HAB.out⟩

set_option maxRecDepth 100000 in
set_option maxHeartbeats 3200000 in
theorem has_7 (B : Nat) (p kp : Int) (lo co : Option Addr) (nl lc nc cc : Nat) (rs : Bool) (ls : List Int) (is : List Ins) (w : World) (hL : Reads w B 1 lo nl (u8c ls)) (hll : ls.length = nl) (hC : Reads w B 3 co nc (insc is)) (hcl : is.length = nc) (hWI : ∀ i ∈ is, WfI i)
    (hn1 : nl ≤ 140737488351232) (hn2 : nc * 24 ≤ 140737488351232) (hB : B ≤ w.heap.size) (k1 : nl ≤ 255) (k2 : nc ≤ 65535) (k3 : 0 ≤ p) (k4 : p ≤ (nl : Int)) (k5 : -1 ≤ kp) (k6 : kp ≤ 254) (k7 : ls.all kindB = false) :
    Calls Try.prog 55 #[.agg #[.int .i64 p, .slice lo nl lc, .bool rs, .int .i64 kp, .slice co nc cc]] w fun e w' => e = .returned (.bool false) ∧ Below w.heap.size w w' := by
  have HL := Lib.hid (hL.alloc hB (.cells #[.int .i64 p, .slice lo nl lc, .bool rs, .int .i64 kp, .slice co nc cc] 46))
  have HLL := Lib.hid hll
  have HC := Lib.hid (hC.alloc hB (.cells #[.int .i64 p, .slice lo nl lc, .bool rs, .int .i64 kp, .slice co nc cc] 46))
  have HCL := Lib.hid hcl
  have HWI := Lib.hid hWI
  have HAB : Hid (Below w.heap.size w (w.alloc (.cells #[.int .i64 p, .slice lo nl lc, .bool rs, .int .i64 kp, .slice co nc cc] 46))) := (Below.refl _ _).alloc (Nat.le_refl _) _
  have HBX := Lib.hid (Blk.new w 46 #[.int .i64 p, .slice lo nl lc, .bool rs, .int .i64 kp, .slice co nc cc])
  clear hL hll hC hcl hWI
  have K1 : Hid (decide (nl ≤ 255) = true) := Lib.hid (by simp; omega)
  have K2 : Hid (decide (nc ≤ 65535) = true) := Lib.hid (by simp; omega)
  have K3 : decide (0 ≤ p) = true := by simp; omega
  have K4 : decide (p ≤ (nl : Int)) = true := by simp; omega
  have K5 : decide (-1 ≤ kp) = true := by simp; omega
  have K6 : decide (kp < 255) = true := by simp; omega
  have K7 := Lib.hid k7
  clear k7
  go_enter Try.func55, Try.ntmps55
  go_wp2_with (first | (go_at_call 54; with_reducible refine (fitsB1 nl true _ hn1 K1.out).mono ?_; rintro e w2 ⟨rfl, rfl⟩) | (go_at_call 54; with_reducible refine (fits2 nc true _ (by omega) K2.out).mono ?_; rintro e w2 ⟨rfl, rfl⟩) | (go_at_call 68; refine (allK_any B lo nl lc ls _ HL.out HLL.out hn1).mono ?_; rintro e w2 ⟨rfl, rfl⟩; rw [K7.out]))
  go_ret
  exact ⟨rfl, HAB.out⟩

set_option maxRecDepth 100000 in
set_option maxHeartbeats 3200000 in
theorem has_8 (B : Nat) (p kp : Int) (lo co : Option Addr) (nl lc nc cc : Nat) (rs : Bool) (ls : List Int) (is : List Ins) (w : World) (hL : Reads w B 1 lo nl (u8c ls)) (hll : ls.length = nl) (hC : Reads w B 3 co nc (insc is)) (hcl : is.length = nc) (hWI : ∀ i ∈ is, WfI i)
    (hn1 : nl ≤ 140737488351232) (hn2 : nc * 24 ≤ 140737488351232) (hB : B ≤ w.heap.size) (k1 : nl ≤ 255) (k2 : nc ≤ 65535) (k3 : 0 ≤ p) (k4 : p ≤ (nl : Int)) (k5 : -1 ≤ kp) (k6 : kp ≤ 254) (k7 : ls.all kindB = true) :
    Calls Try.prog 55 #[.agg #[.int .i64 p, .slice lo nl lc, .bool rs, .int .i64 kp, .slice co nc cc]] w fun e w' => e = .returned (.bool (is.all okI)) ∧ Below w.heap.size w w' := by
  have HL := Lib.hid (hL.alloc hB (.cells #[.int .i64 p, .slice lo nl lc, .bool rs, .int .i64 kp, .slice co nc cc] 46))
  have HLL := Lib.hid hll
  have HC := Lib.hid (hC.alloc hB (.cells #[.int .i64 p, .slice lo nl lc, .bool rs, .int .i64 kp, .slice co nc cc] 46))
  have HCL := Lib.hid hcl
  have HWI := Lib.hid hWI
  have HAB : Hid (Below w.heap.size w (w.alloc (.cells #[.int .i64 p, .slice lo nl lc, .bool rs, .int .i64 kp, .slice co nc cc] 46))) := (Below.refl _ _).alloc (Nat.le_refl _) _
  have HBX := Lib.hid (Blk.new w 46 #[.int .i64 p, .slice lo nl lc, .bool rs, .int .i64 kp, .slice co nc cc])
  clear hL hll hC hcl hWI
  have K1 : Hid (decide (nl ≤ 255) = true) := Lib.hid (by simp; omega)
  have K2 : Hid (decide (nc ≤ 65535) = true) := Lib.hid (by simp; omega)
  have K3 : decide (0 ≤ p) = true := by simp; omega
  have K4 : decide (p ≤ (nl : Int)) = true := by simp; omega
  have K5 : decide (-1 ≤ kp) = true := by simp; omega
  have K6 : decide (kp < 255) = true := by simp; omega
  have K7 := Lib.hid k7
  clear k7
  go_enter Try.func55, Try.ntmps55
  go_wp2_with (first | (go_at_call 54; with_reducible refine (fitsB1 nl true _ hn1 K1.out).mono ?_; rintro e w2 ⟨rfl, rfl⟩) | (go_at_call 54; with_reducible refine (fits2 nc true _ (by omega) K2.out).mono ?_; rintro e w2 ⟨rfl, rfl⟩) | (go_at_call 68; refine (allK_any B lo nl lc ls _ HL.out HLL.out hn1).mono ?_; rintro e w2 ⟨rfl, rfl⟩; rw [K7.out]) | (go_at_call 70; refine (allI_any B co nc cc is _ HC.out HCL.out (by omega) HWI.out (by simp; omega)).mono ?_; rintro e w2 ⟨rfl, hb2⟩; refine Hid.out ?_))
  have HB2 := Lib.hid (HAB.out.trans (hb2.mono (by simp)))
  clear hb2
  refine Lib.hid ?_
  go_wp2
  go_ret
  exact ⟨rfl, HB2.out⟩

set_option maxRecDepth 100000 in
theorem okF_any (B : Nat) (r : Raw) (w : World) (h : RdF w B r) (hw : WfF r.fn) (hB : B ≤ w.heap.size) :
    Calls Try.prog 55 #[.agg #[.int .i64 r.fn.params, .slice r.lo r.fn.locals.length r.lc, .bool r.fn.result, .int .i64 r.fn.keep, .slice r.co r.fn.code.length r.cc]] w fun e w' => e = .returned (.bool (okF r.fn)) ∧ Below w.heap.size w w' := by
  have h1 := h.locals
  have h2 := h.code
  have h3 := hw.ll
  have h4 := hw.cl
  have h5 := hw.code
  unfold okF
  by_cases c1 : r.fn.locals.length ≤ 255
  rotate_left
  · rw [decide_eq_false c1]
    simp only [Bool.false_and]
    exact has_1 B _ _ _ _ _ _ _ _ _ _ _ w h1 rfl h2 rfl h5 h3 h4 hB c1
  by_cases c2 : r.fn.code.length ≤ 65535
  rotate_left
  · rw [decide_eq_true c1, decide_eq_false c2]
    simp only [Bool.and_false, Bool.false_and]
    exact has_2 B _ _ _ _ _ _ _ _ _ _ _ w h1 rfl h2 rfl h5 h3 h4 hB c1 c2
  by_cases c3 : 0 ≤ r.fn.params
  rotate_left
  · rw [decide_eq_true c1, decide_eq_true c2, decide_eq_false c3]
    simp only [Bool.and_false, Bool.false_and, Bool.true_and]
    exact has_3 B _ _ _ _ _ _ _ _ _ _ _ w h1 rfl h2 rfl h5 h3 h4 hB c1 c2 c3
  by_cases c4 : r.fn.params ≤ (r.fn.locals.length : Int)
  rotate_left
  · rw [decide_eq_true c1, decide_eq_true c2, decide_eq_true c3, decide_eq_false c4]
    simp only [Bool.and_false, Bool.false_and, Bool.true_and]
    exact has_4 B _ _ _ _ _ _ _ _ _ _ _ w h1 rfl h2 rfl h5 h3 h4 hB c1 c2 c3 c4
  by_cases c5 : -1 ≤ r.fn.keep
  rotate_left
  · rw [decide_eq_true c1, decide_eq_true c2, decide_eq_true c3, decide_eq_true c4, decide_eq_false c5]
    simp only [Bool.and_false, Bool.false_and, Bool.true_and]
    exact has_5 B _ _ _ _ _ _ _ _ _ _ _ w h1 rfl h2 rfl h5 h3 h4 hB c1 c2 c3 c4 c5
  by_cases c6 : r.fn.keep ≤ 254
  rotate_left
  · rw [decide_eq_true c1, decide_eq_true c2, decide_eq_true c3, decide_eq_true c4, decide_eq_true c5, decide_eq_false c6]
    simp only [Bool.and_false, Bool.false_and, Bool.true_and]
    exact has_6 B _ _ _ _ _ _ _ _ _ _ _ w h1 rfl h2 rfl h5 h3 h4 hB c1 c2 c3 c4 c5 c6
  rw [decide_eq_true c1, decide_eq_true c2, decide_eq_true c3, decide_eq_true c4, decide_eq_true c5, decide_eq_true c6]
  simp only [Bool.true_and]
  cases c7 : r.fn.locals.all kindB with
  | false =>
    simp only [Bool.false_and]
    exact has_7 B _ _ _ _ _ _ _ _ _ _ _ w h1 rfl h2 rfl h5 h3 h4 hB c1 c2 c3 c4 c5 c6 c7
  | true =>
    simp only [Bool.true_and]
    exact has_8 B _ _ _ _ _ _ _ _ _ _ _ w h1 rfl h2 rfl h5 h3 h4 hB c1 c2 c3 c4 c5 c6 c7

set_option maxRecDepth 100000 in
set_option maxHeartbeats 1600000 in
theorem all_okF (B : Nat) (A : Option Addr) (n c : Nat) (rs : List Raw) (w : World) (h : RdP w B A n rs) (hB : B ≤ w.heap.size) :
    Calls Try.prog 31 #[.slice A n c, .func (.func 55) #[] #[]] w fun e w' => e = .returned (.bool ((fns rs).all okF)) ∧ Below w.heap.size w w' := by
  have H := Lib.hid h
  have hsz := h.sz
  clear h
  go_enter Try.func31, Try.ntmps31
  go_wp2
  go_loopw [9] (fun i wr => ∃ k : Nat, k ≤ n ∧ i = .int .i64 k ∧ Hid (((fns rs).take k).all okF = true) ∧ Hid (Below w.heap.size w wr)) (fun i _ => n - (intOf i).toNat)
  case atStart => exact ⟨0, Nat.zero_le _, rfl, rfl, Below.refl _ _⟩
  case round =>
    obtain ⟨k, hk, rfl, HT, HB⟩ := hrel
    by_cases hlt : k < n
    · obtain ⟨b, off, r, rfl, hb, HX, HF, HW, x0, x1, x2, x3, x4⟩ := (H.out.below (HB.out.mono hB)).fn hlt
      have hz := HB.out.size
      have HFN : Hid ((fns rs)[k]? = some r.fn) := Lib.hid (by unfold fns; rw [List.getElem?_map, HX.out]; rfl)
      have HB2 : Hid (Below w.heap.size w (wr.alloc (.cells #[.int .i64 r.fn.params, .slice r.lo r.fn.locals.length r.lc, .bool r.fn.result, .int .i64 r.fn.keep, .slice r.co r.fn.code.length r.cc] 46))) := HB.out.alloc hz _
      have HF2 : Hid (RdF (wr.alloc (.cells #[.int .i64 r.fn.params, .slice r.lo r.fn.locals.length r.lc, .bool r.fn.result, .int .i64 r.fn.keep, .slice r.co r.fn.code.length r.cc] 46)) B r) := HF.out.keep fun p hp => World.cell?_alloc_lt wr _ p (by omega)
      cases hp : okF r.fn with
      | true =>
        have HT1 : Hid (((fns rs).take (k + 1)).all okF = true) := Lib.hid (by rw [List.take_add_one, HFN.out, List.all_append, HT.out]; simp [hp])
        have HP := Lib.hid hp
        clear hp
        go_wp2_with (go_at_call 55; refine (okF_any B r _ HF2.out HW.out (by simp; omega)).mono ?_; rintro e w2 ⟨rfl, hb2⟩; rw [HP.out]; refine Hid.out ?_)
        have HB3 := Lib.hid (HB2.out.trans (hb2.mono (by simp; omega)))
        clear hb2
        refine Lib.hid ?_
        go_wp2
        go_roundw
        case rel => exact ⟨k + 1, by omega, by go_num, HT1, HB3⟩
        case measure => simp [intOf]; omega
      | false =>
        have HA : Hid ((fns rs).all okF = false) := Lib.hid (by
          rw [List.all_eq_false]
          exact ⟨r.fn, List.mem_of_getElem? HFN.out, by simp [hp]⟩)
        have HP := Lib.hid hp
        clear hp
        go_wp2_with (go_at_call 55; refine (okF_any B r _ HF2.out HW.out (by simp; omega)).mono ?_; rintro e w2 ⟨rfl, hb2⟩; rw [HP.out]; refine Hid.out ?_)
        have HB3 := Lib.hid (HB2.out.trans (hb2.mono (by simp; omega)))
        clear hb2
        refine Lib.hid ?_
        go_wp2
        go_ret
        exact ⟨by rw [HA.out]; rfl, HB3.out⟩
    · obtain rfl : n = k := by omega
      clear hlt hk
      have HA : Hid ((fns rs).all okF = true) := Lib.hid (by
        have h := HT.out
        rw [List.take_of_length_le (by rw [length_fns, H.out.len]; omega)] at h
        exact h)
      go_wp2
      go_ret
      exact ⟨by rw [HA.out]; rfl, HB.out⟩

set_option maxRecDepth 100000 in
set_option maxHeartbeats 1600000 in
theorem hasBytes_any (B : Nat) (A : Option Addr) (n c : Nat) (rs : List Raw) (w : World) (h : RdP w B A n rs) (hB : B ≤ w.heap.size) :
    Calls Try.prog 28 #[.agg #[.slice A n c]] w fun e w' => e = .returned (.bool (okP (fns rs))) ∧ Below w.heap.size w w' := by
  have hl := h.len
  have hsz := h.sz
  have hb : okP (fns rs) = (decide (0 < n) && decide (n ≤ 255) && (fns rs).all okF) := by unfold okP; rw [length_fns, hl]
  rw [hb]
  have H := Lib.hid (h.alloc hB (.cells #[.slice A n c] 24))
  have HB : ∀ o : Obj, Hid (Below w.heap.size w (w.alloc o)) := fun o => (Below.refl _ _).alloc (Nat.le_refl _) o
  clear hb h hl
  by_cases c1 : 0 < n
  · rw [decide_eq_true c1]
    by_cases c2 : n ≤ 255
    · rw [decide_eq_true c2]
      have K2 : Hid (decide (n ≤ 255) = true) := Lib.hid (by simp; omega)
      go_enter Try.func28, Try.ntmps28
      go_wp2_with (first | (go_at_call 54; with_reducible refine (fitsB1 n true _ (by omega) K2.out).mono ?_; rintro e w2 ⟨rfl, rfl⟩) | (go_at_call 31; refine (all_okF B A n c rs _ H.out (by simp; omega)).mono ?_; rintro e w2 ⟨rfl, hb2⟩; refine Hid.out ?_))
      have HB2 := Lib.hid ((HB _).out.trans (hb2.mono (by simp)))
      clear hb2
      refine Lib.hid ?_
      go_wp2
      go_ret
      exact ⟨rfl, HB2.out⟩
    · rw [decide_eq_false c2]
      have K2 : Hid (decide (n ≤ 255) = false) := Lib.hid (by simp; omega)
      go_enter Try.func28, Try.ntmps28
      go_wp2_with (go_at_call 54; with_reducible refine (fitsB1 n false _ (by omega) K2.out).mono ?_; rintro e w2 ⟨rfl, rfl⟩)
      go_ret
      exact ⟨rfl, (HB _).out⟩
  · rw [decide_eq_false c1]
    obtain rfl : n = 0 := by omega
    go_enter Try.func28, Try.ntmps28
    go_wp2
    go_ret
    exact ⟨rfl, (HB _).out⟩
end Go.Proofs.Ytdoabcmfblmklaa

/-
  Package code's putFunc.
-/
namespace Go.Proofs.Ytdoabcmfblmklaa
set_option linter.unusedVariables false
open Go.ChangeShapes Go.WideShapes Go.ChangeAt Go.RowKit

/-- 'put', its row's length spelled as a sum -/
def PutM (w : World) (base : Nat) (v : Value) (m : Nat) (l : List Int) (e : Ending) (w' : World) : Prop :=
  ∃ A c, e = .returned (.slice A m c) ∧ w'.ownsRow base 5 1 (.slice A m c) m (u8c l) ∧ Below base w w' ∧ Grew w v w' (.slice A m c)
theorem put_m (base : Nat) (A : Option Addr) (m c : Nat) (l : List Int) (v : Int) (n : Nat) (w : World) (h : w.ownsRow base 5 1 (.slice A m c) m (u8c l)) (h0 : 0 ≤ v) (h1 : v ≤ 18446744073709551615) (hn : n ≤ 8)
    (hb : base ≤ w.heap.size) (hr : m ≤ 4294967296) :
    Calls Try.prog 29 #[.slice A m c, .int .u64 v, .int .i64 n] w (PutM w base (.slice A m c) (m + n) (l ++ le n v)) := by
  have hm : l.length = m := by have := h.1; rw [length_u8c] at this; omega
  refine (put_any base A m c l v n w h hm h0 h1 hn hb hr).mono ?_
  rintro e w' ⟨A', c', rfl, ho, hb', hg'⟩
  have hl : (l ++ le n v).length = m + n := by rw [List.length_append, hm, length_le]
  rw [hl] at ho hg' ⊢
  exact ⟨A', c', rfl, ho, hb', hg'⟩
theorem put_1 (base : Nat) (A : Option Addr) (m c : Nat) (l : List Int) (v : Int) (w : World) (h : w.ownsRow base 5 1 (.slice A m c) m (u8c l)) (h0 : 0 ≤ v) (h1 : v ≤ 255)
    (hb : base ≤ w.heap.size) (hr : m ≤ 4294967296) :
    Calls Try.prog 29 #[.slice A m c, .int .u64 v, .int .i64 1] w (PutM w base (.slice A m c) (m + 1) (l ++ [v])) := by
  have := put_m base A m c l v 1 w h h0 (by omega) (by omega) hb hr
  rw [le_one h0 h1] at this
  exact this
theorem one_reads2 (w : World) (a b : Int) : Reads (w.alloc (.cells #[.int .u8 a, .int .u8 b] 5)) (w.heap.size + 1) 1 (some ⟨w.heap.size, 0, none⟩) 2 [.int .u8 a, .int .u8 b] :=
  ⟨rfl, fun _ => ⟨_, rfl, by simp, fun j u hj => by
    have ea : (⟨w.heap.size, 0, none⟩ : Addr).add j = ⟨w.heap.size, j, none⟩ := by simp [Addr.add]; exact Eq.symm
    rw [ea, (Blk.new w _ _).cell]
    simpa using hj⟩⟩
def PutB (w : World) (base : Nat) (l : List Int) (e : Ending) (w' : World) : Prop :=
  ∃ A c, e = .returned (.slice A l.length c) ∧ w'.ownsRow base 5 1 (.slice A l.length c) l.length (u8c l) ∧ Below base w w'
theorem length_encI_le (i : Ins) : (encI i).length ≤ 11 := by
  have h1 := argW_le i.op
  have h2 := immW_le i.op
  unfold encI
  simp only [List.length_cons, List.length_append, length_le]
  omega
theorem length_flat_le (is : List Ins) : (is.flatMap encI).length ≤ is.length * 11 := by
  induction is with
  | nil => simp
  | cons i is ih => have := length_encI_le i; simp only [List.flatMap_cons, List.length_append, List.length_cons]; omega
theorem length_encF_le {f : Fn} (h : okF f = true) : (encF f).length ≤ 721200 := by
  obtain ⟨h1, h2, h3, h4, h5, h6, h7, h8⟩ := okF_iff.1 h
  have := length_flat_le f.code
  unfold encF
  simp only [List.length_cons, List.length_append, length_le]
  omega
theorem flat_snoc {is : List Ins} {k : Nat} {x : Ins} (h : is[k]? = some x) : (is.take (k + 1)).flatMap encI = (is.take k).flatMap encI ++ encI x := by
  rw [List.take_add_one, h, List.flatMap_append]
  simp

set_option maxRecDepth 100000 in
set_option maxHeartbeats 6400000 in
theorem putF_any (base B : Nat) (A : Option Addr) (m c : Nat) (l : List Int) (r : Raw) (w : World) (h : w.ownsRow base 5 1 (.slice A m c) m (u8c l)) (hF : RdF w B r) (hok : okF r.fn = true)
    (hBb : B ≤ base) (hb : base ≤ w.heap.size) (hr : m ≤ 4000000000) :
    Calls Try.prog 30 #[.slice A m c, .agg #[.int .i64 r.fn.params, .slice r.lo r.fn.locals.length r.lc, .bool r.fn.result, .int .i64 r.fn.keep, .slice r.co r.fn.code.length r.cc]] w (PutB w base (l ++ encF r.fn)) := by
  obtain ⟨h1, h2, h3, h4, h5, h6, h7, h8⟩ := okF_iff.1 hok
  obtain ⟨⟨p, ls, fl, kp, is⟩, lo, lc, co, cc⟩ := r
  obtain ⟨nl, HNL⟩ : ∃ n, Hid (ls.length = n) := ⟨_, rfl⟩
  obtain ⟨nc, HNC⟩ : ∃ n, Hid (is.length = n) := ⟨_, rfl⟩
  have hL := hF.locals
  have hC := hF.code
  simp only at *
  rw [HNL.out] at h1 h4 hL ⊢
  rw [HNC.out] at h2 hC ⊢
  have H7 := Lib.hid h7
  have H8 := Lib.hid h8
  have HO := Lib.hid (own_alloc' h (.cells #[.int .i64 p, .slice lo nl lc, .bool fl, .int .i64 kp, .slice co nc cc] 46))
  have HL := Lib.hid hL
  have HC := Lib.hid hC
  have HBX := Lib.hid (Blk.new w 46 #[.int .i64 p, .slice lo nl lc, .bool fl, .int .i64 kp, .slice co nc cc])
  have HB0 : Hid (Below base w (w.alloc (.cells #[.int .i64 p, .slice lo nl lc, .bool fl, .int .i64 kp, .slice co nc cc] 46))) := (Below.refl _ _).alloc hb _
  have hz0 : base ≤ (w.alloc (.cells #[.int .i64 p, .slice lo nl lc, .bool fl, .int .i64 kp, .slice co nc cc] 46)).heap.size := by simp; omega
  clear h hF hok h7 h8 hL hC
  have hz1 : base ≤ w.heap.size := hb
  obtain ⟨FC, HFC⟩ : ∃ cs : Array Value, Hid (cs = #[.int .i64 p, .slice lo nl lc, .bool fl, .int .i64 kp, .slice co nc cc]) := ⟨_, rfl⟩
  go_enter Try.func30, Try.ntmps30
  go_wp2_with (go_at_call 29; refine (put_1 base A m c l p _ HO.out h3 (by omega) hz0 (by omega)).mono ?_; rintro e w1 ⟨A1, c1, rfl, ho1, hb1, hg1⟩; refine Hid.out ?_)
  have hx1 : Blk w1 w.heap.size 46 #[.int .i64 p, .slice lo nl lc, .bool fl, .int .i64 kp, .slice co nc cc] := hg1.blk HBX.out HO.out (by decide)
  have HX1 := Lib.hid hx1
  have HO1 := Lib.hid ho1
  have HB1 := Lib.hid (HB0.out.trans hb1)
  have hs1 : base ≤ w1.heap.size := Nat.le_trans hz0 hg1.1.size
  have x1 : w1.cell? ⟨w.heap.size, 1, none⟩ = some (.slice lo nl lc) := hx1.cell 1
  clear ho1 hb1 hg1 hx1
  refine Lib.hid ?_
  go_wp2_with (go_at_call 29; refine (put_1 base A1 (m + 1) c1 (l ++ [p]) nl _ HO1.out (by omega) (by omega) hs1 (by omega)).mono ?_; rintro e w2 ⟨A2, c2, rfl, ho2, hb2, hg2⟩; refine Hid.out ?_)
  clear x1
  have hx2 : Blk w2 w.heap.size 46 #[.int .i64 p, .slice lo nl lc, .bool fl, .int .i64 kp, .slice co nc cc] := hg2.blk HX1.out HO1.out (by decide)
  have HX2 := Lib.hid hx2
  have HO2 := Lib.hid ho2
  have HB2 := Lib.hid (HB1.out.trans hb2)
  have x1 : w2.cell? ⟨w.heap.size, 1, none⟩ = some (.slice lo nl lc) := hx2.cell 1
  clear ho2 hb2 hg2 hx2
  refine Lib.hid ?_
  go_wp2
  clear x1
  go_loopw [0, 23] (fun s i wr => ∃ (k : Nat) (A : Option Addr) (c : Nat), k ≤ nl ∧ i = .int .i64 k ∧ s = .slice A (m + 1 + 1 + k) c ∧ Hid (wr.ownsRow base 5 1 (.slice A (m + 1 + 1 + k) c) (m + 1 + 1 + k) (u8c (l ++ [p] ++ [(nl : Int)] ++ ls.take k))) ∧
      Hid (Blk wr w.heap.size 46 #[.int .i64 p, .slice lo nl lc, .bool fl, .int .i64 kp, .slice co nc cc]) ∧ Hid (Below base w wr)) (fun _ i _ => nl - (intOf i).toNat)
  case atStart => exact ⟨0, A2, c2, Nat.zero_le _, rfl, rfl, (by show w2.ownsRow _ _ _ _ _ _; simpa using HO2.out), HX2, HB2⟩
  case round =>
    clear HX2 HX1 HO1 HO2 HB1 HB2
    obtain ⟨k, A3, c3, hk, rfl, rfl, HO3, HX3, HB3⟩ := hrel
    have hs3 : base ≤ wr.heap.size := Nat.le_trans hz1 HB3.out.size
    by_cases hlt : k < nl
    · obtain ⟨b, off, x, rfl, hbB, HX, cx⟩ := (HL.out.below (HB3.out.mono hBb)).byte hlt
      have hx := kindB_iff.1 (H7.out x (List.mem_of_getElem? HX.out))
      have hx0 : 0 ≤ x := by omega
      have hx1 : x ≤ 255 := by omega
      clear hx
      go_wp2_with (go_at_call 29; refine (put_1 base A3 (m + 1 + 1 + k) c3 _ x _ HO3.out hx0 hx1 hs3 (by omega)).mono ?_; rintro e w4 ⟨A4, c4, rfl, ho4, hb4, hg4⟩; refine Hid.out ?_)
      have HX4 := Lib.hid (hg4.blk HX3.out HO3.out (by decide))
      have HO4 : Hid (w4.ownsRow base 5 1 (.slice A4 (m + 1 + 1 + (k + 1)) c4) (m + 1 + 1 + (k + 1)) (u8c (l ++ [p] ++ [(nl : Int)] ++ ls.take (k + 1)))) := by
        rw [List.take_add_one, HX.out, ← List.append_assoc]
        exact ho4
      have HB4 := Lib.hid (HB3.out.trans hb4)
      clear ho4 hb4 hg4
      refine Lib.hid ?_
      go_wp2
      go_roundw
      case rel => exact ⟨k + 1, A4, c4, by omega, by go_num, rfl, HO4, HX4, HB4⟩
      case measure => simp [intOf]; omega
    · obtain rfl : nl = k := by omega
      clear hlt hk
      have x2 : wr.cell? ⟨w.heap.size, 2, none⟩ = some (.bool fl) := HX3.out.cell 2
      have x3 : wr.cell? ⟨w.heap.size, 3, none⟩ = some (.int .i64 kp) := HX3.out.cell 3
      go_wp2
      obtain ⟨fb, HFB⟩ : ∃ v : Int, Hid (v = if fl then 1 else 0) := ⟨_, rfl⟩
      obtain ⟨kb, HKB⟩ : ∃ v : Int, Hid (v = keepByte kp) := ⟨_, rfl⟩
      have hkb : IntKind.u8.wrap kp = kb := by rw [IntKind.wrap_u8, HKB.out]; unfold keepByte; split <;> omega
      have hs4 : base ≤ (wr.alloc (.cells #[.int .u8 fb, .int .u8 kb] 5)).drew.heap.size := by simp; omega
      have hR4 : Hid (Reads (wr.alloc (.cells #[.int .u8 fb, .int .u8 kb] 5)).drew (wr.heap.size + 1) 1 (some ⟨wr.heap.size, 0, none⟩) 2 [.int .u8 fb, .int .u8 kb]) := one_reads2 wr fb kb
      have HO4 : Hid ((wr.alloc (.cells #[.int .u8 fb, .int .u8 kb] 5)).drew.ownsRow base 5 1 (.slice A3 (m + 1 + 1 + nl) c3) (m + 1 + 1 + nl) (u8c (l ++ [p] ++ [(nl : Int)] ++ ls.take nl))) := own_alloc' HO3.out (.cells #[.int .u8 fb, .int .u8 kb] 5)
      go_region_held3 (fun W => W.cell? ⟨w.heap.size, 2, none⟩ = some (.bool fl) ∧ W.cell? ⟨w.heap.size, 3, none⟩ = some (.int .i64 kp))
        (first | go_keep | exact ⟨hx5.cell 2, hx5.cell 3⟩)
        (first
          | (go_at_call 56; refine (flagByte_any fl _).mono ?_; rintro e w' ⟨rfl, rfl⟩; rw [← HFB.out])
          | (refine step_byte rfl _ _ rfl base (.slice A3 (m + 1 + 1 + nl) c3) (m + 1 + 1 + nl) (u8c (l ++ [p] ++ [(nl : Int)] ++ ls.take nl)) rfl HO4.out (wr.heap.size + 1) (some ⟨wr.heap.size, 0, none⟩) 2 2 [.int .u8 fb, .int .u8 kb] rfl hR4.out (u8c_one [fb, kb]) (by omega) hs4 ?_
             intro v' w5 hown hgr hor
             have hx5 : Blk w5 w.heap.size 46 #[.int .i64 p, .slice lo nl lc, .bool fl, .int .i64 kp, .slice co nc cc] := blk_own (show Blk (wr.alloc (.cells #[.int .u8 fb, .int .u8 kb] 5)).drew _ _ _ from HX3.out.alloc (.cells #[.int .u8 fb, .int .u8 kb] 5)) HO4.out hgr (by decide)))
      obtain ⟨A5, c5, rfl⟩ := own_slice hown
      obtain ⟨L5, HL5⟩ : ∃ L, Hid (L = l ++ [p] ++ [(nl : Int)] ++ ls ++ [fb, kb]) := ⟨_, rfl⟩
      have HO5 : Hid (w5.ownsRow base 5 1 (.slice A5 (m + 1 + 1 + nl + 2) c5) (m + 1 + 1 + nl + 2) (u8c L5)) := by
        have htk : ls.take nl = ls := List.take_of_length_le (by rw [HNL.out]; omega)
        rw [htk] at hown
        rw [HL5.out, u8c_append]
        exact hown
      have HX5 := Lib.hid hx5
      have HB5 : Hid (Below base w w5) := ((HB3.out.alloc hs3 _).drew).grown hgr hs4 fun i hi => (own_block_le HO4.out hi).1
      have x4 : w5.cell? ⟨w.heap.size, 4, none⟩ = some (.slice co nc cc) := hx5.cell 4
      have hs5 : base ≤ w5.heap.size := Nat.le_trans hz1 HB5.out.size
      clear hown hgr hor hx5 x2 x3 hR4 hs4 hkb
      refine Lib.hid ?_
      go_wp2_with (go_at_call 29; refine (put_m base A5 (m + 1 + 1 + nl + 2) c5 L5 nc 2 _ HO5.out (by omega) (by omega) (by omega) hs5 (by omega)).mono ?_; rintro e w6 ⟨A6, c6, rfl, ho6, hb6, hg6⟩; refine Hid.out ?_)
      have hx6 := hg6.blk HX5.out HO5.out (by decide)
      have HX6 := Lib.hid hx6
      have HB6 := Lib.hid (HB5.out.trans hb6)
      have HO6 : Hid (w6.ownsRow base 5 1 (.slice A6 (m + 1 + 1 + nl + 2 + 2) c6) (m + 1 + 1 + nl + 2 + 2) (u8c (L5 ++ le 2 nc))) := Lib.hid ho6
      clear x4
      have x4 : w6.cell? ⟨w.heap.size, 4, none⟩ = some (.slice co nc cc) := hx6.cell 4
      clear ho6 hb6 hg6 hx6
      obtain ⟨m6, hm6, hm6b⟩ : ∃ m6, m6 = m + 1 + 1 + nl + 2 + 2 ∧ m6 ≤ m + 300 := ⟨_, rfl, by omega⟩
      rw [← hm6] at HO6
      rw [← hm6]
      clear hm6
      refine Lib.hid ?_
      go_wp2
      clear x4
      go_loopw [0, 50] (fun s i wr => ∃ (k : Nat) (A : Option Addr) (mm c : Nat), k ≤ nc ∧ i = .int .i64 k ∧ s = .slice A mm c ∧ mm ≤ m6 + k * 11 ∧ Hid (wr.ownsRow base 5 1 (.slice A mm c) mm (u8c (L5 ++ le 2 nc ++ (is.take k).flatMap encI))) ∧
        Hid (Below base w wr)) (fun _ i _ => nc - (intOf i).toNat)
      case atStart => exact ⟨0, A6, m6, c6, Nat.zero_le _, rfl, rfl, by omega, (by show w6.ownsRow _ _ _ _ _ _; simpa using HO6.out), HB6⟩
      case round =>
        clear HX6 HX5 HO5 HO6 HB5 HB6 HO4 HO3 HX3 HB3
        obtain ⟨k, A7, m7, c7, hk, rfl, rfl, hm7, HO7, HB7⟩ := hrel
        have hs7 : base ≤ wr.heap.size := Nat.le_trans hz1 HB7.out.size
        by_cases hlt : k < nc
        · obtain ⟨b, off, x, rfl, hbB, HX, x0, x1, x2⟩ := (HC.out.below (HB7.out.mono hBb)).ins hlt
          have hokx := H8.out x (List.mem_of_getElem? HX.out)
          have hle := length_encI_le x
          have hfl := flat_snoc HX.out
          obtain ⟨hx1, hx2, hx3⟩ := okI_iff.1 hokx
          obtain ⟨op, arg, imm⟩ := x
          simp only at x0 x1 x2 hx1 hx2 hx3
          have hx1 := opB_iff.1 hx1
          have hx2 := fitB_iff.1 hx2
          have hx3 := fitB_iff.1 hx3
          have ha : (256 : Int) ^ argW op ≤ 65536 := by
            have := argW_le op
            obtain h | h | h : argW op = 0 ∨ argW op = 1 ∨ argW op = 2 := by omega
            all_goals rw [h]; decide
          have hi : (256 : Int) ^ immW op ≤ 18446744073709551616 := by
            obtain h | h : immW op = 0 ∨ immW op = 8 := by unfold immW; split <;> simp
            all_goals rw [h]; decide
          have o0 : 0 ≤ op := by omega
          have o1 : op ≤ 255 := by omega
          have a0 : 0 ≤ arg := hx2.1
          have a1 : arg ≤ 65535 := by omega
          have i0 : 0 ≤ imm := hx3.1
          have i1 : imm ≤ 18446744073709551615 := by omega
          obtain ⟨aw, HAW⟩ : ∃ n, Hid (n = argW op) := ⟨_, rfl⟩
          obtain ⟨iw, HIW⟩ : ∃ n, Hid (n = immW op) := ⟨_, rfl⟩
          have haw : aw ≤ 2 := by rw [HAW.out]; exact argW_le op
          have hiw : iw ≤ 8 := by rw [HIW.out]; exact immW_le op
          have HFL : Hid ((is.take (k + 1)).flatMap encI = (is.take k).flatMap encI ++ ([op] ++ le aw arg ++ le iw imm)) := Lib.hid (by rw [hfl, HAW.out, HIW.out]; simp [encI])
          have HLE : Hid (1 + aw + iw ≤ 11) := Lib.hid (by
            rw [HAW.out, HIW.out]
            unfold encI at hle
            simp only [List.length_cons, List.length_append, length_le] at hle
            omega)
          have HXX := Lib.hid HX
          clear hx1 hx2 hx3 ha hi hokx hle hfl HX
          obtain ⟨L7, HL7⟩ : ∃ L, Hid (L = L5 ++ le 2 nc ++ (is.take k).flatMap encI) := ⟨_, rfl⟩
          rw [← HL7.out] at HO7
          have HO8 := Lib.hid (own_alloc' HO7.out (.cells #[.int .u8 op, .int .i64 arg, .int .u64 imm] 43))
          have HX8 := Lib.hid (Blk.new wr 43 #[.int .u8 op, .int .i64 arg, .int .u64 imm])
          have HB8 := Lib.hid (HB7.out.alloc hs7 (.cells #[.int .u8 op, .int .i64 arg, .int .u64 imm] 43))
          have hs8 : base ≤ (wr.alloc (.cells #[.int .u8 op, .int .i64 arg, .int .u64 imm] 43)).heap.size := by simp; omega
          go_wp2_with (go_at_call 29; refine (put_1 base A7 m7 c7 L7 op _ HO8.out o0 o1 hs8 (by omega)).mono ?_; rintro e w9 ⟨A9, c9, rfl, ho9, hb9, hg9⟩; refine Hid.out ?_)
          have hx9 : Blk w9 wr.heap.size 43 #[.int .u8 op, .int .i64 arg, .int .u64 imm] := hg9.blk HX8.out HO8.out (by decide)
          have HX9 := Lib.hid hx9
          have HO9 := Lib.hid ho9
          have HB9 := Lib.hid (HB8.out.trans hb9)
          have hs9 : base ≤ w9.heap.size := Nat.le_trans hs8 hg9.1.size
          have y0 : w9.cell? ⟨wr.heap.size, 0, none⟩ = some (.int .u8 op) := hx9.cell 0
          have y1 : w9.cell? ⟨wr.heap.size, 1, none⟩ = some (.int .i64 arg) := hx9.cell 1
          clear ho9 hb9 hg9 hx9 x0 x1 x2
          refine Lib.hid ?_
          go_wp2
          refine wp_region_still_tail 7 (by kernel_rfl) (by kernel_rfl) ?_
          simp only [List.take_succ_cons, List.take_zero, List.drop_succ_cons, List.drop_zero]
          repeat (first | still_step | still_call (argSize_q _ _))
          refine wpStill_nil ?_
          rw [← HAW.out]
          change wpList _ _ _ _ _ w9.drew
          go_wp2_with (go_at_call 29; refine (put_m base A9 (m7 + 1) c9 (L7 ++ [op]) arg aw w9.drew HO9.out a0 (by omega) (by omega) hs9 (by omega)).mono ?_; rintro e w10 ⟨A10, c10, rfl, ho10, hb10, hg10⟩; refine Hid.out ?_)
          have hx10 : Blk w10 wr.heap.size 43 #[.int .u8 op, .int .i64 arg, .int .u64 imm] := hg10.blk (show Blk w9.drew _ _ _ from HX9.out) (show w9.drew.ownsRow _ _ _ _ _ _ from HO9.out) (by decide)
          have HO10 := Lib.hid ho10
          have HB10 := Lib.hid (HB9.out.drew.trans hb10)
          have hs10 : base ≤ w10.heap.size := Nat.le_trans hs9 hg10.1.size
          clear y0 y1
          have y0 : w10.cell? ⟨wr.heap.size, 0, none⟩ = some (.int .u8 op) := hx10.cell 0
          have y2 : w10.cell? ⟨wr.heap.size, 2, none⟩ = some (.int .u64 imm) := hx10.cell 2
          clear ho10 hb10 hg10 hx10
          refine Lib.hid ?_
          go_wp2
          refine wp_region_still_tail 6 (by kernel_rfl) (by kernel_rfl) ?_
          simp only [List.take_succ_cons, List.take_zero, List.drop_succ_cons, List.drop_zero]
          repeat (first | still_step | still_call (immSize_q _ _))
          refine wpStill_nil ?_
          rw [← HIW.out]
          change wpList _ _ _ _ _ w10.drew
          go_wp2_with (go_at_call 29; refine (put_m base A10 (m7 + 1 + aw) c10 (L7 ++ [op] ++ le aw arg) imm iw w10.drew HO10.out i0 i1 hiw hs10 (by omega)).mono ?_; rintro e w11 ⟨A11, c11, rfl, ho11, hb11, hg11⟩; refine Hid.out ?_)
          have HO11 : Hid (w11.ownsRow base 5 1 (.slice A11 (m7 + 1 + aw + iw) c11) (m7 + 1 + aw + iw) (u8c (L5 ++ le 2 nc ++ (is.take (k + 1)).flatMap encI))) := by
            rw [HFL.out, ← List.append_assoc, ← HL7.out]
            have : L7 ++ ([op] ++ le aw arg ++ le iw imm) = L7 ++ [op] ++ le aw arg ++ le iw imm := by simp
            rw [this]
            exact ho11
          have HB11 := Lib.hid (HB10.out.drew.trans hb11)
          have hm11 : m7 + 1 + aw + iw ≤ m6 + (k + 1) * 11 := by have := HLE.out; omega
          clear ho11 hb11 hg11 y0 y2
          refine Lib.hid ?_
          go_wp2
          go_roundw
          case rel => exact ⟨k + 1, A11, _, c11, by omega, by go_num, rfl, hm11, HO11, HB11⟩
          case measure => simp [intOf]; omega
        · obtain rfl : nc = k := by omega
          clear hlt hk
          go_wp2
          go_ret
          have hfin : l ++ encF ⟨p, ls, fl, kp, is⟩ = L5 ++ le 2 nc ++ (is.take nc).flatMap encI := by
            have htk : is.take nc = is := List.take_of_length_le (by rw [HNC.out]; omega)
            rw [htk, HL5.out, HFB.out, HKB.out]
            unfold encF
            simp only [HNL.out, HNC.out]
            simp
          have hlen : (l ++ encF ⟨p, ls, fl, kp, is⟩).length = m7 := by
            have := HO7.out.1
            rw [length_u8c] at this
            rw [hfin]; omega
          refine ⟨A7, c7, by rw [hlen]; rfl, by rw [hlen, hfin]; exact HO7.out, HB7.out⟩
end Go.Proofs.Ytdoabcmfblmklaa

/-
  Package code's Encode.
-/
namespace Go.Proofs.Ytdoabcmfblmklaa
set_option linter.unusedVariables false
open Go.ChangeShapes Go.WideShapes Go.ChangeAt Go.RowKit

/-- what Encode answers -/
def encA (fs : List Fn) : List Int × Int := if okP fs then (enc fs, 0) else ([], 30)
def EncR (w : World) (q : List Int × Int) (e : Ending) (w' : World) : Prop :=
  ∃ (A : Option Addr) (k c : Nat), e = .returned (.tuple #[.slice A k c, .int .i64 q.2]) ∧ q.1.length = k ∧ w'.ownsRow w.heap.size 5 1 (.slice A k c) k (u8c q.1) ∧ Below w.heap.size w w'
theorem own_lit2 (w : World) (base : Nat) (a b : Int) (hb : base ≤ w.heap.size) : (w.alloc (.cells #[.int .u8 a, .int .u8 b] 5)).ownsRow base 5 1 (.slice (some ⟨w.heap.size, 0, none⟩) 2 2) 2 (u8c [a, b]) :=
  ⟨rfl, .inr ⟨w.heap.size, 2, _, rfl, hb, heap_alloc_new w _, Nat.le_refl _, by unfold maxLen; omega, rfl, rfl⟩⟩
theorem flatF_snoc {fs : List Fn} {k : Nat} {x : Fn} (h : fs[k]? = some x) : (fs.take (k + 1)).flatMap encF = (fs.take k).flatMap encF ++ encF x := by
  rw [List.take_add_one, h, List.flatMap_append]
  simp

set_option maxRecDepth 100000 in
set_option maxHeartbeats 6400000 in
theorem encode_any (B : Nat) (A : Option Addr) (n c : Nat) (rs : List Raw) (w : World) (h : RdP w B A n rs) (hB : B ≤ w.heap.size) :
    Calls Try.prog 18 #[.agg #[.slice A n c]] w (EncR w (encA (fns rs))) := by
  have hlen := h.len
  have hsz := h.sz
  have H := Lib.hid h
  have H0 := Lib.hid (h.alloc hB (.cells #[.slice A n c] 24))
  have HBX := Lib.hid (Blk.new w 24 #[.slice A n c])
  have HB0 : Hid (Below w.heap.size w (w.alloc (.cells #[.slice A n c] 24))) := (Below.refl _ _).alloc (Nat.le_refl _) _
  clear h
  cases hok : okP (fns rs) with
  | false =>
    have hq : encA (fns rs) = ([], 30) := by unfold encA; rw [hok]; rfl
    have HOK := Lib.hid hok
    rw [hq]
    clear hok hq hlen
    go_enter Try.func18, Try.ntmps18
    go_wp2_with (go_at_call 28; refine (hasBytes_any B A n c rs _ H0.out (by simp; omega)).mono ?_; rintro e w2 ⟨rfl, hb2⟩; rw [HOK.out]; refine Hid.out ?_)
    have HB2 := Lib.hid (HB0.out.trans (hb2.mono (by simp)))
    clear hb2
    refine Lib.hid ?_
    go_wp2
    go_ret2
    exact ⟨none, 0, 0, rfl, rfl, own_none _ _ _ _, HB2.out⟩
  | true =>
    have hq : encA (fns rs) = (enc (fns rs), 0) := by unfold encA; rw [hok]; rfl
    have HOK := Lib.hid hok
    obtain ⟨hk1, hk2, hk3⟩ := okP_iff.1 hok
    rw [length_fns, hlen] at hk1 hk2
    have HEN : Hid (enc (fns rs) = 87 :: 76 :: (n : Int) :: (fns rs).flatMap encF) := Lib.hid (by unfold enc; rw [length_fns, hlen])
    have HLN := Lib.hid hlen
    have HF := Lib.hid hk3
    rw [hq]
    clear hok hq hlen hk3
    go_enter Try.func18, Try.ntmps18
    go_wp2_with (go_at_call 28; refine (hasBytes_any B A n c rs _ H0.out (by simp; omega)).mono ?_; rintro e w2 ⟨rfl, hb2⟩; rw [HOK.out]; refine Hid.out ?_)
    have hs2 : w.heap.size + 1 ≤ w2.heap.size := by have := hb2.size; simpa using this
    have hx2 : Blk w2 w.heap.size 24 #[.slice A n c] := HBX.out.below hb2 HBX.out.lt
    have HX2 := Lib.hid (hx2.alloc (.cells #[.int .u8 87, .int .u8 76] 5))
    have HO2 := Lib.hid (own_lit2 w2 w.heap.size 87 76 (by omega))
    have HB2 : Hid (Below w.heap.size w (w2.alloc (.cells #[.int .u8 87, .int .u8 76] 5))) := (HB0.out.trans (hb2.mono (by simp))).alloc (by omega) _
    have x0 : w2.cell? ⟨w.heap.size, 0, none⟩ = some (.slice A n c) := hx2.cell 0
    have x0a : ∀ o : Obj, (w2.alloc o).cell? ⟨w.heap.size, 0, none⟩ = some (.slice A n c) := fun o => (World.cell?_alloc_lt w2 o _ (by show w.heap.size < _; omega)).trans x0
    have hs2' : w.heap.size ≤ (w2.alloc (.cells #[.int .u8 87, .int .u8 76] 5)).heap.size := by simp; omega
    clear hb2 hx2
    refine Lib.hid ?_
    go_wp2_with (go_at_call 29; refine (put_1 w.heap.size _ 2 2 [87, 76] n _ HO2.out (by omega) (by omega) hs2' (by omega)).mono ?_; rintro e w3 ⟨A3, c3, rfl, ho3, hb3, hg3⟩; refine Hid.out ?_)
    have hx3 : Blk w3 w.heap.size 24 #[.slice A n c] := hg3.blk HX2.out HO2.out (by decide)
    have HO3 := Lib.hid ho3
    have HB3 := Lib.hid (HB2.out.trans hb3)
    clear x0 x0a
    have x0 : w3.cell? ⟨w.heap.size, 0, none⟩ = some (.slice A n c) := hx3.cell 0
    clear ho3 hb3 hg3 hx3
    refine Lib.hid ?_
    go_wp2
    clear x0
    go_loopw [4, 20] (fun s i wr => ∃ (k : Nat) (A : Option Addr) (mm c : Nat), k ≤ n ∧ i = .int .i64 k ∧ s = .slice A mm c ∧ mm ≤ 3 + k * 721200 ∧ Hid (wr.ownsRow w.heap.size 5 1 (.slice A mm c) mm (u8c (87 :: 76 :: (n : Int) :: ((fns rs).take k).flatMap encF))) ∧ Hid (Below w.heap.size w wr)) (fun _ i _ => n - (intOf i).toNat)
    case atStart => exact ⟨0, A3, 3, c3, Nat.zero_le _, rfl, rfl, by omega, HO3, HB3⟩
    case round =>
      clear HO3 HO2 HB3 HB2 HX2
      obtain ⟨k, A4, m4, c4, hk, rfl, rfl, hm4, HO4, HB4⟩ := hrel
      have hs4 : w.heap.size ≤ wr.heap.size := HB4.out.size
      by_cases hlt : k < n
      · obtain ⟨b, off, r, rfl, hb, HX, HRF, HW, x0, x1, x2, x3, x4⟩ := (H.out.below (HB4.out.mono hB)).fn hlt
        have HFK : Hid ((fns rs)[k]? = some r.fn) := Lib.hid (by unfold fns; rw [List.getElem?_map, HX.out]; rfl)
        have HRK : Hid (okF r.fn = true) := Lib.hid (HF.out _ (List.mem_of_getElem? HFK.out))
        have hle := length_encF_le HRK.out
        obtain ⟨L4, HL4⟩ : ∃ L, Hid (L = 87 :: 76 :: (n : Int) :: ((fns rs).take k).flatMap encF) := ⟨_, rfl⟩
        rw [← HL4.out] at HO4
        have hml : L4.length = m4 := by have := HO4.out.1; rw [length_u8c] at this; omega
        obtain ⟨m5, HM5⟩ : ∃ m, Hid ((L4 ++ encF r.fn).length = m) := ⟨_, rfl⟩
        have hm5 : m5 ≤ 3 + (k + 1) * 721200 := by rw [← HM5.out, List.length_append, hml]; omega
        have HO5 := Lib.hid (own_alloc' HO4.out (.cells #[.int .i64 r.fn.params, .slice r.lo r.fn.locals.length r.lc, .bool r.fn.result, .int .i64 r.fn.keep, .slice r.co r.fn.code.length r.cc] 46))
        have HRF5 : Hid (RdF (wr.alloc (.cells #[.int .i64 r.fn.params, .slice r.lo r.fn.locals.length r.lc, .bool r.fn.result, .int .i64 r.fn.keep, .slice r.co r.fn.code.length r.cc] 46)) B r) := HRF.out.keep fun p hp => World.cell?_alloc_lt wr _ p (by omega)
        have HB5 := Lib.hid (HB4.out.alloc hs4 (.cells #[.int .i64 r.fn.params, .slice r.lo r.fn.locals.length r.lc, .bool r.fn.result, .int .i64 r.fn.keep, .slice r.co r.fn.code.length r.cc] 46))
        have hs5 : w.heap.size ≤ (wr.alloc (.cells #[.int .i64 r.fn.params, .slice r.lo r.fn.locals.length r.lc, .bool r.fn.result, .int .i64 r.fn.keep, .slice r.co r.fn.code.length r.cc] 46)).heap.size := by simp; omega
        clear hle hml
        go_wp2_with (go_at_call 30; refine (putF_any w.heap.size B A4 m4 c4 L4 r _ HO5.out HRF5.out HRK.out hB hs5 (by omega)).mono ?_; rintro e w6 ⟨A6, c6, rfl, ho6, hb6⟩; rw [HM5.out] at ho6; rw [HM5.out]; refine Hid.out ?_)
        have HO6 : Hid (w6.ownsRow w.heap.size 5 1 (.slice A6 m5 c6) m5 (u8c (87 :: 76 :: (n : Int) :: ((fns rs).take (k + 1)).flatMap encF))) := by
          rw [flatF_snoc HFK.out]
          rw [HL4.out] at ho6
          exact ho6
        have HB6 := Lib.hid (HB5.out.trans hb6)
        clear ho6 hb6
        refine Lib.hid ?_
        go_wp2
        go_roundw
        case rel => exact ⟨k + 1, A6, m5, c6, by omega, by go_num, rfl, hm5, HO6, HB6⟩
        case measure => simp [intOf]; omega
      · obtain rfl : n = k := by omega
        clear hlt hk
        have HFIN : Hid (((fns rs).take n) = fns rs) := Lib.hid (List.take_of_length_le (by rw [length_fns, HLN.out]; omega))
        have hml : (87 :: 76 :: (n : Int) :: ((fns rs).take n).flatMap encF).length = m4 := by have := HO4.out.1; rw [length_u8c] at this; omega
        have HML := Lib.hid hml
        clear hml
        go_wp2
        go_ret2
        refine ⟨A4, m4, c4, rfl, ?_, ?_, HB4.out⟩
        · rw [HEN.out, ← HFIN.out]; exact HML.out
        · have := HO4.out
          rw [HFIN.out] at this
          rw [HEN.out]
          exact this
end Go.Proofs.Ytdoabcmfblmklaa

/-
  Package kinds: isTooDeep, Check.
-/
namespace Go.Proofs.Ytdoabcmfblmklaa
set_option linter.unusedVariables false
open Go.ChangeShapes Go.WideShapes Go.ChangeAt Go.RowKit

theorem deepO_len (x : Option Stk) : deepO x = decide (16 < (x.getD []).length) := by cases x <;> simp [deepO]
theorem row_at {w : World} {base n c k : Nat} {A : Option Addr} {e : TypeId} {xs : List Value} {v : Value} (h : w.ownsRow base e 1 (.slice A n c) n xs) (hk : k < n) (hv : xs[k]? = some v) : ∃ b off, A = some ⟨b, off, none⟩ ∧ b < w.heap.size ∧ w.cell? ⟨b, off + k, none⟩ = some v := by
  obtain ⟨b, off, hA, hb, hc⟩ := (Reads.of_own h).lit (by omega) (by omega)
  exact ⟨b, off, hA, hb, hc k v hv⟩
set_option maxRecDepth 100000 in
set_option maxHeartbeats 3200000 in
theorem deep_any (w0 : World) (B tb n rc sc : Nat) (rs : List Raw) (ls : List (List (Option Stk))) (rvs svs : List Value) (RA SA : Option Addr) (w : World) (h : TI w0 B tb rs n ls rvs svs RA rc SA sc w) (hn : n ≤ 255) :
    Calls Try.prog 22 #[.pointer (some ⟨tb, 0, none⟩)] w fun e w' => e = .returned (.bool (ls.any fun l => l.any deepO)) ∧ w = w' := by
  have H := Lib.hid h
  have t1 : w.cell? ⟨tb, 1, none⟩ = some (.slice SA n sc) := h.tj.blk.cell 1
  clear h
  obtain ⟨b, HBV⟩ : ∃ b, Hid (b = ls.any fun l => l.any deepO) := ⟨_, Lib.hid rfl⟩
  rw [← HBV.out]
  go_enter Try.func22, Try.ntmps22
  go_wp2
  clear t1
  go_loop [12] (fun i => ∃ k : Nat, k ≤ n ∧ i = .int .i64 k ∧ Hid (((ls.take k).any fun l => l.any deepO) = false)) (fun i => n - (intOf i).toNat)
  case atStart => exact ⟨0, Nat.zero_le _, rfl, Lib.hid rfl⟩
  case round =>
    obtain ⟨k, hk, rfl, HT⟩ := hrel
    by_cases hlt : k < n
    · obtain ⟨l, hl⟩ : ∃ l, ls[k]? = some l := ⟨ls[k]'(by rw [H.out.len]; exact hlt), List.getElem?_eq_getElem _⟩
      obtain ⟨rv, sv, h1, h2, h3⟩ := H.out.each k l hl
      obtain ⟨ra, sa, m, vs, hrv, hsv, hlm, hm, hb1, hb2, hvl, _, _, hat⟩ := h3.at_
      obtain ⟨bb, off, hA, hbw, x0⟩ := row_at H.out.tj.ss hlt h2
      subst hrv hsv hA
      have HL := Lib.hid hl
      have HLM := Lib.hid hlm
      have HAT := Lib.hid hat
      have HB2 := Lib.hid hb2
      have HVL := Lib.hid hvl
      clear hl h1 h2 h3 hlm hat hb1 hb2 hvl
      go_wp2
      go_loop [18] (fun i => ∃ j : Nat, j ≤ m ∧ i = .int .i64 j ∧ Hid ((l.take j).any deepO = false)) (fun i => m - (intOf i).toNat)
      case atStart => exact ⟨0, Nat.zero_le _, rfl, Lib.hid rfl⟩
      case round =>
        obtain ⟨j, hj, rfl, HJ⟩ := hrel
        by_cases hlj : j < m
        · obtain ⟨x, hx⟩ : ∃ x, l[j]? = some x := ⟨l[j]'(by rw [HLM.out]; exact hlj), List.getElem?_eq_getElem _⟩
          obtain ⟨a, q, c, hv, hq, _⟩ := HAT.out j x hx
          have y0 : w.cell? ⟨sa, j, none⟩ = some (.slice a q c) := by
            rw [HB2.out.cell]; simpa using hv
          have hd : deepO x = decide (16 < q) := by rw [hq]; exact deepO_len x
          have HX := Lib.hid hx
          have HD := Lib.hid hd
          clear hx hv hq hd
          by_cases c1 : 16 < q
          · have HA : Hid (b = true) := Lib.hid (by
              rw [HBV.out]
              exact List.any_eq_true.2 ⟨l, List.mem_of_getElem? HL.out, List.any_eq_true.2 ⟨x, List.mem_of_getElem? HX.out, by rw [HD.out]; simpa using c1⟩⟩)
            have g1 : decide (16 < q) = true := by simpa using c1
            have g2 : decide ((q : Int) > 16) = true := by simp; omega
            go_wp2
            go_ret
            exact ⟨by rw [HA.out]; rfl, rfl⟩
          · have HJ1 : Hid ((l.take (j + 1)).any deepO = false) := Lib.hid (by
              rw [List.take_add_one, HX.out, List.any_append, HJ.out]
              simp [HD.out]; omega)
            have g1 : decide (16 < q) = false := by simpa using c1
            have g2 : decide ((q : Int) > 16) = false := by simp; omega
            go_wp2
            go_round
            case rel => exact ⟨j + 1, by omega, by go_num, HJ1⟩
            case measure => simp [intOf]; omega
        · obtain rfl : j = m := by omega
          have HT1 : Hid (((ls.take (k + 1)).any fun l => l.any deepO) = false) := Lib.hid (by
            have h := HJ.out
            rw [List.take_of_length_le (by rw [HLM.out]; omega)] at h
            rw [List.take_add_one, HL.out, List.any_append, HT.out]
            simpa using h)
          clear hlj hj
          go_wp2
          go_round
          case rel => exact ⟨k + 1, by omega, by go_num, HT1⟩
          case measure => simp [intOf]; omega
    · obtain rfl : n = k := by omega
      clear hlt hk
      have HA : Hid (b = false) := Lib.hid (by
        have h := HT.out
        rw [List.take_of_length_le (by rw [H.out.len]; omega)] at h
        rw [HBV.out]; exact h)
      go_wp2
      go_ret
      exact ⟨by rw [HA.out]; rfl, rfl⟩

/-- what Check answers -/
def CheckPost (w : World) (B n : Nat) (rs : List Raw) (e : Ending) (w' : World) : Prop := Below w.heap.size w w' ∧
  ((verd (fns rs) ≠ 0 ∧ e = .returned (.tuple #[.pointer none, .int .i64 (verd (fns rs))])) ∨
    (verd (fns rs) = 0 ∧ ∃ w0 tb ls rvs svs RA rc SA sc, e = .returned (.tuple #[.pointer (some ⟨tb, 0, none⟩), .int .i64 0]) ∧ TI w0 B tb rs n ls rvs svs RA rc SA sc w' ∧ Sols (fns rs) (fns rs) ls))
theorem bnd_code {rs : List Raw} (h : bnd (fns rs) = true) : ∀ r ∈ rs, r.fn.code.length ≤ 256 := fun r hr => by
  unfold bnd at h
  rw [Bool.and_eq_true, List.all_eq_true] at h
  have := h.2 r.fn (List.mem_map.2 ⟨r, hr, rfl⟩)
  unfold bndF at this
  simp at this
  exact this.2
theorem ref_ins {rs : List Raw} (h : refB (fns rs) = true) : ∀ r ∈ rs, ∀ i ∈ r.fn.code, insRef (fns rs) r.fn i = true := fun r hr i hi => by
  unfold refB at h
  rw [Bool.and_eq_true, List.all_eq_true] at h
  have := h.2 r.fn (List.mem_map.2 ⟨r, hr, rfl⟩)
  unfold fnRef at this
  rw [Bool.and_eq_true, List.all_eq_true] at this
  exact this.2 i hi
theorem TI.allSols {w w' : World} {B tb n rc sc : Nat} {rs : List Raw} {ls : List (List (Option Stk))} {rvs svs : List Value} {RA SA : Option Addr} (h : TI w B tb rs n ls rvs svs RA rc SA sc w') (hl : rs.length = n) : Sols (fns rs) (fns rs) ls :=
  ⟨by rw [length_fns, h.len, hl], fun k f hf => h.sols k f (by have := (List.getElem?_eq_some_iff.1 hf).1; rw [length_fns, hl] at this; exact this) hf⟩
end Go.Proofs.Ytdoabcmfblmklaa

/-
  Package kinds: Check, the walk.
-/
namespace Go.Proofs.Ytdoabcmfblmklaa
set_option linter.unusedVariables false
open Go.ChangeShapes Go.WideShapes Go.ChangeAt Go.RowKit

set_option maxRecDepth 100000 in
set_option maxHeartbeats 6400000 in
theorem check_any (B : Nat) (A : Option Addr) (n c : Nat) (rs : List Raw) (w : World) (h : RdP w B A n rs) (hB : B ≤ w.heap.size) :
    Calls Try.prog 12 #[.agg #[.slice A n c]] w (CheckPost w B n rs) := by
  have hlen := h.len
  have HX0 : Hid (Blk (w.alloc (.cells #[.slice A n c] 24)) w.heap.size 24 #[.slice A n c]) := Lib.hid (Blk.new w _ _)
  have HB0 : Hid (Below w.heap.size w (w.alloc (.cells #[.slice A n c] 24))) := Lib.hid ((Below.refl _ _).alloc (Nat.le_refl _) _)
  have H1 : Hid (RdP (w.alloc (.cells #[.slice A n c] 24)) B A n rs) := Lib.hid (h.alloc hB _)
  have HLEN := Lib.hid hlen
  obtain ⟨v, HV⟩ : ∃ v, Hid (v = verd (fns rs)) := ⟨_, Lib.hid rfl⟩
  have HE := Lib.hid (encode_any B A n c rs _ H1.out (by simp; omega))
  have H := Lib.hid h
  clear h hlen
  cases hok : okP (fns rs) with
  | false =>
    have HVF := Lib.hid (verd_form hok)
    have HEE : Hid ((encA (fns rs)).2 = 30) := Lib.hid (by unfold encA; rw [hok]; rfl)
    clear hok
    go_enter Try.func12, Try.ntmps12
    go_wp2_with (go_at_call 18; refine HE.out.mono ?_; rintro e w2 ⟨A2, k2, c2, rfl, _, _, hb2⟩; rw [HEE.out]; have HB2 := Lib.hid hb2; clear hb2)
    go_ret2
    exact ⟨HB0.out.trans (HB2.out.mono (by simp)), .inl ⟨by rw [HVF.out]; decide, by rw [HVF.out]; rfl⟩⟩
  | true =>
    have HEE : Hid ((encA (fns rs)).2 = 0) := Lib.hid (by unfold encA; rw [hok]; rfl)
    have HOK := Lib.hid hok
    clear hok
    obtain ⟨bb, HBB⟩ : ∃ bb, Hid (bnd (fns rs) = bb) := ⟨_, Lib.hid rfl⟩
    cases bb with
    | false =>
      have HVF := Lib.hid (verd_big HOK.out HBB.out)
      go_enter Try.func12, Try.ntmps12
      go_wp2_with (go_at_call 18; refine HE.out.mono ?_; rintro e w2 ⟨A2, k2, c2, rfl, _, _, hb2⟩; rw [HEE.out]; have HB2 := Lib.hid hb2; have x2 : w2.cell? ⟨w.heap.size, 0, none⟩ = some (.slice A n c) := (HX0.out.below hb2 (by simp)).cell 0; clear hb2; refine Hid.out ?_)
      have HR2 := Lib.hid (H1.out.below (HB2.out.mono (by simp; omega)))
      have hz2 : w.heap.size < w2.heap.size := by have := HB2.out.size; simp at this; omega
      have HBN := Lib.hid (bounded_any B A n c rs w2 HR2.out (by omega))
      rw [HBB.out] at HBN
      refine Lib.hid ?_
      go_wp2_with (go_at_call 19; refine HBN.out.mono ?_; rintro e w3 ⟨rfl, hb3⟩; have HB3 := Lib.hid hb3; clear hb3)
      go_ret2
      exact ⟨HB0.out.trans ((HB2.out.mono (by simp)).trans (HB3.out.mono (by omega))), .inl ⟨by rw [HVF.out]; decide, by rw [HVF.out]; rfl⟩⟩
    | true =>
      obtain ⟨rb, HRB⟩ : ∃ rb, Hid (refB (fns rs) = rb) := ⟨_, Lib.hid rfl⟩
      go_enter Try.func12, Try.ntmps12
      go_wp2_with (go_at_call 18; refine HE.out.mono ?_; rintro e w2 ⟨A2, k2, c2, rfl, _, _, hb2⟩; rw [HEE.out]; have HB2 := Lib.hid hb2; have x2 : w2.cell? ⟨w.heap.size, 0, none⟩ = some (.slice A n c) := (HX0.out.below hb2 (by simp)).cell 0; clear hb2; refine Hid.out ?_)
      have HR2 := Lib.hid (H1.out.below (HB2.out.mono (by simp; omega)))
      have hz2 : w.heap.size < w2.heap.size := by have := HB2.out.size; simp at this; omega
      have HBN := Lib.hid (bounded_any B A n c rs w2 HR2.out (by omega))
      rw [HBB.out] at HBN
      refine Lib.hid ?_
      go_wp2_with (go_at_call 19; refine HBN.out.mono ?_; rintro e w3 ⟨rfl, hb3⟩; have HB3 := Lib.hid hb3; clear hb3; refine Hid.out ?_)
      have hz3 : w.heap.size < w3.heap.size := by have := HB3.out.size; omega
      have HW3 : Hid (Below w.heap.size w w3) := Lib.hid (HB0.out.trans ((HB2.out.mono (by simp)).trans (HB3.out.mono (by omega))))
      have hx3 : Blk w3 w.heap.size 24 #[.slice A n c] := (HX0.out.below HB2.out (by simp)).below HB3.out hz2
      have x3 : w3.cell? ⟨w.heap.size, 0, none⟩ = some (.slice A n c) := hx3.cell 0
      have HX3 := Lib.hid hx3
      have HR3 := Lib.hid (H.out.below (HW3.out.mono hB))
      have HRF := Lib.hid (refers_any B A n c rs w3 HR3.out (by omega) HOK.out)
      rw [HRB.out] at HRF
      clear x2 hx3
      cases rb with
      | false =>
        have HVF := Lib.hid (verd_ref HOK.out HBB.out HRB.out)
        refine Lib.hid ?_
        go_wp2_with (go_at_call 20; refine HRF.out.mono ?_; rintro e w4 ⟨rfl, hb4⟩; have HB4 := Lib.hid hb4; clear hb4)
        go_ret2
        exact ⟨HW3.out.trans (HB4.out.mono (by omega)), .inl ⟨by rw [HVF.out]; decide, by rw [HVF.out]; rfl⟩⟩
      | true =>
        refine Lib.hid ?_
        go_wp2_with (go_at_call 20; refine HRF.out.mono ?_; rintro e w4 ⟨rfl, hb4⟩; have HB4 := Lib.hid hb4; clear hb4; refine Hid.out ?_)
        have hz4 : w.heap.size < w4.heap.size := by have := HB4.out.size; omega
        have HW4 : Hid (Below w.heap.size w w4) := Lib.hid (HW3.out.trans (HB4.out.mono (by omega)))
        have x4 : w4.cell? ⟨w.heap.size, 0, none⟩ = some (.slice A n c) := (HX3.out.below HB4.out hz3).cell 0
        have HR4 := Lib.hid (H.out.below (HW4.out.mono hB))
        have HWA := Lib.hid (walkAll_any B A n c rs w4 HR4.out (by omega) HOK.out (bnd_code HBB.out) (ref_ins HRB.out))
        have HWB : Hid (Calls Try.prog 21 #[.slice A n c] w4 fun e w' => ∃ p ok, e = .returned (.tuple #[.pointer p, .bool ok]) ∧ Below w4.heap.size w4 w' ∧ ((p = none ∧ ok = false ∧ ∃ f ∈ fns rs, ¬ Fine (fns rs) f) ∨ ∃ tb ls rvs svs RA rc SA sc, p = some ⟨tb, 0, none⟩ ∧ ok = true ∧ TI w4 B tb rs n ls rvs svs RA rc SA sc w')) := Lib.hid (HWA.out.mono fun e w' ⟨hb, hc⟩ => by
          rcases hc with ⟨rfl, hnf⟩ | ⟨tb, ls, rvs, svs, RA, rc, SA, sc, rfl, hti⟩
          · exact ⟨_, _, rfl, hb, .inl ⟨rfl, rfl, hnf⟩⟩
          · exact ⟨_, _, rfl, hb, .inr ⟨tb, ls, rvs, svs, RA, rc, SA, sc, rfl, rfl, hti⟩⟩)
        clear x3
        refine Lib.hid ?_
        go_wp2_with (go_at_call 21; refine HWB.out.mono ?_; rintro e w5 ⟨p, ok, rfl, hb5, hcase⟩; have HB5 := Lib.hid hb5; have HCS := Lib.hid hcase; clear hb5 hcase; refine Hid.out ?_)
        have hz5 := HB5.out.size
        have HW5 : Hid (Below w.heap.size w w5) := Lib.hid (HW4.out.trans (HB5.out.mono (by omega)))
        rcases HCS.out with ⟨rfl, rfl, f, hf, hnf⟩ | ⟨tb, ls, rvs, svs, RA, rc, SA, sc, rfl, rfl, hti⟩
        · have HVF := Lib.hid (verd_fine HOK.out HBB.out HRB.out hf hnf)
          clear hf hnf x4
          refine Lib.hid ?_
          go_wp2
          go_ret2
          exact ⟨HW5.out, .inl ⟨by rw [HVF.out]; decide, by rw [HVF.out]; rfl⟩⟩
        · have hn255 : n ≤ 255 := by have := (okP_iff.1 HOK.out).2.1; rw [length_fns, HLEN.out] at this; exact this
          have HDP := Lib.hid (deep_any w4 B tb n rc sc rs ls rvs svs RA SA w5 hti hn255)
          have HS := Lib.hid (hti.allSols HLEN.out)
          have HTI := Lib.hid hti
          obtain ⟨d, HDD⟩ : ∃ d, Hid ((ls.any fun l => l.any deepO) = d) := ⟨_, Lib.hid rfl⟩
          rw [HDD.out] at HDP
          clear hti x4
          cases d with
          | true =>
            have HVF := Lib.hid (verd_deep HOK.out HBB.out HRB.out HS.out HDD.out)
            refine Lib.hid ?_
            go_wp2_with (go_at_call 22; refine HDP.out.mono ?_; rintro e w6 ⟨rfl, rfl⟩)
            go_ret2
            exact ⟨HW5.out, .inl ⟨by rw [HVF.out]; decide, by rw [HVF.out]; rfl⟩⟩
          | false =>
            have HVF := Lib.hid (verd_ok HOK.out HBB.out HRB.out HS.out HDD.out)
            refine Lib.hid ?_
            go_wp2_with (go_at_call 22; refine HDP.out.mono ?_; rintro e w6 ⟨rfl, rfl⟩)
            go_ret2
            exact ⟨HW5.out, .inr ⟨HVF.out, w4, tb, ls, rvs, svs, RA, rc, SA, sc, rfl, HTI.out, HS.out⟩⟩
end Go.Proofs.Ytdoabcmfblmklaa

/-
  Package sem: Run, where the program obeys the rules and the fuel is within its bounds.
-/
namespace Go.Proofs.Ytdoabcmfblmklaa
set_option linter.unusedVariables false
set_option linter.unusedSimpArgs false
open Go.ChangeShapes Go.WideShapes Go.ChangeAt Go.RowKit

theorem check_ok (B : Nat) (A : Option Addr) (n c : Nat) (rs : List Raw) (w : World) (h : RdP w B A n rs) (hB : B ≤ w.heap.size) (hv : verd (fns rs) = 0) :
    Calls Try.prog 12 #[.agg #[.slice A n c]] w fun e w' => (∃ ty, e = .returned (.tuple #[ty, .int .i64 0])) ∧ Below w.heap.size w w' := by
  refine (check_any B A n c rs w h hB).mono ?_
  rintro e w' ⟨hb, ⟨hn, rfl⟩ | ⟨h0, w0, tb, ls', rvs, svs, RA, rc, SA, sc, rfl, hti, hS⟩⟩
  · exact absurd hv hn
  · exact ⟨⟨_, rfl⟩, hb⟩
section
variable {w0 W : World} {rb tg fa fo n c : Nat} {rs : List Raw} {st : Mc} {gl : List (Nat × Nat)} {pbs : List Nat}
theorem RunX.toA (h : RunX w0 rb tg fa fo n c rs st gl pbs W) : RunA w0 rb tg fa fo n c rs st gl pbs none 0 [] W := by
  obtain ⟨g, ow, h1, h2, h3⟩ := h
  exact ⟨g, ow, h1, h2, h3, Reads.none_, fun ad h => by cases h⟩
/-- what a run that is over has in its object -/
theorem RunX.result (h : RunX w0 rb tg fa fo n c rs st gl pbs W) (hd : st.doing = 3) :
    ∃ ev, rb < W.heap.size ∧ w0.heap.size ≤ rb ∧ Blk W rb 68 #[.slice (some ⟨fa, fo, none⟩) n c, ptrV tg, (h.choose).fv, (h.choose).mv, (h.choose).pv, .int .i64 st.waiting, .int .i64 st.doing, ev, .int .i64 st.endk, .int .u64 st.endv, .int .i64 st.steps, .int .i64 st.depth, .int .i64 st.defers, .int .i64 st.maxp] ∧ W.ownsRow w0.heap.size 50 2 ev st.evs.length (evc6 st.evs) ∧ Below w0.heap.size w0 W := by
  obtain ⟨ow, hR, _⟩ := h.choose_spec
  exact ⟨(h.choose).ev, hR.run.blk.lt, hR.run.le, hR.run.blk, (hR.done hd).own, hR.below⟩
end
/-- what is read and written at a run's end -/
theorem fin_any {w w0 W : World} {rb tg fa fo n c z : Nat} {rs : List Raw} {st : Mc} {gl : List (Nat × Nat)} {pbs : List Nat} (h : RunX w0 rb tg fa fo n c rs st gl pbs W) (hd : st.doing = 3) (hz : Blk w0 z 34 #[.slice none 0 0, .int .i64 0, .int .u64 0, .int .i64 0, .int .i64 0, .int .i64 0, .int .i64 0]) (hb : Below w.heap.size w w0) (hw : w.heap.size ≤ w0.heap.size) :
    ∃ AE cE, W.cell? ⟨rb, 7, none⟩ = some (.slice AE st.evs.length cE) ∧ W.cell? ⟨rb, 8, none⟩ = some (.int .i64 st.endk) ∧ W.cell? ⟨rb, 9, none⟩ = some (.int .u64 st.endv) ∧ W.cell? ⟨rb, 10, none⟩ = some (.int .i64 st.steps) ∧ W.cell? ⟨rb, 11, none⟩ = some (.int .i64 st.depth) ∧ W.cell? ⟨rb, 12, none⟩ = some (.int .i64 st.defers) ∧ W.cell? ⟨rb, 13, none⟩ = some (.int .i64 st.maxp) ∧
      Blk W z 34 #[.slice none 0 0, .int .i64 0, .int .u64 0, .int .i64 0, .int .i64 0, .int .i64 0, .int .i64 0] ∧ z < W.heap.size ∧ rb < W.heap.size ∧ W.ownsRow w.heap.size 50 2 (.slice AE st.evs.length cE) st.evs.length (evc6 st.evs) ∧ Below w.heap.size w W := by
  obtain ⟨g, ow, hR, _⟩ := h
  have hbw := hR.below
  have hev := (hR.done hd).own
  obtain ⟨AE, cE, he⟩ := own_slice hev
  rw [he] at hev
  have hB := hR.run.blk
  have hzz := hz.below hbw hz.lt
  exact ⟨AE, cE, by rw [hB.cell, ← he]; rfl, by rw [hB.cell]; rfl, by rw [hB.cell]; rfl, by rw [hB.cell]; rfl, by rw [hB.cell]; rfl, by rw [hB.cell]; rfl, by rw [hB.cell]; rfl, hzz, hzz.lt, hB.lt, own_more hev hw, hb.trans (hbw.mono hw)⟩
theorem fin_set {w W : World} {z : Nat} {AE : Option Addr} {cE : Nat} (st : Mc) (hz : Blk W z 34 #[.slice none 0 0, .int .i64 0, .int .u64 0, .int .i64 0, .int .i64 0, .int .i64 0, .int .i64 0]) (hzw : w.heap.size ≤ z) (hev : W.ownsRow w.heap.size 50 2 (.slice AE st.evs.length cE) st.evs.length (evc6 st.evs)) (hb : Below w.heap.size w W) :
    Blk (((((((W.setCell ⟨z, 0, none⟩ (.slice AE st.evs.length cE)).setCell ⟨z, 1, none⟩ (.int .i64 st.endk)).setCell ⟨z, 2, none⟩ (.int .u64 st.endv)).setCell ⟨z, 3, none⟩ (.int .i64 st.steps)).setCell ⟨z, 4, none⟩ (.int .i64 st.depth)).setCell ⟨z, 5, none⟩ (.int .i64 st.defers)).setCell ⟨z, 6, none⟩ (.int .i64 st.maxp)) z 34 #[.slice AE st.evs.length cE, .int .i64 st.endk, .int .u64 st.endv, .int .i64 st.steps, .int .i64 st.depth, .int .i64 st.defers, .int .i64 st.maxp] ∧ World.ownsRow (((((((W.setCell ⟨z, 0, none⟩ (.slice AE st.evs.length cE)).setCell ⟨z, 1, none⟩ (.int .i64 st.endk)).setCell ⟨z, 2, none⟩ (.int .u64 st.endv)).setCell ⟨z, 3, none⟩ (.int .i64 st.steps)).setCell ⟨z, 4, none⟩ (.int .i64 st.depth)).setCell ⟨z, 5, none⟩ (.int .i64 st.defers)).setCell ⟨z, 6, none⟩ (.int .i64 st.maxp)) w.heap.size 50 2 (.slice AE st.evs.length cE) st.evs.length (evc6 st.evs) ∧ Below w.heap.size w (((((((W.setCell ⟨z, 0, none⟩ (.slice AE st.evs.length cE)).setCell ⟨z, 1, none⟩ (.int .i64 st.endk)).setCell ⟨z, 2, none⟩ (.int .u64 st.endv)).setCell ⟨z, 3, none⟩ (.int .i64 st.steps)).setCell ⟨z, 4, none⟩ (.int .i64 st.depth)).setCell ⟨z, 5, none⟩ (.int .i64 st.defers)).setCell ⟨z, 6, none⟩ (.int .i64 st.maxp)) := by
  have b1 := hz.set_ 0 (.slice AE st.evs.length cE)
  have b2 := b1.set_ 1 (.int .i64 st.endk)
  have b3 := b2.set_ 2 (.int .u64 st.endv)
  have b4 := b3.set_ 3 (.int .i64 st.steps)
  have b5 := b4.set_ 4 (.int .i64 st.depth)
  have b6 := b5.set_ 5 (.int .i64 st.defers)
  have b7 := b6.set_ 6 (.int .i64 st.maxp)
  refine ⟨b7, ?_, ?_⟩
  · exact own_far (own_far (own_far (own_far (own_far (own_far (own_far hev hz (by decide) _ _) b1 (by decide) _ _) b2 (by decide) _ _) b3 (by decide) _ _) b4 (by decide) _ _) b5 (by decide) _ _) b6 (by decide) _ _
  · exact ((((((hb.setCell (p := ⟨z, 0, none⟩) hzw _).setCell (p := ⟨z, 1, none⟩) hzw _).setCell (p := ⟨z, 2, none⟩) hzw _).setCell (p := ⟨z, 3, none⟩) hzw _).setCell (p := ⟨z, 4, none⟩) hzw _).setCell (p := ⟨z, 5, none⟩) hzw _).setCell (p := ⟨z, 6, none⟩) hzw _
/-- what Run answers -/
def RunR (w : World) (st : Mc) (e : Ending) (w' : World) : Prop := ∃ ev, e = .returned (.tuple #[.agg #[ev, .int .i64 st.endk, .int .u64 st.endv, .int .i64 st.steps, .int .i64 st.depth, .int .i64 st.defers, .int .i64 st.maxp], .int .i64 0]) ∧ w'.ownsRow w.heap.size 50 2 ev st.evs.length (evc6 st.evs) ∧ Below w.heap.size w w'

set_option maxRecDepth 100000 in
set_option maxHeartbeats 12800000 in
theorem run_ok (B fa fo n c : Nat) (rs : List Raw) (ta : Option Addr) (nt ct : Nat) (tape : List Int) (fuel : Nat) (stF : Mc) (w : World) (h : RdP w B (some ⟨fa, fo, none⟩) n rs) (hB : B ≤ w.heap.size) (ht : Reads w B 1 ta nt (u64c tape)) (hnt : nt * 8 ≤ 140737488351232) (hfu : fuel ≤ 1048576) (hv : verd (fns rs) = 0) {r0 : Raw} (hr0 : rs[0]? = some r0) (hl0 : r0.fn.locals.length ≤ 255)
    (hR : RunB rs fuel (start (fns rs) tape) stF) (stE : Mc) (hE : stE = if stF.doing = 3 then stF else stF.over 3 0) :
    Calls Try.prog 9 #[.agg #[.slice (some ⟨fa, fo, none⟩) n c], .slice ta nt ct, .int .i64 fuel] w (RunR w stE) := by
  have HB0 : Hid (Below w.heap.size w ((w.alloc (.cells #[.slice (some ⟨fa, fo, none⟩) n c] 24)).alloc (.cells #[.slice none 0 0, .int .i64 0, .int .u64 0, .int .i64 0, .int .i64 0, .int .i64 0, .int .i64 0] 34))) := ((Below.refl _ _).alloc (Nat.le_refl _) _).alloc (by simp) _
  have HX0 : Hid (Blk ((w.alloc (.cells #[.slice (some ⟨fa, fo, none⟩) n c] 24)).alloc (.cells #[.slice none 0 0, .int .i64 0, .int .u64 0, .int .i64 0, .int .i64 0, .int .i64 0, .int .i64 0] 34)) w.heap.size 24 #[.slice (some ⟨fa, fo, none⟩) n c]) := Lib.hid ((Blk.new w _ _).alloc _)
  have HZ0 : Hid (Blk ((w.alloc (.cells #[.slice (some ⟨fa, fo, none⟩) n c] 24)).alloc (.cells #[.slice none 0 0, .int .i64 0, .int .u64 0, .int .i64 0, .int .i64 0, .int .i64 0, .int .i64 0] 34)) (w.heap.size + 1) 34 #[.slice none 0 0, .int .i64 0, .int .u64 0, .int .i64 0, .int .i64 0, .int .i64 0, .int .i64 0]) := Lib.hid (by
    have := Blk.new (w.alloc (.cells #[.slice (some ⟨fa, fo, none⟩) n c] 24)) 34 #[.slice none 0 0, .int .i64 0, .int .u64 0, .int .i64 0, .int .i64 0, .int .i64 0, .int .i64 0]
    rwa [show (w.alloc (.cells #[.slice (some ⟨fa, fo, none⟩) n c] 24)).heap.size = w.heap.size + 1 by simp] at this)
  have H := Lib.hid h
  have HT := Lib.hid ht
  have HC := Lib.hid (check_ok B (some ⟨fa, fo, none⟩) n c rs _ (h.below (HB0.out.mono hB)) (by simp; omega) hv)
  have HRB := Lib.hid hR
  have HR0 := Lib.hid hr0
  have hf0 : decide ((fuel : Int) < 0) = false := by simp
  have hf1 : decide ((fuel : Int) > 1048576) = false := by simp; omega
  have HE := Lib.hid hE
  clear h ht hv hR hr0 hE
  go_enter Try.func9, Try.ntmps9
  go_wp2_with (first | (go_at_call 12; refine HC.out.mono ?_; rintro e w2 ⟨⟨ty, rfl⟩, hb2⟩; have HX2 := Lib.hid (HX0.out.below hb2 HX0.out.lt); have HZ2 := Lib.hid (HZ0.out.below hb2 HZ0.out.lt); have HB2 := Lib.hid (HB0.out.trans (hb2.mono (by simp; omega))); have x2 : w2.cell? ⟨w.heap.size, 0, none⟩ = some (.slice (some ⟨fa, fo, none⟩) n c) := HX2.out.cell 0; have hz2 : w.heap.size + 1 < w2.heap.size := HZ2.out.lt; clear hb2))
  have hbv : Below w2.heap.size w2 w2.drew := (Below.refl _ _).drew
  have HX3 := Lib.hid (HX2.out.below hbv HX2.out.lt)
  have HZ3 := Lib.hid (HZ2.out.below hbv HZ2.out.lt)
  have HB3 := Lib.hid (HB2.out.trans (hbv.mono (by omega)))
  have HN : Hid (Calls Try.prog 13 #[.slice ta nt ct] w2.drew fun e w4 => ∃ tg v', e = .returned (.pointer (some ⟨tg, 0, none⟩)) ∧ w2.heap.size ≤ w4.heap.size ∧ w4.cell? ⟨w.heap.size, 0, none⟩ = some (.slice (some ⟨fa, fo, none⟩) n c) ∧ Hid (RunX w2.drew w4.heap.size tg fa fo n c rs (mc0 tape) [] [] (w4.alloc (.cells #[.slice (some ⟨fa, fo, none⟩) n c, ptrV tg, .slice none 0 0, .slice none 0 0, .slice none 0 0, .int .i64 0, .int .i64 0, .slice none 0 0, .int .i64 0, .int .u64 0, .int .i64 0, .int .i64 0, .int .i64 0, .int .i64 0] 68))) ∧ Hid (Below w2.heap.size w2 w4)) := Lib.hid ((new_any B ta nt ct tape w2.drew (HT.out.below (HB3.out.mono hB)) (by show B ≤ w2.heap.size; omega) (by omega)).mono fun e w4 ⟨tg, v', he, htg, hown, htb, hb4⟩ => by
    refine ⟨tg, v', he, hb4.size, (HX3.out.below hb4 HX3.out.lt).cell 0, Lib.hid ?_, Lib.hid (hbv.trans hb4)⟩
    exact RunX.start (hb4.alloc hb4.size _) (((H.out.below (HB3.out.mono hB)).more (show B ≤ w2.drew.heap.size by show B ≤ w2.heap.size; omega)).below (hb4.alloc hb4.size _)) (htb.alloc _) (hown.alloc _) htg hb4.size (Blk.new w4 _ _))
  clear hbv
  go_region_law (go_simp; go_at_call 13; refine HN.out.mono ?_; rintro e w4 ⟨tg, v', rfl, hz4, x4, HRX, HB4⟩)
  all_goals
    have hmc : (mc0 tape).doing ≠ 3 := by show (0 : Int) ≠ 3; decide
    have HNC : Hid (Calls Try.prog 15 #[.pointer (some ⟨w4.heap.size, 0, none⟩), .int .i64 0, .slice none 0 0] _ fun e w5 => e = .returned (.agg #[.pointer (some ⟨fa, fo, none⟩), .int .i64 0, .int .i64 0, .slice none 0 0, .slice none 0 0, .int .u64 0]) ∧ RunX w2.drew w4.heap.size tg fa fo n c rs { mc0 tape with mem := (mc0 tape).mem ++ locals (fns rs) 0 [] } [] [] w5) := Lib.hid (by
      have h1 := newCall_any 0 0 0 0 none [] r0 HRX.out.toA hmc HR0.out rfl (Nat.zero_le _) hl0 (Nat.zero_le _) (Nat.le_refl _) (fun _ => rfl)
      unfold callV at h1
      simp only [Nat.zero_mul, Nat.add_zero] at h1
      exact h1)
    have HBG : Hid (∀ w5, RunX w2.drew w4.heap.size tg fa fo n c rs { mc0 tape with mem := (mc0 tape).mem ++ locals (fns rs) 0 [] } [] [] w5 → Calls Try.prog 14 #[.pointer (some ⟨w4.heap.size, 0, none⟩), .iface 70 (.pointer (some ⟨w5.heap.size, 0, none⟩))] (w5.alloc (.cells #[.pointer (some ⟨fa, fo, none⟩), .int .i64 0, .int .i64 0, .slice none 0 0, .slice none 0 0, .int .u64 0] 77)) fun e w' => e = .returned (.tuple #[]) ∧ RunX w2.drew w4.heap.size tg fa fo n c rs (start (fns rs) tape) [(w5.heap.size, 0)] [] w') := Lib.hid (fun w5 h5 => by
      have h1 := begin_first 0 0 h5 hmc (by show 0 ≤ _; omega) (by show 0 ≤ _; omega)
      simp only [Nat.zero_mul, Nat.add_zero] at h1
      exact h1)
    obtain ⟨rb, hrb⟩ : ∃ x, x = w4.heap.size := ⟨_, rfl⟩
    go_wp2_with (first
      | (go_at_call 15; refine HNC.out.mono ?_; rintro e w5 ⟨rfl, h5⟩; have H5 := Lib.hid h5; clear h5)
      | (go_at_call 14; refine (HBG.out _ H5.out).mono ?_; rintro e w6 ⟨rfl, h6⟩; have H6 := Lib.hid h6; clear h6))
    rw [← hrb] at H6 ⊢
    clear hrb HNC HBG HRX H5 x4 HB4 hmc
    have HS6 : Hid (SLink (start (fns rs) tape) [(w5.heap.size, 0)] []) := Lib.hid ⟨fun h => (by cases h), fun _ => rfl⟩
    go_loopg [] fuel (fun kz wr => ∃ (k : Nat) (st : Mc) (gl : List (Nat × Nat)) (pbs : List Nat), Hid (RunX w2.drew rb tg fa fo n c rs st gl pbs wr) ∧ Hid (SLink st gl pbs) ∧ Hid (RunB rs k st stF) ∧ Hid (k + st.steps = fuel) ∧ Hid (st.evs.length ≤ 1048577) ∧ Hid (k = kz))
    case atStart => exact ⟨fuel, _, _, _, H6, HS6, HRB, Lib.hid (by show fuel + 0 = fuel; omega), Lib.hid (by show 0 ≤ _; omega), Lib.hid rfl⟩
    case round =>
      clear H6 HS6 HRB
      obtain ⟨k, st, gl, pbs, HX, HS, HRB, HK, HEVL, hkz⟩ := hrel
      obtain ⟨hrz, _, _, _, c6, c10, _, _⟩ := HX.out.cells
      by_cases hd3 : st.doing = 3
      · have HF := Lib.hid (HRB.out.over hd3)
        have HDO := Lib.hid hd3
        have HFIN := Lib.hid (fin_any HX.out hd3 HZ3.out (HB3.out) (by show w.heap.size ≤ w2.heap.size; omega))
        rw [hd3] at c6
        clear hd3
        obtain ⟨AE, cE, r7, r8, r9, r10, r11, r12, r13, hzb, hzz, hrbz, hev, hbw⟩ := HFIN.out
        have HZB := Lib.hid hzb
        have HEV := Lib.hid hev
        have HBW := Lib.hid hbw
        have z0 : wr.cell? ⟨w.heap.size + 1, 0, none⟩ = some (.slice none 0 0) := hzb.cell 0
        have z1 : wr.cell? ⟨w.heap.size + 1, 1, none⟩ = some (.int .i64 0) := hzb.cell 1
        have z2 : wr.cell? ⟨w.heap.size + 1, 2, none⟩ = some (.int .u64 0) := hzb.cell 2
        have z3 : wr.cell? ⟨w.heap.size + 1, 3, none⟩ = some (.int .i64 0) := hzb.cell 3
        have z4 : wr.cell? ⟨w.heap.size + 1, 4, none⟩ = some (.int .i64 0) := hzb.cell 4
        have z5 : wr.cell? ⟨w.heap.size + 1, 5, none⟩ = some (.int .i64 0) := hzb.cell 5
        have z6 : wr.cell? ⟨w.heap.size + 1, 6, none⟩ = some (.int .i64 0) := hzb.cell 6
        have zf : ∀ i, wr.frozen? ⟨w.heap.size + 1, i, none⟩ = false := fun i => hzb.frozen i
        clear hzb hev hbw
        go_wp2
        obtain ⟨hfb, hfe, hfw⟩ := fin_set st HZB.out (by omega) HEV.out HBW.out
        obtain ⟨Wf, hWf⟩ : ∃ W, W = (((((((wr.setCell ⟨w.heap.size + 1, 0, none⟩ (.slice AE st.evs.length cE)).setCell ⟨w.heap.size + 1, 1, none⟩ (.int .i64 st.endk)).setCell ⟨w.heap.size + 1, 2, none⟩ (.int .u64 st.endv)).setCell ⟨w.heap.size + 1, 3, none⟩ (.int .i64 st.steps)).setCell ⟨w.heap.size + 1, 4, none⟩ (.int .i64 st.depth)).setCell ⟨w.heap.size + 1, 5, none⟩ (.int .i64 st.defers)).setCell ⟨w.heap.size + 1, 6, none⟩ (.int .i64 st.maxp)) := ⟨_, rfl⟩
        rw [← hWf] at hfb hfe hfw ⊢
        clear hWf
        have e0 := hfb.cell 0
        have e1 := hfb.cell 1
        have e2 := hfb.cell 2
        have e3 := hfb.cell 3
        have e4 := hfb.cell 4
        have e5 := hfb.cell 5
        have e6 := hfb.cell 6
        simp only [List.getElem?_toArray, List.getElem?_cons_succ, List.getElem?_cons_zero] at e0 e1 e2 e3 e4 e5 e6
        refine bodyPost_ret (v := .tuple #[.agg #[.slice AE st.evs.length cE, .int .i64 st.endk, .int .u64 st.endv, .int .i64 st.steps, .int .i64 st.depth, .int .i64 st.defers, .int .i64 st.maxp], .int .i64 0]) (by simp [results, Try.results9, go_sem, e0, e1, e2, e3, e4, e5, e6]) rfl ?_
        rw [HE.out, HF.out, if_pos HDO.out]
        exact ⟨_, rfl, hfe, hfw⟩
      · cases k with
        | zero =>
          have hst : st.steps = fuel := by have := HK.out; omega
          have HF : Hid (stF = st) := Lib.hid HRB.out
          have HD3 := Lib.hid hd3
          have hg : (st.doing != 3) = true := by simpa using hd3
          rw [hst] at c10
          have HEN := Lib.hid (end_any 3 0 HX.out hd3 HEVL.out)
          clear hd3 hst
          obtain ⟨sv, hsv⟩ : ∃ x, x = st.over 3 0 := ⟨_, rfl⟩
          have HSV := Lib.hid hsv
          rw [← hsv] at HEN
          clear hsv
          go_wp2_with (first | (go_at_call 17; refine HEN.out.mono ?_; rintro e w8 ⟨rfl, h8⟩; refine Hid.out ?_))
          obtain ⟨AE, cE, r7, r8, r9, r10, r11, r12, r13, hzb, hzz, hrbz, hev, hbw⟩ := fin_any h8 (by rw [HSV.out]; rfl) HZ3.out (HB3.out) (by show w.heap.size ≤ w2.heap.size; omega)
          have HZB := Lib.hid hzb
          have HEV := Lib.hid hev
          have HBW := Lib.hid hbw
          have z0 : w8.cell? ⟨w.heap.size + 1, 0, none⟩ = some (.slice none 0 0) := hzb.cell 0
          have z1 : w8.cell? ⟨w.heap.size + 1, 1, none⟩ = some (.int .i64 0) := hzb.cell 1
          have z2 : w8.cell? ⟨w.heap.size + 1, 2, none⟩ = some (.int .u64 0) := hzb.cell 2
          have z3 : w8.cell? ⟨w.heap.size + 1, 3, none⟩ = some (.int .i64 0) := hzb.cell 3
          have z4 : w8.cell? ⟨w.heap.size + 1, 4, none⟩ = some (.int .i64 0) := hzb.cell 4
          have z5 : w8.cell? ⟨w.heap.size + 1, 5, none⟩ = some (.int .i64 0) := hzb.cell 5
          have z6 : w8.cell? ⟨w.heap.size + 1, 6, none⟩ = some (.int .i64 0) := hzb.cell 6
          have zf : ∀ i, w8.frozen? ⟨w.heap.size + 1, i, none⟩ = false := fun i => hzb.frozen i
          clear hzb hev hbw h8
          refine Lib.hid ?_
          go_wp2
          obtain ⟨hfb, hfe, hfw⟩ := fin_set sv HZB.out (by omega) HEV.out HBW.out
          obtain ⟨Wf, hWf⟩ : ∃ W, W = (((((((w8.setCell ⟨w.heap.size + 1, 0, none⟩ (.slice AE sv.evs.length cE)).setCell ⟨w.heap.size + 1, 1, none⟩ (.int .i64 sv.endk)).setCell ⟨w.heap.size + 1, 2, none⟩ (.int .u64 sv.endv)).setCell ⟨w.heap.size + 1, 3, none⟩ (.int .i64 sv.steps)).setCell ⟨w.heap.size + 1, 4, none⟩ (.int .i64 sv.depth)).setCell ⟨w.heap.size + 1, 5, none⟩ (.int .i64 sv.defers)).setCell ⟨w.heap.size + 1, 6, none⟩ (.int .i64 sv.maxp)) := ⟨_, rfl⟩
          rw [← hWf] at hfb hfe hfw ⊢
          clear hWf
          have e0 := hfb.cell 0
          have e1 := hfb.cell 1
          have e2 := hfb.cell 2
          have e3 := hfb.cell 3
          have e4 := hfb.cell 4
          have e5 := hfb.cell 5
          have e6 := hfb.cell 6
          simp only [List.getElem?_toArray, List.getElem?_cons_succ, List.getElem?_cons_zero] at e0 e1 e2 e3 e4 e5 e6
          refine bodyPost_ret (v := .tuple #[.agg #[.slice AE sv.evs.length cE, .int .i64 sv.endk, .int .u64 sv.endv, .int .i64 sv.steps, .int .i64 sv.depth, .int .i64 sv.defers, .int .i64 sv.maxp], .int .i64 0]) (by simp [results, Try.results9, go_sem, e0, e1, e2, e3, e4, e5, e6]) rfl ?_
          rw [HE.out, HF.out, if_neg HD3.out, ← HSV.out]
          exact ⟨_, rfl, hfe, hfw⟩
        | succ k =>
          have hst : st.steps < fuel := by have := HK.out; omega
          have hg : (st.doing != 3) = true := by simpa using hd3
          obtain ⟨st2, hsb, hrb2⟩ : ∃ st2, StepB rs st st2 ∧ RunB rs k st2 stF := by have h1 := HRB.out; unfold RunB at h1; rw [if_neg hd3] at h1; exact h1
          have HST := Lib.hid (stepB_any HX.out HS.out hsb)
          obtain ⟨s, hs⟩ : ∃ s, s = st.steps := ⟨_, rfl⟩
          have HK2 : Hid (k + st2.steps = fuel) := Lib.hid (by obtain ⟨_, _, _, _, _, _, _, _, _, _, _, _, _, _, _, _, _, _, h1, _⟩ := hsb; have := HK.out; omega)
          have HEV2 : Hid (st2.evs.length ≤ 1048577) := Lib.hid (by obtain ⟨_, _, _, _, _, _, _, _, _, _, _, _, _, _, _, _, _, _, _, h1⟩ := hsb; exact h1)
          have HRB2 := Lib.hid hrb2
          rw [← hs] at c10 hst
          clear hsb hrb2 hs hd3
          go_wp2_with (first | (go_at_call 16; refine HST.out.mono ?_; rintro e w7 ⟨rfl, gl2, pbs2, h7, hlk7⟩; have H7 := Lib.hid h7; have HLK7 := Lib.hid hlk7; clear h7 hlk7))
          go_roundg k
          case measure => have := hkz.out; omega
          case rel => exact ⟨k, st2, gl2, pbs2, H7, HLK7, HRB2, HK2, HEV2, Lib.hid rfl⟩
end Go.Proofs.Ytdoabcmfblmklaa

/-
  Package sem: a run reckoned through: what walks it.
-/
namespace Go.Proofs.Ytdoabcmfblmklaa
set_option linter.unusedVariables false
set_option linter.unusedSimpArgs false
open Go.ChangeShapes Go.WideShapes Go.ChangeAt Go.RowKit

/-- a run's sizes, by the functions alone -/
def RndF (fs : List Fn) (st : Mc) : Prop := st.frames.length ≤ 1048577 ∧ st.depth ≤ 1048577 ∧ st.mem.length ≤ 1000000000 ∧ st.panics.length ≤ 1048577 ∧ st.evs.length ≤ 1048577 ∧ st.waiting ≤ 1048577 ∧
  (∀ t ∈ st.frames, t.why ≤ 3 ∧ t.f < fs.length ∧ t.stack.length ≤ 1048576 ∧ t.defs.length ≤ 1048577 ∧ ∀ d ∈ t.defs, d.fn ≤ 1048577 ∧ d.fn < fs.length ∧ d.args.length ≤ (fnOf fs d.fn).locals.length) ∧ ∀ f ∈ fs, f.locals.length ≤ 255 ∧ f.keep ≤ 255
instance (fs : List Fn) (st : Mc) : Decidable (RndF fs st) := by unfold RndF; infer_instance
def ExF (fs : List Fn) (st : Mc) (t : Fr) (bl : List Fr) (i : Ins) : Prop := (st.doing = 0 ∧ bl.length + 1 ≤ 1048576 ∧ st.depth ≤ 1048576 ∧ st.mem.length ≤ 1000000000 ∧ st.panics.length ≤ 1048575 ∧ st.evs.length ≤ 1048576 ∧ st.waiting ≤ 1048576 ∧ st.defers ≤ 1048577 ∧ st.maxp ≤ 1048577) ∧
  (t.why ≤ 3 ∧ t.f < fs.length ∧ t.stack.length + 2 ≤ 1048576 ∧ (∀ v ∈ t.stack, 0 ≤ v ∧ v ≤ 18446744073709551615) ∧ t.defs.length ≤ 1048576) ∧ (∀ f ∈ fs, f.locals.length ≤ 255 ∧ 0 ≤ f.params ∧ f.params.toNat ≤ f.locals.length) ∧ (i.op = 21 ∨ i.op = 22 ∨ 0 ≤ i.arg) ∧ (i.op ≠ 4 ∨ t.base + i.arg.toNat ≤ 1000000000)
instance (fs : List Fn) (st : Mc) (t : Fr) (bl : List Fr) (i : Ins) : Decidable (ExF fs st t bl i) := by unfold ExF; infer_instance
def rndsC (fs : List Fn) : Nat → Mc → Bool
  | 0, _ => true
  | n + 1, st => decide (RndF fs st) && (match settle1 fs st with
    | some st' => rndsC fs n st'
    | none => true)
/-- a step, reckoned, with all that its walk asks -/
def stepC (fs : List Fn) (st : Mc) : Option Mc := match st.frames with
  | [] => none
  | t :: bl => match (fnOf fs t.f).code[t.next.toNat]? with
    | none => none
    | some i => if t.f < fs.length ∧ 0 ≤ t.next ∧ st.doing = 0 ∧ st.steps ≤ 1048576 ∧ (fnOf fs t.f).code.length ≤ 1000000 ∧ ExF fs { st with steps := st.steps + 1 } { t with next := t.next + 1 } bl i then
        (match exec fs { st with steps := st.steps + 1 } { t with next := t.next + 1 } bl i with
        | none => none
        | some st1 => if rndsC fs (st.frames.length + 2) st1 = true then (match settle fs (st.frames.length + 2) st1 with
            | none => none
            | some st2 => if st2.steps = st.steps + 1 ∧ st2.evs.length ≤ 1048577 then some st2 else none) else none) else none
def chkC (fs : List Fn) : Nat → Mc → Option Mc
  | 0, st => some st
  | n + 1, st => if st.doing = 3 then some st else match stepC fs st with
    | some st2 => chkC fs n st2
    | none => none
section
variable {rs : List Raw} {st st' : Mc} {t : Fr} {bl : List Fr} {i : Ins}
theorem raw_at {k : Nat} (h : k < (fns rs).length) : ∃ r, rs[k]? = some r ∧ fnOf (fns rs) k = r.fn := by
  rw [length_fns] at h
  exact ⟨rs[k], List.getElem?_eq_getElem h, fnOf_at (List.getElem?_eq_getElem h)⟩
theorem raw_mem {r : Raw} (h : r ∈ rs) : r.fn ∈ fns rs := List.mem_map_of_mem h
theorem RndF.rnd (h : RndF (fns rs) st) : Rnd rs st := by
  obtain ⟨h1, h2, h3, h4, h5, h6, h7, h8⟩ := h
  refine ⟨h1, h2, h3, h4, h5, h6, fun t ht => (h7 t ht).1, fun t ht => ?_, fun t ht => (h7 t ht).2.2.1, fun t ht => (h7 t ht).2.2.2.1, fun t ht d hd => ?_, fun r hr => (h8 _ (raw_mem hr)).1, fun r hr => (h8 _ (raw_mem hr)).2⟩
  · obtain ⟨r, hr, _⟩ := raw_at (h7 t ht).2.1
    exact ⟨r, hr⟩
  · obtain ⟨e1, e2, e3⟩ := (h7 t ht).2.2.2.2 d hd
    obtain ⟨r, hr, hf⟩ := raw_at e2
    rw [hf] at e3
    exact ⟨e1, r, hr, e3⟩
theorem rndsC_sound : ∀ {n : Nat} {st : Mc}, rndsC (fns rs) n st = true → Rnds rs n st
  | 0, _, _ => trivial
  | n + 1, st, h => by
    unfold rndsC at h
    rw [Bool.and_eq_true, decide_eq_true_eq] at h
    refine ⟨h.1.rnd, fun st' hs => ?_⟩
    have h2 := h.2
    rw [hs] at h2
    exact rndsC_sound h2
theorem ExF.exb (h : ExF (fns rs) st t bl i) : ExB rs st t bl i := by
  obtain ⟨⟨a1, a2, a3, a4, a5, a6, a7, a8, a9⟩, ⟨b1, b2, b3, b4, b5⟩, c1, c2, c3⟩ := h
  obtain ⟨r, hr, _⟩ := raw_at b2
  refine ⟨a1, a2, a3, a4, a5, a6, a7, a8, a9, b1, ⟨r, hr⟩, b3, (fun v hv => by have := b4 v hv; unfold isW; omega), b5, fun r hr => (c1 _ (raw_mem hr)).1, fun r hr => (c1 _ (raw_mem hr)).2, fun h1 h2 => ?_, fun h1 => ?_⟩
  · rcases c2 with c2 | c2 | c2
    · exact absurd c2 h1
    · exact absurd c2 h2
    · exact c2
  · rcases c3 with c3 | c3
    · exact absurd h1 c3
    · exact c3
theorem stepC_sound (h : stepC (fns rs) st = some st') : StepB rs st st' := by
  unfold stepC at h
  split at h
  · cases h
  rename_i t bl hf
  split at h
  · cases h
  rename_i i hi
  split at h
  rotate_left
  · cases h
  rename_i hc
  obtain ⟨g1, g2, g3, g4, g5, g6⟩ := hc
  split at h
  · cases h
  rename_i st1 hex
  split at h
  rotate_left
  · cases h
  rename_i hrn
  split at h
  · cases h
  rename_i st2 hset
  split at h
  rotate_left
  · cases h
  rename_i hs2
  injection h with h
  subst h
  obtain ⟨r, hr, hfn⟩ := raw_at g1
  rw [hfn] at hi g5
  exact ⟨t, bl, r, i, t.next.toNat, st1, st.frames.length + 2, hf, hr, by omega, hi, g3, g4, g5, hex, g6.exb, hset, rndsC_sound hrn, hs2.1, hs2.2⟩
theorem chkC_sound : ∀ {n : Nat} {st st' : Mc}, chkC (fns rs) n st = some st' → RunB rs n st st'
  | 0, st, st', h => by unfold chkC at h; injection h with h; exact h.symm
  | n + 1, st, st', h => by
    unfold chkC at h
    unfold RunB
    split at h
    · rename_i hd
      rw [if_pos hd]
      injection h with h
      exact h.symm
    · rename_i hd
      rw [if_neg hd]
      split at h
      · rename_i st2 hs
        exact ⟨st2, stepC_sound hs, chkC_sound h⟩
      · cases h
end
/-- the chapter's program of 'first' -/
def firstFs : List Fn := [⟨0, [], false, -1, [⟨25, 1, 0⟩, ⟨1, 0, 5⟩, ⟨26, 0, 0⟩]⟩, ⟨0, [], false, -1, [⟨27, 0, 0⟩, ⟨31, 0, 0⟩, ⟨29, 0, 0⟩, ⟨24, 0, 0⟩]⟩]
theorem firstC : (chkC firstFs 100 (start firstFs [])).map (fun st => (st.evs, st.doing, st.endk, st.endv, st.steps)) = some ([(1, 5)], 3, 1, 0, 7) := by decide +kernel
end Go.Proofs.Ytdoabcmfblmklaa
