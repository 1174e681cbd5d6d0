/-
  Texts of one seat, one behind the other: QHasF, QPutF, QEncode, QKCheck.
-/
import Derived.StillTailTactics
import Derived.Deep.RegionHeld3
import Derived.Test.YtgekmjkfnhogkaaMA13

set_option linter.unusedVariables false
set_option linter.unusedSimpArgs false
set_option maxRecDepth 100000
set_option maxHeartbeats 51200000
namespace Go.Proofs.Ytgekmjkfnhogkaa.Q
open Go.ChangeShapes Go.WideShapes Go.ChangeAt Go.RowKit
theorem fit_1 (n:Nat):fitB 1 (n:Int)=decide (n≤255):=by unfold fitB;simp only [Int.reducePow];congr 1;simp;omega
theorem fit_2 (n:Nat):fitB 2 (n:Int)=decide (n≤65535):=by unfold fitB;simp only [Int.reducePow];congr 1;simp;omega
theorem fitsB1 (n:Nat) (b:Bool) (w:World) (h:n≤140737488351232) (hb:decide (n≤255)=b):Calls Try.prog 71 #[.int .u64 n,.int .i64 1] w fun e w'=>e=.returned (.bool b)∧w=w':=by
 rw [← hb,← fit_1]
 exact fits_any n 1 w (by omega) (by omega) (by omega)
theorem fits2 (n:Nat) (b:Bool) (w:World) (h:n≤140737488351232) (hb:decide (n≤65535)=b):Calls Try.prog 71 #[.int .u64 n,.int .i64 2] w fun e w'=>e=.returned (.bool b)∧w=w':=by
 rw [← hb,← fit_2]
 exact fits_any n 2 w (by omega) (by omega) (by omega)
theorem has_1 (B:Nat) (p kp:Int) (lo co:Option Addr) (nl lc nc cc:Nat) (rs:Bool) (ls:List Int) (is:List Ins) (w:World) (hL:Reads w B 1 lo nl (u8c ls)) (hll:ls.length=nl) (hC:Reads w B 3 co nc (insc is)) (hcl:is.length=nc) (hWI:∀ i ∈ is,WfI i)
  (hn1:nl≤140737488351232) (hn2:nc*24≤140737488351232) (hB:B≤w.heap.size) (k1:¬ (nl≤255)) :
  Calls Try.prog 72 #[.agg #[.int .i64 p,.slice lo nl lc,.bool rs,.int .i64 kp,.slice co nc cc]] w fun e w'=>e=.returned (.bool false)∧Below w.heap.size w w':=by
 have HL:=Lib.hid (hL.alloc hB (.cells #[.int .i64 p,.slice lo nl lc,.bool rs,.int .i64 kp,.slice co nc cc] 41))
 have HLL:=Lib.hid hll
 have HC:=Lib.hid (hC.alloc hB (.cells #[.int .i64 p,.slice lo nl lc,.bool rs,.int .i64 kp,.slice co nc cc] 41))
 have HCL:=Lib.hid hcl
 have HWI:=Lib.hid hWI
 have HAB:Hid (Below w.heap.size w (w.alloc (.cells #[.int .i64 p,.slice lo nl lc,.bool rs,.int .i64 kp,.slice co nc cc] 41))):=(Below.refl _ _).alloc (Nat.le_refl _) _
 have HBX:=Lib.hid (Blk.new w 41 #[.int .i64 p,.slice lo nl lc,.bool rs,.int .i64 kp,.slice co nc cc])
 clear hL hll hC hcl hWI
 have K1:Hid (decide (nl≤255)=false):=Lib.hid (by simp;omega)
 clear HL HLL HC HCL HWI HBX
 go_enter Try.func72,Try.ntmps72
 go_wp2_with (first | (go_at_call 71;with_reducible refine (fitsB1 nl false _ hn1 K1.out).mono ?_;rintro e w2 ⟨rfl,rfl⟩))
 go_ret
 exact ⟨rfl,HAB.out⟩

theorem has_2 (B:Nat) (p kp:Int) (lo co:Option Addr) (nl lc nc cc:Nat) (rs:Bool) (ls:List Int) (is:List Ins) (w:World) (hL:Reads w B 1 lo nl (u8c ls)) (hll:ls.length=nl) (hC:Reads w B 3 co nc (insc is)) (hcl:is.length=nc) (hWI:∀ i ∈ is,WfI i)
  (hn1:nl≤140737488351232) (hn2:nc*24≤140737488351232) (hB:B≤w.heap.size) (k1:nl≤255) (k2:¬ (nc≤65535)) :
  Calls Try.prog 72 #[.agg #[.int .i64 p,.slice lo nl lc,.bool rs,.int .i64 kp,.slice co nc cc]] w fun e w'=>e=.returned (.bool false)∧Below w.heap.size w w':=by
 have HL:=Lib.hid (hL.alloc hB (.cells #[.int .i64 p,.slice lo nl lc,.bool rs,.int .i64 kp,.slice co nc cc] 41))
 have HLL:=Lib.hid hll
 have HC:=Lib.hid (hC.alloc hB (.cells #[.int .i64 p,.slice lo nl lc,.bool rs,.int .i64 kp,.slice co nc cc] 41))
 have HCL:=Lib.hid hcl
 have HWI:=Lib.hid hWI
 have HAB:Hid (Below w.heap.size w (w.alloc (.cells #[.int .i64 p,.slice lo nl lc,.bool rs,.int .i64 kp,.slice co nc cc] 41))):=(Below.refl _ _).alloc (Nat.le_refl _) _
 have HBX:=Lib.hid (Blk.new w 41 #[.int .i64 p,.slice lo nl lc,.bool rs,.int .i64 kp,.slice co nc cc])
 clear hL hll hC hcl hWI
 have K1:Hid (decide (nl≤255)=true):=Lib.hid (by simp;omega)
 have K2:Hid (decide (nc≤65535)=false):=Lib.hid (by simp;omega)
 clear HL HLL HC HCL HWI HBX
 go_enter Try.func72,Try.ntmps72
 go_wp2_with (first | (go_at_call 71;with_reducible refine (fitsB1 nl true _ hn1 K1.out).mono ?_;rintro e w2 ⟨rfl,rfl⟩) | (go_at_call 71;with_reducible refine (fits2 nc false _ (by omega) K2.out).mono ?_;rintro e w2 ⟨rfl,rfl⟩))
 go_ret
 exact ⟨rfl,HAB.out⟩

theorem has_3 (B:Nat) (p kp:Int) (lo co:Option Addr) (nl lc nc cc:Nat) (rs:Bool) (ls:List Int) (is:List Ins) (w:World) (hL:Reads w B 1 lo nl (u8c ls)) (hll:ls.length=nl) (hC:Reads w B 3 co nc (insc is)) (hcl:is.length=nc) (hWI:∀ i ∈ is,WfI i)
  (hn1:nl≤140737488351232) (hn2:nc*24≤140737488351232) (hB:B≤w.heap.size) (k1:nl≤255) (k2:nc≤65535) (k3:¬ (0≤p)) :
  Calls Try.prog 72 #[.agg #[.int .i64 p,.slice lo nl lc,.bool rs,.int .i64 kp,.slice co nc cc]] w fun e w'=>e=.returned (.bool false)∧Below w.heap.size w w':=by
 have HL:=Lib.hid (hL.alloc hB (.cells #[.int .i64 p,.slice lo nl lc,.bool rs,.int .i64 kp,.slice co nc cc] 41))
 have HLL:=Lib.hid hll
 have HC:=Lib.hid (hC.alloc hB (.cells #[.int .i64 p,.slice lo nl lc,.bool rs,.int .i64 kp,.slice co nc cc] 41))
 have HCL:=Lib.hid hcl
 have HWI:=Lib.hid hWI
 have HAB:Hid (Below w.heap.size w (w.alloc (.cells #[.int .i64 p,.slice lo nl lc,.bool rs,.int .i64 kp,.slice co nc cc] 41))):=(Below.refl _ _).alloc (Nat.le_refl _) _
 have HBX:=Lib.hid (Blk.new w 41 #[.int .i64 p,.slice lo nl lc,.bool rs,.int .i64 kp,.slice co nc cc])
 clear hL hll hC hcl hWI
 have K1:Hid (decide (nl≤255)=true):=Lib.hid (by simp;omega)
 have K2:Hid (decide (nc≤65535)=true):=Lib.hid (by simp;omega)
 have K3:decide (0≤p)=false:=by simp;omega
 clear HL HLL HC HCL HWI HBX
 go_enter Try.func72,Try.ntmps72
 go_wp2_with (first | (go_at_call 71;with_reducible refine (fitsB1 nl true _ hn1 K1.out).mono ?_;rintro e w2 ⟨rfl,rfl⟩) | (go_at_call 71;with_reducible refine (fits2 nc true _ (by omega) K2.out).mono ?_;rintro e w2 ⟨rfl,rfl⟩))
 go_ret
 exact ⟨rfl,HAB.out⟩

theorem has_4 (B:Nat) (p kp:Int) (lo co:Option Addr) (nl lc nc cc:Nat) (rs:Bool) (ls:List Int) (is:List Ins) (w:World) (hL:Reads w B 1 lo nl (u8c ls)) (hll:ls.length=nl) (hC:Reads w B 3 co nc (insc is)) (hcl:is.length=nc) (hWI:∀ i ∈ is,WfI i)
  (hn1:nl≤140737488351232) (hn2:nc*24≤140737488351232) (hB:B≤w.heap.size) (k1:nl≤255) (k2:nc≤65535) (k3:0≤p) (k4:¬ (p≤(nl:Int))) :
  Calls Try.prog 72 #[.agg #[.int .i64 p,.slice lo nl lc,.bool rs,.int .i64 kp,.slice co nc cc]] w fun e w'=>e=.returned (.bool false)∧Below w.heap.size w w':=by
 have HL:=Lib.hid (hL.alloc hB (.cells #[.int .i64 p,.slice lo nl lc,.bool rs,.int .i64 kp,.slice co nc cc] 41))
 have HLL:=Lib.hid hll
 have HC:=Lib.hid (hC.alloc hB (.cells #[.int .i64 p,.slice lo nl lc,.bool rs,.int .i64 kp,.slice co nc cc] 41))
 have HCL:=Lib.hid hcl
 have HWI:=Lib.hid hWI
 have HAB:Hid (Below w.heap.size w (w.alloc (.cells #[.int .i64 p,.slice lo nl lc,.bool rs,.int .i64 kp,.slice co nc cc] 41))):=(Below.refl _ _).alloc (Nat.le_refl _) _
 have HBX:=Lib.hid (Blk.new w 41 #[.int .i64 p,.slice lo nl lc,.bool rs,.int .i64 kp,.slice co nc cc])
 clear hL hll hC hcl hWI
 have K1:Hid (decide (nl≤255)=true):=Lib.hid (by simp;omega)
 have K2:Hid (decide (nc≤65535)=true):=Lib.hid (by simp;omega)
 have K3:decide (0≤p)=true:=by simp;omega
 have K4:decide (p≤(nl:Int))=false:=by simp;omega
 clear HL HLL HC HCL HWI HBX
 go_enter Try.func72,Try.ntmps72
 go_wp2_with (first | (go_at_call 71;with_reducible refine (fitsB1 nl true _ hn1 K1.out).mono ?_;rintro e w2 ⟨rfl,rfl⟩) | (go_at_call 71;with_reducible refine (fits2 nc true _ (by omega) K2.out).mono ?_;rintro e w2 ⟨rfl,rfl⟩))
 go_ret
 exact ⟨rfl,HAB.out⟩

theorem has_5 (B:Nat) (p kp:Int) (lo co:Option Addr) (nl lc nc cc:Nat) (rs:Bool) (ls:List Int) (is:List Ins) (w:World) (hL:Reads w B 1 lo nl (u8c ls)) (hll:ls.length=nl) (hC:Reads w B 3 co nc (insc is)) (hcl:is.length=nc) (hWI:∀ i ∈ is,WfI i)
  (hn1:nl≤140737488351232) (hn2:nc*24≤140737488351232) (hB:B≤w.heap.size) (k1:nl≤255) (k2:nc≤65535) (k3:0≤p) (k4:p≤(nl:Int)) (k5:¬ (-1≤kp)) :
  Calls Try.prog 72 #[.agg #[.int .i64 p,.slice lo nl lc,.bool rs,.int .i64 kp,.slice co nc cc]] w fun e w'=>e=.returned (.bool false)∧Below w.heap.size w w':=by
 have HL:=Lib.hid (hL.alloc hB (.cells #[.int .i64 p,.slice lo nl lc,.bool rs,.int .i64 kp,.slice co nc cc] 41))
 have HLL:=Lib.hid hll
 have HC:=Lib.hid (hC.alloc hB (.cells #[.int .i64 p,.slice lo nl lc,.bool rs,.int .i64 kp,.slice co nc cc] 41))
 have HCL:=Lib.hid hcl
 have HWI:=Lib.hid hWI
 have HAB:Hid (Below w.heap.size w (w.alloc (.cells #[.int .i64 p,.slice lo nl lc,.bool rs,.int .i64 kp,.slice co nc cc] 41))):=(Below.refl _ _).alloc (Nat.le_refl _) _
 have HBX:=Lib.hid (Blk.new w 41 #[.int .i64 p,.slice lo nl lc,.bool rs,.int .i64 kp,.slice co nc cc])
 clear hL hll hC hcl hWI
 have K1:Hid (decide (nl≤255)=true):=Lib.hid (by simp;omega)
 have K2:Hid (decide (nc≤65535)=true):=Lib.hid (by simp;omega)
 have K3:decide (0≤p)=true:=by simp;omega
 have K4:decide (p≤(nl:Int))=true:=by simp;omega
 have K5:decide (-1≤kp)=false:=by simp;omega
 clear HL HLL HC HCL HWI HBX
 go_enter Try.func72,Try.ntmps72
 go_wp2_with (first | (go_at_call 71;with_reducible refine (fitsB1 nl true _ hn1 K1.out).mono ?_;rintro e w2 ⟨rfl,rfl⟩) | (go_at_call 71;with_reducible refine (fits2 nc true _ (by omega) K2.out).mono ?_;rintro e w2 ⟨rfl,rfl⟩))
 go_ret
 exact ⟨rfl,HAB.out⟩

theorem has_6 (B:Nat) (p kp:Int) (lo co:Option Addr) (nl lc nc cc:Nat) (rs:Bool) (ls:List Int) (is:List Ins) (w:World) (hL:Reads w B 1 lo nl (u8c ls)) (hll:ls.length=nl) (hC:Reads w B 3 co nc (insc is)) (hcl:is.length=nc) (hWI:∀ i ∈ is,WfI i)
  (hn1:nl≤140737488351232) (hn2:nc*24≤140737488351232) (hB:B≤w.heap.size) (k1:nl≤255) (k2:nc≤65535) (k3:0≤p) (k4:p≤(nl:Int)) (k5:-1≤kp) (k6:¬ (kp≤254)) :
  Calls Try.prog 72 #[.agg #[.int .i64 p,.slice lo nl lc,.bool rs,.int .i64 kp,.slice co nc cc]] w fun e w'=>e=.returned (.bool false)∧Below w.heap.size w w':=by
 have HL:=Lib.hid (hL.alloc hB (.cells #[.int .i64 p,.slice lo nl lc,.bool rs,.int .i64 kp,.slice co nc cc] 41))
 have HLL:=Lib.hid hll
 have HC:=Lib.hid (hC.alloc hB (.cells #[.int .i64 p,.slice lo nl lc,.bool rs,.int .i64 kp,.slice co nc cc] 41))
 have HCL:=Lib.hid hcl
 have HWI:=Lib.hid hWI
 have HAB:Hid (Below w.heap.size w (w.alloc (.cells #[.int .i64 p,.slice lo nl lc,.bool rs,.int .i64 kp,.slice co nc cc] 41))):=(Below.refl _ _).alloc (Nat.le_refl _) _
 have HBX:=Lib.hid (Blk.new w 41 #[.int .i64 p,.slice lo nl lc,.bool rs,.int .i64 kp,.slice co nc cc])
 clear hL hll hC hcl hWI
 have K1:Hid (decide (nl≤255)=true):=Lib.hid (by simp;omega)
 have K2:Hid (decide (nc≤65535)=true):=Lib.hid (by simp;omega)
 have K3:decide (0≤p)=true:=by simp;omega
 have K4:decide (p≤(nl:Int))=true:=by simp;omega
 have K5:decide (-1≤kp)=true:=by simp;omega
 have K6:decide (kp<255)=false:=by simp;omega
 clear HL HLL HC HCL HWI HBX
 go_enter Try.func72,Try.ntmps72
 go_wp2_with (first | (go_at_call 71;with_reducible refine (fitsB1 nl true _ hn1 K1.out).mono ?_;rintro e w2 ⟨rfl,rfl⟩) | (go_at_call 71;with_reducible refine (fits2 nc true _ (by omega) K2.out).mono ?_;rintro e w2 ⟨rfl,rfl⟩))
 go_ret
 exact ⟨rfl,HAB.out⟩

theorem has_7 (B:Nat) (p kp:Int) (lo co:Option Addr) (nl lc nc cc:Nat) (rs:Bool) (ls:List Int) (is:List Ins) (w:World) (hL:Reads w B 1 lo nl (u8c ls)) (hll:ls.length=nl) (hC:Reads w B 3 co nc (insc is)) (hcl:is.length=nc) (hWI:∀ i ∈ is,WfI i)
  (hn1:nl≤140737488351232) (hn2:nc*24≤140737488351232) (hB:B≤w.heap.size) (k1:nl≤255) (k2:nc≤65535) (k3:0≤p) (k4:p≤(nl:Int)) (k5:-1≤kp) (k6:kp≤254) (k7:ls.all kindB=false) :
  Calls Try.prog 72 #[.agg #[.int .i64 p,.slice lo nl lc,.bool rs,.int .i64 kp,.slice co nc cc]] w fun e w'=>e=.returned (.bool false)∧Below w.heap.size w w':=by
 have HL:=Lib.hid (hL.alloc hB (.cells #[.int .i64 p,.slice lo nl lc,.bool rs,.int .i64 kp,.slice co nc cc] 41))
 have HLL:=Lib.hid hll
 have HC:=Lib.hid (hC.alloc hB (.cells #[.int .i64 p,.slice lo nl lc,.bool rs,.int .i64 kp,.slice co nc cc] 41))
 have HCL:=Lib.hid hcl
 have HWI:=Lib.hid hWI
 have HAB:Hid (Below w.heap.size w (w.alloc (.cells #[.int .i64 p,.slice lo nl lc,.bool rs,.int .i64 kp,.slice co nc cc] 41))):=(Below.refl _ _).alloc (Nat.le_refl _) _
 have HBX:=Lib.hid (Blk.new w 41 #[.int .i64 p,.slice lo nl lc,.bool rs,.int .i64 kp,.slice co nc cc])
 clear hL hll hC hcl hWI
 have K1:Hid (decide (nl≤255)=true):=Lib.hid (by simp;omega)
 have K2:Hid (decide (nc≤65535)=true):=Lib.hid (by simp;omega)
 have K3:decide (0≤p)=true:=by simp;omega
 have K4:decide (p≤(nl:Int))=true:=by simp;omega
 have K5:decide (-1≤kp)=true:=by simp;omega
 have K6:decide (kp<255)=true:=by simp;omega
 have K7:=Lib.hid k7
 clear k7
 go_enter Try.func72,Try.ntmps72
 go_wp2_with (first | (go_at_call 71;with_reducible refine (fitsB1 nl true _ hn1 K1.out).mono ?_;rintro e w2 ⟨rfl,rfl⟩) | (go_at_call 71;with_reducible refine (fits2 nc true _ (by omega) K2.out).mono ?_;rintro e w2 ⟨rfl,rfl⟩) | (go_at_call 88;refine (allK_any B lo nl lc ls _ HL.out HLL.out hn1).mono ?_;rintro e w2 ⟨rfl,rfl⟩;rw [K7.out]))
 go_ret
 exact ⟨rfl,HAB.out⟩

theorem has_8 (B:Nat) (p kp:Int) (lo co:Option Addr) (nl lc nc cc:Nat) (rs:Bool) (ls:List Int) (is:List Ins) (w:World) (hL:Reads w B 1 lo nl (u8c ls)) (hll:ls.length=nl) (hC:Reads w B 3 co nc (insc is)) (hcl:is.length=nc) (hWI:∀ i ∈ is,WfI i)
  (hn1:nl≤140737488351232) (hn2:nc*24≤140737488351232) (hB:B≤w.heap.size) (k1:nl≤255) (k2:nc≤65535) (k3:0≤p) (k4:p≤(nl:Int)) (k5:-1≤kp) (k6:kp≤254) (k7:ls.all kindB=true) :
  Calls Try.prog 72 #[.agg #[.int .i64 p,.slice lo nl lc,.bool rs,.int .i64 kp,.slice co nc cc]] w fun e w'=>e=.returned (.bool (is.all okI))∧Below w.heap.size w w':=by
 have HL:=Lib.hid (hL.alloc hB (.cells #[.int .i64 p,.slice lo nl lc,.bool rs,.int .i64 kp,.slice co nc cc] 41))
 have HLL:=Lib.hid hll
 have HC:=Lib.hid (hC.alloc hB (.cells #[.int .i64 p,.slice lo nl lc,.bool rs,.int .i64 kp,.slice co nc cc] 41))
 have HCL:=Lib.hid hcl
 have HWI:=Lib.hid hWI
 have HAB:Hid (Below w.heap.size w (w.alloc (.cells #[.int .i64 p,.slice lo nl lc,.bool rs,.int .i64 kp,.slice co nc cc] 41))):=(Below.refl _ _).alloc (Nat.le_refl _) _
 have HBX:=Lib.hid (Blk.new w 41 #[.int .i64 p,.slice lo nl lc,.bool rs,.int .i64 kp,.slice co nc cc])
 clear hL hll hC hcl hWI
 have K1:Hid (decide (nl≤255)=true):=Lib.hid (by simp;omega)
 have K2:Hid (decide (nc≤65535)=true):=Lib.hid (by simp;omega)
 have K3:decide (0≤p)=true:=by simp;omega
 have K4:decide (p≤(nl:Int))=true:=by simp;omega
 have K5:decide (-1≤kp)=true:=by simp;omega
 have K6:decide (kp<255)=true:=by simp;omega
 have K7:=Lib.hid k7
 clear k7
 go_enter Try.func72,Try.ntmps72
 go_wp2_with (first | (go_at_call 71;with_reducible refine (fitsB1 nl true _ hn1 K1.out).mono ?_;rintro e w2 ⟨rfl,rfl⟩) | (go_at_call 71;with_reducible refine (fits2 nc true _ (by omega) K2.out).mono ?_;rintro e w2 ⟨rfl,rfl⟩) | (go_at_call 88;refine (allK_any B lo nl lc ls _ HL.out HLL.out hn1).mono ?_;rintro e w2 ⟨rfl,rfl⟩;rw [K7.out]) | (go_at_call 90;refine (allI_any B co nc cc is _ HC.out HCL.out (by omega) HWI.out (by simp;omega)).mono ?_;rintro e w2 ⟨rfl,hb2⟩;refine Hid.out ?_))
 have HB2:=Lib.hid (HAB.out.trans (hb2.mono (by simp)))
 clear hb2
 refine Lib.hid ?_
 go_wp2
 go_ret
 exact ⟨rfl,HB2.out⟩

theorem okF_any (B:Nat) (r:Raw) (w:World) (h:RdF w B r) (hw:WfF r.fn) (hB:B≤w.heap.size) :
  Calls Try.prog 72 #[.agg #[.int .i64 r.fn.params,.slice r.lo r.fn.locals.length r.lc,.bool r.fn.result,.int .i64 r.fn.keep,.slice r.co r.fn.code.length r.cc]] w fun e w'=>e=.returned (.bool (okF r.fn))∧Below w.heap.size w w':=by
 have h1:=h.locals
 have h2:=h.code
 have h3:=hw.ll
 have h4:=hw.cl
 have h5:=hw.code
 unfold okF
 by_cases c1:r.fn.locals.length≤255
 rotate_left
 ·rw [decide_eq_false c1]
  simp only [Bool.false_and]
  exact has_1 B _ _ _ _ _ _ _ _ _ _ _ w h1 rfl h2 rfl h5 h3 h4 hB c1
 by_cases c2:r.fn.code.length≤65535
 rotate_left
 ·rw [decide_eq_true c1,decide_eq_false c2]
  simp only [Bool.and_false,Bool.false_and]
  exact has_2 B _ _ _ _ _ _ _ _ _ _ _ w h1 rfl h2 rfl h5 h3 h4 hB c1 c2
 by_cases c3:0≤r.fn.params
 rotate_left
 ·rw [decide_eq_true c1,decide_eq_true c2,decide_eq_false c3]
  simp only [Bool.and_false,Bool.false_and,Bool.true_and]
  exact has_3 B _ _ _ _ _ _ _ _ _ _ _ w h1 rfl h2 rfl h5 h3 h4 hB c1 c2 c3
 by_cases c4:r.fn.params≤(r.fn.locals.length:Int)
 rotate_left
 ·rw [decide_eq_true c1,decide_eq_true c2,decide_eq_true c3,decide_eq_false c4]
  simp only [Bool.and_false,Bool.false_and,Bool.true_and]
  exact has_4 B _ _ _ _ _ _ _ _ _ _ _ w h1 rfl h2 rfl h5 h3 h4 hB c1 c2 c3 c4
 by_cases c5:-1≤r.fn.keep
 rotate_left
 ·rw [decide_eq_true c1,decide_eq_true c2,decide_eq_true c3,decide_eq_true c4,decide_eq_false c5]
  simp only [Bool.and_false,Bool.false_and,Bool.true_and]
  exact has_5 B _ _ _ _ _ _ _ _ _ _ _ w h1 rfl h2 rfl h5 h3 h4 hB c1 c2 c3 c4 c5
 by_cases c6:r.fn.keep≤254
 rotate_left
 ·rw [decide_eq_true c1,decide_eq_true c2,decide_eq_true c3,decide_eq_true c4,decide_eq_true c5,decide_eq_false c6]
  simp only [Bool.and_false,Bool.false_and,Bool.true_and]
  exact has_6 B _ _ _ _ _ _ _ _ _ _ _ w h1 rfl h2 rfl h5 h3 h4 hB c1 c2 c3 c4 c5 c6
 rw [decide_eq_true c1,decide_eq_true c2,decide_eq_true c3,decide_eq_true c4,decide_eq_true c5,decide_eq_true c6]
 simp only [Bool.true_and]
 cases c7:r.fn.locals.all kindB with
 | false =>
  simp only [Bool.false_and]
  exact has_7 B _ _ _ _ _ _ _ _ _ _ _ w h1 rfl h2 rfl h5 h3 h4 hB c1 c2 c3 c4 c5 c6 c7
 | true =>
  simp only [Bool.true_and]
  exact has_8 B _ _ _ _ _ _ _ _ _ _ _ w h1 rfl h2 rfl h5 h3 h4 hB c1 c2 c3 c4 c5 c6 c7

theorem all_okF (B:Nat) (A:Option Addr) (n c:Nat) (rs:List Raw) (w:World) (h:RdP w B A n rs) (hB:B≤w.heap.size) :
  Calls Try.prog 56 #[.slice A n c,.func (.func 72) #[] #[]] w fun e w'=>e=.returned (.bool ((fns rs).all okF))∧Below w.heap.size w w':=by
 have H:=Lib.hid h
 have hsz:=h.sz
 clear h
 go_enter Try.func56,Try.ntmps56
 go_wp2
 go_loopw [9] (fun i wr=>∃ k:Nat,k≤n∧i=.int .i64 k∧Hid (((fns rs).take k).all okF=true)∧Hid (Below w.heap.size w wr)) (fun i _=>n-(intOf i).toNat)
 case atStart=>exact ⟨0,Nat.zero_le _,rfl,rfl,Below.refl _ _⟩
 case round =>
  obtain ⟨k,hk,rfl,HT,HB⟩:=hrel
  by_cases hlt:k<n
  ·obtain ⟨b,off,r,rfl,hb,HX,HF,HW,x0,x1,x2,x3,x4⟩:=(H.out.below (HB.out.mono hB)).fn hlt
   have hz:=HB.out.size
   have HFN:Hid ((fns rs)[k]?=some r.fn):=Lib.hid (by unfold fns;rw [List.getElem?_map,HX.out];rfl)
   have HB2:Hid (Below w.heap.size w (wr.alloc (.cells #[.int .i64 r.fn.params,.slice r.lo r.fn.locals.length r.lc,.bool r.fn.result,.int .i64 r.fn.keep,.slice r.co r.fn.code.length r.cc] 41))):=HB.out.alloc hz _
   have HF2:Hid (RdF (wr.alloc (.cells #[.int .i64 r.fn.params,.slice r.lo r.fn.locals.length r.lc,.bool r.fn.result,.int .i64 r.fn.keep,.slice r.co r.fn.code.length r.cc] 41)) B r):=HF.out.keep fun p hp=>World.cell?_alloc_lt wr _ p (by omega)
   cases hp:okF r.fn with
   | true =>
    have HT1:Hid (((fns rs).take (k+1)).all okF=true):=Lib.hid (by rw [List.take_add_one,HFN.out,List.all_append,HT.out];simp [hp])
    have HP:=Lib.hid hp
    clear hp
    go_wp2_with (go_at_call 72;refine (okF_any B r _ HF2.out HW.out (by simp;omega)).mono ?_;rintro e w2 ⟨rfl,hb2⟩;rw [HP.out];refine Hid.out ?_)
    have HB3:=Lib.hid (HB2.out.trans (hb2.mono (by simp;omega)))
    clear hb2
    refine Lib.hid ?_
    go_wp2
    go_roundw
    case rel=>exact ⟨k+1,by omega,by go_num,HT1,HB3⟩
    case measure=>simp [intOf];omega
   | false =>
    have HA:Hid ((fns rs).all okF=false):=Lib.hid (by
     rw [List.all_eq_false]
     exact ⟨r.fn,List.mem_of_getElem? HFN.out,by simp [hp]⟩)
    have HP:=Lib.hid hp
    clear hp
    go_wp2_with (go_at_call 72;refine (okF_any B r _ HF2.out HW.out (by simp;omega)).mono ?_;rintro e w2 ⟨rfl,hb2⟩;rw [HP.out];refine Hid.out ?_)
    have HB3:=Lib.hid (HB2.out.trans (hb2.mono (by simp;omega)))
    clear hb2
    refine Lib.hid ?_
    go_wp2
    go_ret
    exact ⟨by rw [HA.out];rfl,HB3.out⟩
  ·obtain rfl:n=k:=by omega
   clear hlt hk
   have HA:Hid ((fns rs).all okF=true):=Lib.hid (by
    have h:=HT.out
    rw [List.take_of_length_le (by rw [length_fns,H.out.len];omega)] at h
    exact h)
   go_wp2
   go_ret
   exact ⟨by rw [HA.out];rfl,HB.out⟩

theorem hasBytes_any (B:Nat) (A:Option Addr) (n c:Nat) (rs:List Raw) (w:World) (h:RdP w B A n rs) (hB:B≤w.heap.size) :
  Calls Try.prog 53 #[.agg #[.slice A n c]] w fun e w'=>e=.returned (.bool (okP (fns rs)))∧Below w.heap.size w w':=by
 have hl:=h.len
 have hsz:=h.sz
 have hb:okP (fns rs)=(decide (0<n) && decide (n≤255) && (fns rs).all okF):=by unfold okP;rw [length_fns,hl]
 rw [hb]
 have H:=Lib.hid (h.alloc hB (.cells #[.slice A n c] 24))
 have HB:∀ o:Obj,Hid (Below w.heap.size w (w.alloc o)):=fun o=>(Below.refl _ _).alloc (Nat.le_refl _) o
 clear hb h hl
 by_cases c1:0<n
 ·rw [decide_eq_true c1]
  by_cases c2:n≤255
  ·rw [decide_eq_true c2]
   have K2:Hid (decide (n≤255)=true):=Lib.hid (by simp;omega)
   go_enter Try.func53,Try.ntmps53
   go_wp2_with (first | (go_at_call 71;with_reducible refine (fitsB1 n true _ (by omega) K2.out).mono ?_;rintro e w2 ⟨rfl,rfl⟩) | (go_at_call 56;refine (all_okF B A n c rs _ H.out (by simp;omega)).mono ?_;rintro e w2 ⟨rfl,hb2⟩;refine Hid.out ?_))
   have HB2:=Lib.hid ((HB _).out.trans (hb2.mono (by simp)))
   clear hb2
   refine Lib.hid ?_
   go_wp2
   go_ret
   exact ⟨rfl,HB2.out⟩
  ·rw [decide_eq_false c2]
   have K2:Hid (decide (n≤255)=false):=Lib.hid (by simp;omega)
   go_enter Try.func53,Try.ntmps53
   go_wp2_with (go_at_call 71;with_reducible refine (fitsB1 n false _ (by omega) K2.out).mono ?_;rintro e w2 ⟨rfl,rfl⟩)
   go_ret
   exact ⟨rfl,(HB _).out⟩
 ·rw [decide_eq_false c1]
  obtain rfl:n=0:=by omega
  go_enter Try.func53,Try.ntmps53
  go_wp2
  go_ret
  exact ⟨rfl,(HB _).out⟩
def PutM (w:World) (base:Nat) (v:Value) (m:Nat) (l:List Int) (e:Ending) (w':World):Prop :=
 ∃ A c,e=.returned (.slice A m c)∧w'.ownsRow base 5 1 (.slice A m c) m (u8c l)∧Below base w w'∧Grew w v w' (.slice A m c)
theorem put_m (base:Nat) (A:Option Addr) (m c:Nat) (l:List Int) (v:Int) (n:Nat) (w:World) (h:w.ownsRow base 5 1 (.slice A m c) m (u8c l)) (h0:0≤v) (h1:v≤18446744073709551615) (hn:n≤8)
  (hb:base≤w.heap.size) (hr:m≤4294967296) :
  Calls Try.prog 54 #[.slice A m c,.int .u64 v,.int .i64 n] w (PutM w base (.slice A m c) (m+n) (l ++ le n v)):=by
 have hm:l.length=m:=by have:=h.1;rw [length_u8c] at this;omega
 refine (put_any base A m c l v n w h hm h0 h1 hn hb hr).mono ?_
 rintro e w' ⟨A',c',rfl,ho,hb',hg'⟩
 have hl:(l ++ le n v).length=m+n:=by rw [List.length_append,hm,length_le]
 rw [hl] at ho hg' ⊢
 exact ⟨A',c',rfl,ho,hb',hg'⟩
theorem put_1 (base:Nat) (A:Option Addr) (m c:Nat) (l:List Int) (v:Int) (w:World) (h:w.ownsRow base 5 1 (.slice A m c) m (u8c l)) (h0:0≤v) (h1:v≤255)
  (hb:base≤w.heap.size) (hr:m≤4294967296) :
  Calls Try.prog 54 #[.slice A m c,.int .u64 v,.int .i64 1] w (PutM w base (.slice A m c) (m+1) (l ++ [v])):=by
 have:=put_m base A m c l v 1 w h h0 (by omega) (by omega) hb hr
 rw [le_one h0 h1] at this
 exact this
theorem one_reads2 (w:World) (a b:Int):Reads (w.alloc (.cells #[.int .u8 a,.int .u8 b] 5)) (w.heap.size+1) 1 (some ⟨w.heap.size,0,none⟩) 2 [.int .u8 a,.int .u8 b] :=
 ⟨rfl,fun _=>⟨_,rfl,by simp,fun j u hj=>by
  have ea:(⟨w.heap.size,0,none⟩:Addr).add j=⟨w.heap.size,j,none⟩:=by simp [Addr.add];exact Eq.symm
  rw [ea,(Blk.new w _ _).cell]
  simpa using hj⟩⟩
def PutB (w:World) (base:Nat) (l:List Int) (e:Ending) (w':World):Prop :=
 ∃ A c,e=.returned (.slice A l.length c)∧w'.ownsRow base 5 1 (.slice A l.length c) l.length (u8c l)∧Below base w w'
theorem length_encI_le (i:Ins):(encI i).length≤11:=by
 have h1:=argW_le i.op
 have h2:=immW_le i.op
 unfold encI
 simp only [List.length_cons,List.length_append,length_le]
 omega
theorem length_flat_le (is:List Ins):(is.flatMap encI).length≤is.length*11:=by
 induction is with
 | nil=>simp
 | cons i is ih=>have:=length_encI_le i;simp only [List.flatMap_cons,List.length_append,List.length_cons];omega
theorem length_encF_le {f:Fn} (h:okF f=true):(encF f).length≤721200:=by
 obtain ⟨h1,h2,h3,h4,h5,h6,h7,h8⟩:=okF_iff.1 h
 have:=length_flat_le f.code
 unfold encF
 simp only [List.length_cons,List.length_append,length_le]
 omega
theorem flat_snoc {is:List Ins} {k:Nat} {x:Ins} (h:is[k]?=some x):(is.take (k+1)).flatMap encI=(is.take k).flatMap encI ++ encI x:=by
 rw [List.take_add_one,h,List.flatMap_append]
 simp

theorem putF_any (base B : Nat) (A : Option Addr) (m c : Nat) (l : List Int) (r : Raw) (w : World) (h : w.ownsRow base 5 1 (.slice A m c) m (u8c l)) (hF : RdF w B r) (hok : okF r.fn = true)
    (hBb : B ≤ base) (hb : base ≤ w.heap.size) (hr : m ≤ 4000000000) :
    Calls Try.prog 55 #[.slice A m c, .agg #[.int .i64 r.fn.params, .slice r.lo r.fn.locals.length r.lc, .bool r.fn.result, .int .i64 r.fn.keep, .slice r.co r.fn.code.length r.cc]] w (PutB w base (l ++ encF r.fn)) := by
  obtain ⟨h1, h2, h3, h4, h5, h6, h7, h8⟩ := okF_iff.1 hok
  obtain ⟨⟨p, ls, fl, kp, is⟩, lo, lc, co, cc⟩ := r
  obtain ⟨nl, HNL⟩ : ∃ n, Hid (ls.length = n) := ⟨_, rfl⟩
  obtain ⟨nc, HNC⟩ : ∃ n, Hid (is.length = n) := ⟨_, rfl⟩
  have hL := hF.locals
  have hC := hF.code
  simp only at *
  rw [HNL.out] at h1 h4 hL ⊢
  rw [HNC.out] at h2 hC ⊢
  have H7 := Lib.hid h7
  have H8 := Lib.hid h8
  have HO := Lib.hid (own_alloc' h (.cells #[.int .i64 p, .slice lo nl lc, .bool fl, .int .i64 kp, .slice co nc cc] 41))
  have HL := Lib.hid hL
  have HC := Lib.hid hC
  have HBX := Lib.hid (Blk.new w 41 #[.int .i64 p, .slice lo nl lc, .bool fl, .int .i64 kp, .slice co nc cc])
  have HB0 : Hid (Below base w (w.alloc (.cells #[.int .i64 p, .slice lo nl lc, .bool fl, .int .i64 kp, .slice co nc cc] 41))) := (Below.refl _ _).alloc hb _
  have hz0 : base ≤ (w.alloc (.cells #[.int .i64 p, .slice lo nl lc, .bool fl, .int .i64 kp, .slice co nc cc] 41)).heap.size := by simp; omega
  clear h hF hok h7 h8 hL hC
  have hz1 : base ≤ w.heap.size := hb
  obtain ⟨FC, HFC⟩ : ∃ cs : Array Value, Hid (cs = #[.int .i64 p, .slice lo nl lc, .bool fl, .int .i64 kp, .slice co nc cc]) := ⟨_, rfl⟩
  go_enter Try.func55, Try.ntmps55
  go_wp2_with (go_at_call 54; refine (put_1 base A m c l p _ HO.out h3 (by omega) hz0 (by omega)).mono ?_; rintro e w1 ⟨A1, c1, rfl, ho1, hb1, hg1⟩; refine Hid.out ?_)
  have hx1 : Blk w1 w.heap.size 41 #[.int .i64 p, .slice lo nl lc, .bool fl, .int .i64 kp, .slice co nc cc] := hg1.blk HBX.out HO.out (by decide)
  have HX1 := Lib.hid hx1
  have HO1 := Lib.hid ho1
  have HB1 := Lib.hid (HB0.out.trans hb1)
  have hs1 : base ≤ w1.heap.size := Nat.le_trans hz0 hg1.1.size
  have x1 : w1.cell? ⟨w.heap.size, 1, none⟩ = some (.slice lo nl lc) := hx1.cell 1
  clear ho1 hb1 hg1 hx1
  refine Lib.hid ?_
  go_wp2_with (go_at_call 54; refine (put_1 base A1 (m + 1) c1 (l ++ [p]) nl _ HO1.out (by omega) (by omega) hs1 (by omega)).mono ?_; rintro e w2 ⟨A2, c2, rfl, ho2, hb2, hg2⟩; refine Hid.out ?_)
  clear x1
  have hx2 : Blk w2 w.heap.size 41 #[.int .i64 p, .slice lo nl lc, .bool fl, .int .i64 kp, .slice co nc cc] := hg2.blk HX1.out HO1.out (by decide)
  have HX2 := Lib.hid hx2
  have HO2 := Lib.hid ho2
  have HB2 := Lib.hid (HB1.out.trans hb2)
  have x1 : w2.cell? ⟨w.heap.size, 1, none⟩ = some (.slice lo nl lc) := hx2.cell 1
  clear ho2 hb2 hg2 hx2
  refine Lib.hid ?_
  go_wp2
  clear x1
  go_loopw [0, 23] (fun s i wr => ∃ (k : Nat) (A : Option Addr) (c : Nat), k ≤ nl ∧ i = .int .i64 k ∧ s = .slice A (m + 1 + 1 + k) c ∧ Hid (wr.ownsRow base 5 1 (.slice A (m + 1 + 1 + k) c) (m + 1 + 1 + k) (u8c (l ++ [p] ++ [(nl : Int)] ++ ls.take k))) ∧
      Hid (Blk wr w.heap.size 41 #[.int .i64 p, .slice lo nl lc, .bool fl, .int .i64 kp, .slice co nc cc]) ∧ Hid (Below base w wr)) (fun _ i _ => nl - (intOf i).toNat)
  case atStart => exact ⟨0, A2, c2, Nat.zero_le _, rfl, rfl, (by show w2.ownsRow _ _ _ _ _ _; simpa using HO2.out), HX2, HB2⟩
  case round =>
    clear HX2 HX1 HO1 HO2 HB1 HB2
    obtain ⟨k, A3, c3, hk, rfl, rfl, HO3, HX3, HB3⟩ := hrel
    have hs3 : base ≤ wr.heap.size := Nat.le_trans hz1 HB3.out.size
    by_cases hlt : k < nl
    · obtain ⟨b, off, x, rfl, hbB, HX, cx⟩ := (HL.out.below (HB3.out.mono hBb)).byte hlt
      have hx := kindB_iff.1 (H7.out x (List.mem_of_getElem? HX.out))
      have hx0 : 0 ≤ x := by omega
      have hx1 : x ≤ 255 := by omega
      clear hx
      go_wp2_with (go_at_call 54; refine (put_1 base A3 (m + 1 + 1 + k) c3 _ x _ HO3.out hx0 hx1 hs3 (by omega)).mono ?_; rintro e w4 ⟨A4, c4, rfl, ho4, hb4, hg4⟩; refine Hid.out ?_)
      have HX4 := Lib.hid (hg4.blk HX3.out HO3.out (by decide))
      have HO4 : Hid (w4.ownsRow base 5 1 (.slice A4 (m + 1 + 1 + (k + 1)) c4) (m + 1 + 1 + (k + 1)) (u8c (l ++ [p] ++ [(nl : Int)] ++ ls.take (k + 1)))) := by
        rw [List.take_add_one, HX.out, ← List.append_assoc]
        exact ho4
      have HB4 := Lib.hid (HB3.out.trans hb4)
      clear ho4 hb4 hg4
      refine Lib.hid ?_
      go_wp2
      go_roundw
      case rel => exact ⟨k + 1, A4, c4, by omega, by go_num, rfl, HO4, HX4, HB4⟩
      case measure => simp [intOf]; omega
    · obtain rfl : nl = k := by omega
      clear hlt hk
      have x2 : wr.cell? ⟨w.heap.size, 2, none⟩ = some (.bool fl) := HX3.out.cell 2
      have x3 : wr.cell? ⟨w.heap.size, 3, none⟩ = some (.int .i64 kp) := HX3.out.cell 3
      go_wp2
      obtain ⟨fb, HFB⟩ : ∃ v : Int, Hid (v = if fl then 1 else 0) := ⟨_, rfl⟩
      obtain ⟨kb, HKB⟩ : ∃ v : Int, Hid (v = keepByte kp) := ⟨_, rfl⟩
      have hkb : IntKind.u8.wrap kp = kb := by rw [IntKind.wrap_u8, HKB.out]; unfold keepByte; split <;> omega
      have hs4 : base ≤ (wr.alloc (.cells #[.int .u8 fb, .int .u8 kb] 5)).drew.heap.size := by simp; omega
      have hR4 : Hid (Reads (wr.alloc (.cells #[.int .u8 fb, .int .u8 kb] 5)).drew (wr.heap.size + 1) 1 (some ⟨wr.heap.size, 0, none⟩) 2 [.int .u8 fb, .int .u8 kb]) := one_reads2 wr fb kb
      have HO4 : Hid ((wr.alloc (.cells #[.int .u8 fb, .int .u8 kb] 5)).drew.ownsRow base 5 1 (.slice A3 (m + 1 + 1 + nl) c3) (m + 1 + 1 + nl) (u8c (l ++ [p] ++ [(nl : Int)] ++ ls.take nl))) := own_alloc' HO3.out (.cells #[.int .u8 fb, .int .u8 kb] 5)
      go_region_held3 (fun W => W.cell? ⟨w.heap.size, 2, none⟩ = some (.bool fl) ∧ W.cell? ⟨w.heap.size, 3, none⟩ = some (.int .i64 kp))
        (first | go_keep | exact ⟨hx5.cell 2, hx5.cell 3⟩)
        (first
          | (go_at_call 73; refine (flagByte_any fl _).mono ?_; rintro e w' ⟨rfl, rfl⟩; rw [← HFB.out])
          | (refine step_byte rfl _ _ rfl base (.slice A3 (m + 1 + 1 + nl) c3) (m + 1 + 1 + nl) (u8c (l ++ [p] ++ [(nl : Int)] ++ ls.take nl)) rfl HO4.out (wr.heap.size + 1) (some ⟨wr.heap.size, 0, none⟩) 2 2 [.int .u8 fb, .int .u8 kb] rfl hR4.out (u8c_one [fb, kb]) (by omega) hs4 ?_
             intro v' w5 hown hgr hor
             have hx5 : Blk w5 w.heap.size 41 #[.int .i64 p, .slice lo nl lc, .bool fl, .int .i64 kp, .slice co nc cc] := blk_own (show Blk (wr.alloc (.cells #[.int .u8 fb, .int .u8 kb] 5)).drew _ _ _ from HX3.out.alloc (.cells #[.int .u8 fb, .int .u8 kb] 5)) HO4.out hgr (by decide)))
      obtain ⟨A5, c5, rfl⟩ := own_slice hown
      obtain ⟨L5, HL5⟩ : ∃ L, Hid (L = l ++ [p] ++ [(nl : Int)] ++ ls ++ [fb, kb]) := ⟨_, rfl⟩
      have HO5 : Hid (w5.ownsRow base 5 1 (.slice A5 (m + 1 + 1 + nl + 2) c5) (m + 1 + 1 + nl + 2) (u8c L5)) := by
        have htk : ls.take nl = ls := List.take_of_length_le (by rw [HNL.out]; omega)
        rw [htk] at hown
        rw [HL5.out, u8c_append]
        exact hown
      have HX5 := Lib.hid hx5
      have HB5 : Hid (Below base w w5) := ((HB3.out.alloc hs3 _).drew).grown hgr hs4 fun i hi => (own_block_le HO4.out hi).1
      have x4 : w5.cell? ⟨w.heap.size, 4, none⟩ = some (.slice co nc cc) := hx5.cell 4
      have hs5 : base ≤ w5.heap.size := Nat.le_trans hz1 HB5.out.size
      clear hown hgr hor hx5 x2 x3 hR4 hs4 hkb
      refine Lib.hid ?_
      go_wp2_with (go_at_call 54; refine (put_m base A5 (m + 1 + 1 + nl + 2) c5 L5 nc 2 _ HO5.out (by omega) (by omega) (by omega) hs5 (by omega)).mono ?_; rintro e w6 ⟨A6, c6, rfl, ho6, hb6, hg6⟩; refine Hid.out ?_)
      have hx6 := hg6.blk HX5.out HO5.out (by decide)
      have HX6 := Lib.hid hx6
      have HB6 := Lib.hid (HB5.out.trans hb6)
      have HO6 : Hid (w6.ownsRow base 5 1 (.slice A6 (m + 1 + 1 + nl + 2 + 2) c6) (m + 1 + 1 + nl + 2 + 2) (u8c (L5 ++ le 2 nc))) := Lib.hid ho6
      clear x4
      have x4 : w6.cell? ⟨w.heap.size, 4, none⟩ = some (.slice co nc cc) := hx6.cell 4
      clear ho6 hb6 hg6 hx6
      obtain ⟨m6, hm6, hm6b⟩ : ∃ m6, m6 = m + 1 + 1 + nl + 2 + 2 ∧ m6 ≤ m + 300 := ⟨_, rfl, by omega⟩
      rw [← hm6] at HO6
      rw [← hm6]
      clear hm6
      refine Lib.hid ?_
      go_wp2
      clear x4
      go_loopw [0, 50] (fun s i wr => ∃ (k : Nat) (A : Option Addr) (mm c : Nat), k ≤ nc ∧ i = .int .i64 k ∧ s = .slice A mm c ∧ mm ≤ m6 + k * 11 ∧ Hid (wr.ownsRow base 5 1 (.slice A mm c) mm (u8c (L5 ++ le 2 nc ++ (is.take k).flatMap encI))) ∧
        Hid (Below base w wr)) (fun _ i _ => nc - (intOf i).toNat)
      case atStart => exact ⟨0, A6, m6, c6, Nat.zero_le _, rfl, rfl, by omega, (by show w6.ownsRow _ _ _ _ _ _; simpa using HO6.out), HB6⟩
      case round =>
        clear HX6 HX5 HO5 HO6 HB5 HB6 HO4 HO3 HX3 HB3
        obtain ⟨k, A7, m7, c7, hk, rfl, rfl, hm7, HO7, HB7⟩ := hrel
        have hs7 : base ≤ wr.heap.size := Nat.le_trans hz1 HB7.out.size
        by_cases hlt : k < nc
        · obtain ⟨b, off, x, rfl, hbB, HX, x0, x1, x2⟩ := (HC.out.below (HB7.out.mono hBb)).ins hlt
          have hokx := H8.out x (List.mem_of_getElem? HX.out)
          have hle := length_encI_le x
          have hfl := flat_snoc HX.out
          obtain ⟨hx1, hx2, hx3⟩ := okI_iff.1 hokx
          obtain ⟨op, arg, imm⟩ := x
          simp only at x0 x1 x2 hx1 hx2 hx3
          have hx1 := opB_iff.1 hx1
          have hx2 := fitB_iff.1 hx2
          have hx3 := fitB_iff.1 hx3
          have ha : (256 : Int) ^ argW op ≤ 65536 := by
            have := argW_le op
            obtain h | h | h : argW op = 0 ∨ argW op = 1 ∨ argW op = 2 := by omega
            all_goals rw [h]; decide
          have hi : (256 : Int) ^ immW op ≤ 18446744073709551616 := by
            obtain h | h : immW op = 0 ∨ immW op = 8 := by unfold immW; split <;> simp
            all_goals rw [h]; decide
          have o0 : 0 ≤ op := by omega
          have o1 : op ≤ 255 := by omega
          have a0 : 0 ≤ arg := hx2.1
          have a1 : arg ≤ 65535 := by omega
          have i0 : 0 ≤ imm := hx3.1
          have i1 : imm ≤ 18446744073709551615 := by omega
          obtain ⟨aw, HAW⟩ : ∃ n, Hid (n = argW op) := ⟨_, rfl⟩
          obtain ⟨iw, HIW⟩ : ∃ n, Hid (n = immW op) := ⟨_, rfl⟩
          have haw : aw ≤ 2 := by rw [HAW.out]; exact argW_le op
          have hiw : iw ≤ 8 := by rw [HIW.out]; exact immW_le op
          have HFL : Hid ((is.take (k + 1)).flatMap encI = (is.take k).flatMap encI ++ ([op] ++ le aw arg ++ le iw imm)) := Lib.hid (by rw [hfl, HAW.out, HIW.out]; simp [encI])
          have HLE : Hid (1 + aw + iw ≤ 11) := Lib.hid (by
            rw [HAW.out, HIW.out]
            unfold encI at hle
            simp only [List.length_cons, List.length_append, length_le] at hle
            omega)
          have HXX := Lib.hid HX
          clear hx1 hx2 hx3 ha hi hokx hle hfl HX
          obtain ⟨L7, HL7⟩ : ∃ L, Hid (L = L5 ++ le 2 nc ++ (is.take k).flatMap encI) := ⟨_, rfl⟩
          rw [← HL7.out] at HO7
          have HO8 := Lib.hid (own_alloc' HO7.out (.cells #[.int .u8 op, .int .i64 arg, .int .u64 imm] 52))
          have HX8 := Lib.hid (Blk.new wr 52 #[.int .u8 op, .int .i64 arg, .int .u64 imm])
          have HB8 := Lib.hid (HB7.out.alloc hs7 (.cells #[.int .u8 op, .int .i64 arg, .int .u64 imm] 52))
          have hs8 : base ≤ (wr.alloc (.cells #[.int .u8 op, .int .i64 arg, .int .u64 imm] 52)).heap.size := by simp; omega
          go_wp2_with (go_at_call 54; refine (put_1 base A7 m7 c7 L7 op _ HO8.out o0 o1 hs8 (by omega)).mono ?_; rintro e w9 ⟨A9, c9, rfl, ho9, hb9, hg9⟩; refine Hid.out ?_)
          have hx9 : Blk w9 wr.heap.size 52 #[.int .u8 op, .int .i64 arg, .int .u64 imm] := hg9.blk HX8.out HO8.out (by decide)
          have HX9 := Lib.hid hx9
          have HO9 := Lib.hid ho9
          have HB9 := Lib.hid (HB8.out.trans hb9)
          have hs9 : base ≤ w9.heap.size := Nat.le_trans hs8 hg9.1.size
          have y0 : w9.cell? ⟨wr.heap.size, 0, none⟩ = some (.int .u8 op) := hx9.cell 0
          have y1 : w9.cell? ⟨wr.heap.size, 1, none⟩ = some (.int .i64 arg) := hx9.cell 1
          clear ho9 hb9 hg9 hx9 x0 x1 x2
          refine Lib.hid ?_
          go_wp2
          refine wp_region_still_tail 7 (by kernel_rfl) (by kernel_rfl) ?_
          simp only [List.take_succ_cons, List.take_zero, List.drop_succ_cons, List.drop_zero]
          repeat (first | still_step | still_call (argSize_q _ _))
          refine wpStill_nil ?_
          rw [← HAW.out]
          change wpList _ _ _ _ _ w9.drew
          go_wp2_with (go_at_call 54; refine (put_m base A9 (m7 + 1) c9 (L7 ++ [op]) arg aw w9.drew HO9.out a0 (by omega) (by omega) hs9 (by omega)).mono ?_; rintro e w10 ⟨A10, c10, rfl, ho10, hb10, hg10⟩; refine Hid.out ?_)
          have hx10 : Blk w10 wr.heap.size 52 #[.int .u8 op, .int .i64 arg, .int .u64 imm] := hg10.blk (show Blk w9.drew _ _ _ from HX9.out) (show w9.drew.ownsRow _ _ _ _ _ _ from HO9.out) (by decide)
          have HO10 := Lib.hid ho10
          have HB10 := Lib.hid (HB9.out.drew.trans hb10)
          have hs10 : base ≤ w10.heap.size := Nat.le_trans hs9 hg10.1.size
          clear y0 y1
          have y0 : w10.cell? ⟨wr.heap.size, 0, none⟩ = some (.int .u8 op) := hx10.cell 0
          have y2 : w10.cell? ⟨wr.heap.size, 2, none⟩ = some (.int .u64 imm) := hx10.cell 2
          clear ho10 hb10 hg10 hx10
          refine Lib.hid ?_
          go_wp2
          refine wp_region_still_tail 6 (by kernel_rfl) (by kernel_rfl) ?_
          simp only [List.take_succ_cons, List.take_zero, List.drop_succ_cons, List.drop_zero]
          repeat (first | still_step | still_call (immSize_q _ _))
          refine wpStill_nil ?_
          rw [← HIW.out]
          change wpList _ _ _ _ _ w10.drew
          go_wp2_with (go_at_call 54; refine (put_m base A10 (m7 + 1 + aw) c10 (L7 ++ [op] ++ le aw arg) imm iw w10.drew HO10.out i0 i1 hiw hs10 (by omega)).mono ?_; rintro e w11 ⟨A11, c11, rfl, ho11, hb11, hg11⟩; refine Hid.out ?_)
          have HO11 : Hid (w11.ownsRow base 5 1 (.slice A11 (m7 + 1 + aw + iw) c11) (m7 + 1 + aw + iw) (u8c (L5 ++ le 2 nc ++ (is.take (k + 1)).flatMap encI))) := by
            rw [HFL.out, ← List.append_assoc, ← HL7.out]
            have : L7 ++ ([op] ++ le aw arg ++ le iw imm) = L7 ++ [op] ++ le aw arg ++ le iw imm := by simp
            rw [this]
            exact ho11
          have HB11 := Lib.hid (HB10.out.drew.trans hb11)
          have hm11 : m7 + 1 + aw + iw ≤ m6 + (k + 1) * 11 := by have := HLE.out; omega
          clear ho11 hb11 hg11 y0 y2
          refine Lib.hid ?_
          go_wp2
          go_roundw
          case rel => exact ⟨k + 1, A11, _, c11, by omega, by go_num, rfl, hm11, HO11, HB11⟩
          case measure => simp [intOf]; omega
        · obtain rfl : nc = k := by omega
          clear hlt hk
          go_wp2
          go_ret
          have hfin : l ++ encF ⟨p, ls, fl, kp, is⟩ = L5 ++ le 2 nc ++ (is.take nc).flatMap encI := by
            have htk : is.take nc = is := List.take_of_length_le (by rw [HNC.out]; omega)
            rw [htk, HL5.out, HFB.out, HKB.out]
            unfold encF
            simp only [HNL.out, HNC.out]
            simp
          have hlen : (l ++ encF ⟨p, ls, fl, kp, is⟩).length = m7 := by
            have := HO7.out.1
            rw [length_u8c] at this
            rw [hfin]; omega
          refine ⟨A7, c7, by rw [hlen]; rfl, by rw [hlen, hfin]; exact HO7.out, HB7.out⟩
def encA (fs:List Fn):List Int × Int:=if okP fs then (enc fs,0) else ([],30)
def EncR (w:World) (q:List Int × Int) (e:Ending) (w':World):Prop :=
 ∃ (A:Option Addr) (k c:Nat),e=.returned (.tuple #[.slice A k c,.int .i64 q.2])∧q.1.length=k∧w'.ownsRow w.heap.size 5 1 (.slice A k c) k (u8c q.1)∧Below w.heap.size w w'
theorem own_lit2 (w:World) (base:Nat) (a b:Int) (hb:base≤w.heap.size):(w.alloc (.cells #[.int .u8 a,.int .u8 b] 5)).ownsRow base 5 1 (.slice (some ⟨w.heap.size,0,none⟩) 2 2) 2 (u8c [a,b]) :=
 ⟨rfl,.inr ⟨w.heap.size,2,_,rfl,hb,heap_alloc_new w _,Nat.le_refl _,by unfold maxLen;omega,rfl,rfl⟩⟩
theorem flatF_snoc {fs:List Fn} {k:Nat} {x:Fn} (h:fs[k]?=some x):(fs.take (k+1)).flatMap encF=(fs.take k).flatMap encF ++ encF x:=by
 rw [List.take_add_one,h,List.flatMap_append]
 simp

theorem encode_any (B:Nat) (A:Option Addr) (n c:Nat) (rs:List Raw) (w:World) (h:RdP w B A n rs) (hB:B≤w.heap.size) :
  Calls Try.prog 28 #[.agg #[.slice A n c]] w (EncR w (encA (fns rs))):=by
 have hlen:=h.len
 have hsz:=h.sz
 have H:=Lib.hid h
 have H0:=Lib.hid (h.alloc hB (.cells #[.slice A n c] 24))
 have HBX:=Lib.hid (Blk.new w 24 #[.slice A n c])
 have HB0:Hid (Below w.heap.size w (w.alloc (.cells #[.slice A n c] 24))):=(Below.refl _ _).alloc (Nat.le_refl _) _
 clear h
 cases hok:okP (fns rs) with
 | false =>
  have hq:encA (fns rs)=([],30):=by unfold encA;rw [hok];rfl
  have HOK:=Lib.hid hok
  rw [hq]
  clear hok hq hlen
  go_enter Try.func28,Try.ntmps28
  go_wp2_with (go_at_call 53;refine (hasBytes_any B A n c rs _ H0.out (by simp;omega)).mono ?_;rintro e w2 ⟨rfl,hb2⟩;rw [HOK.out];refine Hid.out ?_)
  have HB2:=Lib.hid (HB0.out.trans (hb2.mono (by simp)))
  clear hb2
  refine Lib.hid ?_
  go_wp2
  go_ret2
  exact ⟨none,0,0,rfl,rfl,own_none _ _ _ _,HB2.out⟩
 | true =>
  have hq:encA (fns rs)=(enc (fns rs),0):=by unfold encA;rw [hok];rfl
  have HOK:=Lib.hid hok
  obtain ⟨hk1,hk2,hk3⟩:=okP_iff.1 hok
  rw [length_fns,hlen] at hk1 hk2
  have HEN:Hid (enc (fns rs)=87 :: 76 :: (n:Int) :: (fns rs).flatMap encF):=Lib.hid (by unfold enc;rw [length_fns,hlen])
  have HLN:=Lib.hid hlen
  have HF:=Lib.hid hk3
  rw [hq]
  clear hok hq hlen hk3
  go_enter Try.func28,Try.ntmps28
  go_wp2_with (go_at_call 53;refine (hasBytes_any B A n c rs _ H0.out (by simp;omega)).mono ?_;rintro e w2 ⟨rfl,hb2⟩;rw [HOK.out];refine Hid.out ?_)
  have hs2:w.heap.size+1≤w2.heap.size:=by have:=hb2.size;simpa using this
  have hx2:Blk w2 w.heap.size 24 #[.slice A n c]:=HBX.out.below hb2 HBX.out.lt
  have HX2:=Lib.hid (hx2.alloc (.cells #[.int .u8 87,.int .u8 76] 5))
  have HO2:=Lib.hid (own_lit2 w2 w.heap.size 87 76 (by omega))
  have HB2:Hid (Below w.heap.size w (w2.alloc (.cells #[.int .u8 87,.int .u8 76] 5))):=(HB0.out.trans (hb2.mono (by simp))).alloc (by omega) _
  have x0:w2.cell? ⟨w.heap.size,0,none⟩=some (.slice A n c):=hx2.cell 0
  have x0a:∀ o:Obj,(w2.alloc o).cell? ⟨w.heap.size,0,none⟩=some (.slice A n c):=fun o=>(World.cell?_alloc_lt w2 o _ (by show w.heap.size<_;omega)).trans x0
  have hs2':w.heap.size≤(w2.alloc (.cells #[.int .u8 87,.int .u8 76] 5)).heap.size:=by simp;omega
  clear hb2 hx2
  refine Lib.hid ?_
  go_wp2_with (go_at_call 54;refine (put_1 w.heap.size _ 2 2 [87,76] n _ HO2.out (by omega) (by omega) hs2' (by omega)).mono ?_;rintro e w3 ⟨A3,c3,rfl,ho3,hb3,hg3⟩;refine Hid.out ?_)
  have hx3:Blk w3 w.heap.size 24 #[.slice A n c]:=hg3.blk HX2.out HO2.out (by decide)
  have HO3:=Lib.hid ho3
  have HB3:=Lib.hid (HB2.out.trans hb3)
  clear x0 x0a
  have x0:w3.cell? ⟨w.heap.size,0,none⟩=some (.slice A n c):=hx3.cell 0
  clear ho3 hb3 hg3 hx3
  refine Lib.hid ?_
  go_wp2
  clear x0
  go_loopw [4,20] (fun s i wr=>∃ (k:Nat) (A:Option Addr) (mm c:Nat),k≤n∧i=.int .i64 k∧s=.slice A mm c∧mm≤3+k*721200∧Hid (wr.ownsRow w.heap.size 5 1 (.slice A mm c) mm (u8c (87 :: 76 :: (n:Int) :: ((fns rs).take k).flatMap encF)))∧Hid (Below w.heap.size w wr)) (fun _ i _=>n-(intOf i).toNat)
  case atStart=>exact ⟨0,A3,3,c3,Nat.zero_le _,rfl,rfl,by omega,HO3,HB3⟩
  case round =>
   clear HO3 HO2 HB3 HB2 HX2
   obtain ⟨k,A4,m4,c4,hk,rfl,rfl,hm4,HO4,HB4⟩:=hrel
   have hs4:w.heap.size≤wr.heap.size:=HB4.out.size
   by_cases hlt:k<n
   ·obtain ⟨b,off,r,rfl,hb,HX,HRF,HW,x0,x1,x2,x3,x4⟩:=(H.out.below (HB4.out.mono hB)).fn hlt
    have HFK:Hid ((fns rs)[k]?=some r.fn):=Lib.hid (by unfold fns;rw [List.getElem?_map,HX.out];rfl)
    have HRK:Hid (okF r.fn=true):=Lib.hid (HF.out _ (List.mem_of_getElem? HFK.out))
    have hle:=length_encF_le HRK.out
    obtain ⟨L4,HL4⟩:∃ L,Hid (L=87 :: 76 :: (n:Int) :: ((fns rs).take k).flatMap encF):=⟨_,rfl⟩
    rw [← HL4.out] at HO4
    have hml:L4.length=m4:=by have:=HO4.out.1;rw [length_u8c] at this;omega
    obtain ⟨m5,HM5⟩:∃ m,Hid ((L4 ++ encF r.fn).length=m):=⟨_,rfl⟩
    have hm5:m5≤3+(k+1)*721200:=by rw [← HM5.out,List.length_append,hml];omega
    have HO5:=Lib.hid (own_alloc' HO4.out (.cells #[.int .i64 r.fn.params,.slice r.lo r.fn.locals.length r.lc,.bool r.fn.result,.int .i64 r.fn.keep,.slice r.co r.fn.code.length r.cc] 41))
    have HRF5:Hid (RdF (wr.alloc (.cells #[.int .i64 r.fn.params,.slice r.lo r.fn.locals.length r.lc,.bool r.fn.result,.int .i64 r.fn.keep,.slice r.co r.fn.code.length r.cc] 41)) B r):=HRF.out.keep fun p hp=>World.cell?_alloc_lt wr _ p (by omega)
    have HB5:=Lib.hid (HB4.out.alloc hs4 (.cells #[.int .i64 r.fn.params,.slice r.lo r.fn.locals.length r.lc,.bool r.fn.result,.int .i64 r.fn.keep,.slice r.co r.fn.code.length r.cc] 41))
    have hs5:w.heap.size≤(wr.alloc (.cells #[.int .i64 r.fn.params,.slice r.lo r.fn.locals.length r.lc,.bool r.fn.result,.int .i64 r.fn.keep,.slice r.co r.fn.code.length r.cc] 41)).heap.size:=by simp;omega
    clear hle hml
    go_wp2_with (go_at_call 55;refine (putF_any w.heap.size B A4 m4 c4 L4 r _ HO5.out HRF5.out HRK.out hB hs5 (by omega)).mono ?_;rintro e w6 ⟨A6,c6,rfl,ho6,hb6⟩;rw [HM5.out] at ho6;rw [HM5.out];refine Hid.out ?_)
    have HO6:Hid (w6.ownsRow w.heap.size 5 1 (.slice A6 m5 c6) m5 (u8c (87 :: 76 :: (n:Int) :: ((fns rs).take (k+1)).flatMap encF))):=by
     rw [flatF_snoc HFK.out]
     rw [HL4.out] at ho6
     exact ho6
    have HB6:=Lib.hid (HB5.out.trans hb6)
    clear ho6 hb6
    refine Lib.hid ?_
    go_wp2
    go_roundw
    case rel=>exact ⟨k+1,A6,m5,c6,by omega,by go_num,rfl,hm5,HO6,HB6⟩
    case measure=>simp [intOf];omega
   ·obtain rfl:n=k:=by omega
    clear hlt hk
    have HFIN:Hid (((fns rs).take n)=fns rs):=Lib.hid (List.take_of_length_le (by rw [length_fns,HLN.out];omega))
    have hml:(87 :: 76 :: (n:Int) :: ((fns rs).take n).flatMap encF).length=m4:=by have:=HO4.out.1;rw [length_u8c] at this;omega
    have HML:=Lib.hid hml
    clear hml
    go_wp2
    go_ret2
    refine ⟨A4,m4,c4,rfl,?_,?_,HB4.out⟩
    ·rw [HEN.out,← HFIN.out];exact HML.out
    ·have:=HO4.out
     rw [HFIN.out] at this
     rw [HEN.out]
     exact this
theorem deepO_len (x:Option Stk):deepO x=decide (16<(x.getD []).length):=by cases x <;> simp [deepO]
theorem row_at {w:World} {base n c k:Nat} {A:Option Addr} {e:TypeId} {xs:List Value} {v:Value} (h:w.ownsRow base e 1 (.slice A n c) n xs) (hk:k<n) (hv:xs[k]?=some v):∃ b off,A=some ⟨b,off,none⟩∧b<w.heap.size∧w.cell? ⟨b,off+k,none⟩=some v:=by
 obtain ⟨b,off,hA,hb,hc⟩:=(Reads.of_own h).lit (by omega) (by omega)
 exact ⟨b,off,hA,hb,hc k v hv⟩
theorem deep_any (w0:World) (B tb n rc sc:Nat) (rs:List Raw) (ls:List (List (Option Stk))) (rvs svs:List Value) (RA SA:Option Addr) (w:World) (h:TI w0 B tb rs n ls rvs svs RA rc SA sc w) (hn:n≤255) :
  Calls Try.prog 32 #[.pointer (some ⟨tb,0,none⟩)] w fun e w'=>e=.returned (.bool (ls.any fun l=>l.any deepO))∧w=w':=by
 have H:=Lib.hid h
 have t1:w.cell? ⟨tb,1,none⟩=some (.slice SA n sc):=h.tj.blk.cell 1
 clear h
 obtain ⟨b,HBV⟩:∃ b,Hid (b=ls.any fun l=>l.any deepO):=⟨_,Lib.hid rfl⟩
 rw [← HBV.out]
 go_enter Try.func32,Try.ntmps32
 go_wp2
 clear t1
 go_loop [12] (fun i=>∃ k:Nat,k≤n∧i=.int .i64 k∧Hid (((ls.take k).any fun l=>l.any deepO)=false)) (fun i=>n-(intOf i).toNat)
 case atStart=>exact ⟨0,Nat.zero_le _,rfl,Lib.hid rfl⟩
 case round =>
  obtain ⟨k,hk,rfl,HT⟩:=hrel
  by_cases hlt:k<n
  ·obtain ⟨l,hl⟩:∃ l,ls[k]?=some l:=⟨ls[k]'(by rw [H.out.len];exact hlt),List.getElem?_eq_getElem _⟩
   obtain ⟨rv,sv,h1,h2,h3⟩:=H.out.each k l hl
   obtain ⟨ra,sa,m,vs,hrv,hsv,hlm,hm,hb1,hb2,hvl,_,_,hat⟩:=h3.at_
   obtain ⟨bb,off,hA,hbw,x0⟩:=row_at H.out.tj.ss hlt h2
   subst hrv hsv hA
   have HL:=Lib.hid hl
   have HLM:=Lib.hid hlm
   have HAT:=Lib.hid hat
   have HB2:=Lib.hid hb2
   have HVL:=Lib.hid hvl
   clear hl h1 h2 h3 hlm hat hb1 hb2 hvl
   go_wp2
   go_loop [18] (fun i=>∃ j:Nat,j≤m∧i=.int .i64 j∧Hid ((l.take j).any deepO=false)) (fun i=>m-(intOf i).toNat)
   case atStart=>exact ⟨0,Nat.zero_le _,rfl,Lib.hid rfl⟩
   case round =>
    obtain ⟨j,hj,rfl,HJ⟩:=hrel
    by_cases hlj:j<m
    ·obtain ⟨x,hx⟩:∃ x,l[j]?=some x:=⟨l[j]'(by rw [HLM.out];exact hlj),List.getElem?_eq_getElem _⟩
     obtain ⟨a,q,c,hv,hq,_⟩:=HAT.out j x hx
     have y0:w.cell? ⟨sa,j,none⟩=some (.slice a q c):=by
      rw [HB2.out.cell];simpa using hv
     have hd:deepO x=decide (16<q):=by rw [hq];exact deepO_len x
     have HX:=Lib.hid hx
     have HD:=Lib.hid hd
     clear hx hv hq hd
     by_cases c1:16<q
     ·have HA:Hid (b=true):=Lib.hid (by
       rw [HBV.out]
       exact List.any_eq_true.2 ⟨l,List.mem_of_getElem? HL.out,List.any_eq_true.2 ⟨x,List.mem_of_getElem? HX.out,by rw [HD.out];simpa using c1⟩⟩)
      have g1:decide (16<q)=true:=by simpa using c1
      have g2:decide ((q:Int) > 16)=true:=by simp;omega
      go_wp2
      go_ret
      exact ⟨by rw [HA.out];rfl,rfl⟩
     ·have HJ1:Hid ((l.take (j+1)).any deepO=false):=Lib.hid (by
       rw [List.take_add_one,HX.out,List.any_append,HJ.out]
       simp [HD.out];omega)
      have g1:decide (16<q)=false:=by simpa using c1
      have g2:decide ((q:Int) > 16)=false:=by simp;omega
      go_wp2
      go_round
      case rel=>exact ⟨j+1,by omega,by go_num,HJ1⟩
      case measure=>simp [intOf];omega
    ·obtain rfl:j=m:=by omega
     have HT1:Hid (((ls.take (k+1)).any fun l=>l.any deepO)=false):=Lib.hid (by
      have h:=HJ.out
      rw [List.take_of_length_le (by rw [HLM.out];omega)] at h
      rw [List.take_add_one,HL.out,List.any_append,HT.out]
      simpa using h)
     clear hlj hj
     go_wp2
     go_round
     case rel=>exact ⟨k+1,by omega,by go_num,HT1⟩
     case measure=>simp [intOf];omega
  ·obtain rfl:n=k:=by omega
   clear hlt hk
   have HA:Hid (b=false):=Lib.hid (by
    have h:=HT.out
    rw [List.take_of_length_le (by rw [H.out.len];omega)] at h
    rw [HBV.out];exact h)
   go_wp2
   go_ret
   exact ⟨by rw [HA.out];rfl,rfl⟩

def CheckPost (w:World) (B n:Nat) (rs:List Raw) (e:Ending) (w':World):Prop:=Below w.heap.size w w' ∧
 ((verd (fns rs)≠0∧e=.returned (.tuple #[.pointer none,.int .i64 (verd (fns rs))])) ∨
  (verd (fns rs)=0∧∃ w0 tb ls rvs svs RA rc SA sc,e=.returned (.tuple #[.pointer (some ⟨tb,0,none⟩),.int .i64 0])∧TI w0 B tb rs n ls rvs svs RA rc SA sc w'∧Sols (fns rs) (fns rs) ls))
theorem bnd_code {rs:List Raw} (h:bnd (fns rs)=true):∀ r ∈ rs,r.fn.code.length≤256:=fun r hr=>by
 unfold bnd at h
 rw [Bool.and_eq_true,List.all_eq_true] at h
 have:=h.2 r.fn (List.mem_map.2 ⟨r,hr,rfl⟩)
 unfold bndF at this
 simp at this
 exact this.2
theorem ref_ins {rs:List Raw} (h:refB (fns rs)=true):∀ r ∈ rs,∀ i ∈ r.fn.code,insRef (fns rs) r.fn i=true:=fun r hr i hi=>by
 unfold refB at h
 rw [Bool.and_eq_true,List.all_eq_true] at h
 have:=h.2 r.fn (List.mem_map.2 ⟨r,hr,rfl⟩)
 unfold fnRef at this
 rw [Bool.and_eq_true,List.all_eq_true] at this
 exact this.2 i hi
theorem TI.allSols {w w':World} {B tb n rc sc:Nat} {rs:List Raw} {ls:List (List (Option Stk))} {rvs svs:List Value} {RA SA:Option Addr} (h:TI w B tb rs n ls rvs svs RA rc SA sc w') (hl:rs.length=n):Sols (fns rs) (fns rs) ls :=
 ⟨by rw [length_fns,h.len,hl],fun k f hf=>h.sols k f (by have:=(List.getElem?_eq_some_iff.1 hf).1;rw [length_fns,hl] at this;exact this) hf⟩
end Go.Proofs.Ytgekmjkfnhogkaa.Q
