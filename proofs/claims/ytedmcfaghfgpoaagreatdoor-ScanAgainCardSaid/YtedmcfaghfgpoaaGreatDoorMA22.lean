/-
  Texts of one seat, one behind the other: Rr, Si, Sk, Sn, So, Sf.
-/
import Derived.BigQuiet
import Derived.Test.YtedmcfaghfgpoaaGreatDoorMA12
import Derived.Test.YtedmcfaghfgpoaaGreatDoorMA21

set_option linter.unusedVariables false
set_option linter.unusedSimpArgs false
set_option maxRecDepth 100000
set_option maxHeartbeats 51200000
namespace Go.Proofs.YtedmcfaghfgpoaaGreatDoor
open Go.ChangeShapes Go.WideShapes Go.ChangeAt Go.RowKit
theorem rreads_any (B:Nat) (op bop d e a b f cell imm:Int) (args:List Int) (nx el:Int) (ao:Option Addr) (nA ac:Nat) (w:World) (ho0:0≤op) (ho1:op≤255) (hd:I64 d) (he:I64 e) (ha:I64 a) (hb:I64 b) (hn:I64 nx) (hel:I64 el) (hr:Reads w B 1 ao nA (i64c args)) (hl:args.length=nA) (hargs:∀ x ∈ args,I64 x) (hnA:nA*8≤140737488351232) (hnc:nA≤ac) (hB:B≤w.heap.size) :
  Calls Tryz.prog 59 #[.agg #[.int .u8 op,.int .u8 bop,.int .i64 d,.int .i64 e,.int .i64 a,.int .i64 b,.int .i64 f,.int .i64 cell,.int .u64 imm,.slice ao nA ac,.int .i64 nx,.int .i64 el]] w (NewI w (readsOf ⟨op,bop,d,e,a,b,f,cell,imm,args,nx,el⟩)):=by
 have H:=Lib.hid hr
 have HL:=Lib.hid hl
 have HA:=Lib.hid hargs
 have HW1:Hid (Below w.heap.size w (w.alloc (.cells #[.int .u8 op,.int .u8 bop,.int .i64 d,.int .i64 e,.int .i64 a,.int .i64 b,.int .i64 f,.int .i64 cell,.int .u64 imm,.slice ao nA ac,.int .i64 nx,.int .i64 el] 47))):=(Below.refl _ _).alloc (Nat.le_refl _) _
 have HH:Hid (Reads (w.alloc (.cells #[.int .u8 op,.int .u8 bop,.int .i64 d,.int .i64 e,.int .i64 a,.int .i64 b,.int .i64 f,.int .i64 cell,.int .u64 imm,.slice ao nA ac,.int .i64 nx,.int .i64 el] 47)) B 1 ao nA (i64c args)):=Lib.hid (hr.below (HW1.out.mono hB))
 have hB1:B≤(w.alloc (.cells #[.int .u8 op,.int .u8 bop,.int .i64 d,.int .i64 e,.int .i64 a,.int .i64 b,.int .i64 f,.int .i64 cell,.int .u64 imm,.slice ao nA ac,.int .i64 nx,.int .i64 el] 47)).heap.size:=by simp;omega
 have hz1:(w.alloc (.cells #[.int .u8 op,.int .u8 bop,.int .i64 d,.int .i64 e,.int .i64 a,.int .i64 b,.int .i64 f,.int .i64 cell,.int .u64 imm,.slice ao nA ac,.int .i64 nx,.int .i64 el] 47)).heap.size=w.heap.size+1:=by simp
 clear hr hl hargs
 rcases op_cases ho0 ho1 with rfl | rfl | rfl | rfl | rfl | rfl | rfl | rfl | rfl | rfl | rfl | rfl | rfl | rfl | rfl | rfl | rfl | rfl | hop
 ·go_enter Tryz.func59,Tryz.ntmps59
  go_wp2
  go_ret
  exact NewI.mk' (l:=[]) rfl rfl Reads.none_ (Nat.le_refl _) (Below.refl _ _) HW1.out
 ·have HLR:=Lib.hid (lit_reads (w.alloc (.cells #[.int .u8 2,.int .u8 bop,.int .i64 d,.int .i64 e,.int .i64 a,.int .i64 b,.int .i64 f,.int .i64 cell,.int .u64 imm,.slice ao nA ac,.int .i64 nx,.int .i64 el] 47)) 3 (i64c [a]) 1 rfl)
  have HWF:Hid (∀ x ∈ [a],I64 x):=Lib.hid (by intro x hx;simp at hx;subst hx;assumption)
  have HW2:Hid (Below w.heap.size w ((w.alloc (.cells #[.int .u8 2,.int .u8 bop,.int .i64 d,.int .i64 e,.int .i64 a,.int .i64 b,.int .i64 f,.int .i64 cell,.int .u64 imm,.slice ao nA ac,.int .i64 nx,.int .i64 el] 47)).alloc (.cells #[.int .i64 a] 3))):=HW1.out.alloc (by simp) _
  have hs2:w.heap.size+1+1≤((w.alloc (.cells #[.int .u8 2,.int .u8 bop,.int .i64 d,.int .i64 e,.int .i64 a,.int .i64 b,.int .i64 f,.int .i64 cell,.int .u64 imm,.slice ao nA ac,.int .i64 nx,.int .i64 el] 47)).alloc (.cells #[.int .i64 a] 3)).heap.size:=by simp
  rw [hz1] at HLR
  go_enter Tryz.func59,Tryz.ntmps59
  go_wp2_with (first | (go_at_call 60;refine (radd_any (w.heap.size+1+1) _ 1 _ [a] _ HLR.out rfl HWF.out hs2 (by omega)).mono ?_;rintro ee w2 ⟨A2,c2,rfl,hr2,hc2,hb2⟩;have HR2:=Lib.hid hr2;have HB2:=Lib.hid hb2;clear hr2 hb2))
  go_ret
  exact NewI.mk' rfl rfl HR2.out hc2 HB2.out HW2.out
 ·have HLR:=Lib.hid (lit_reads (w.alloc (.cells #[.int .u8 3,.int .u8 bop,.int .i64 d,.int .i64 e,.int .i64 a,.int .i64 b,.int .i64 f,.int .i64 cell,.int .u64 imm,.slice ao nA ac,.int .i64 nx,.int .i64 el] 47)) 3 (i64c [a,b]) 2 rfl)
  have HWF:Hid (∀ x ∈ [a,b],I64 x):=Lib.hid (by intro x hx;simp at hx;rcases hx with rfl | rfl <;> assumption)
  have HW2:Hid (Below w.heap.size w ((w.alloc (.cells #[.int .u8 3,.int .u8 bop,.int .i64 d,.int .i64 e,.int .i64 a,.int .i64 b,.int .i64 f,.int .i64 cell,.int .u64 imm,.slice ao nA ac,.int .i64 nx,.int .i64 el] 47)).alloc (.cells #[.int .i64 a,.int .i64 b] 3))):=HW1.out.alloc (by simp) _
  have hs2:w.heap.size+1+1≤((w.alloc (.cells #[.int .u8 3,.int .u8 bop,.int .i64 d,.int .i64 e,.int .i64 a,.int .i64 b,.int .i64 f,.int .i64 cell,.int .u64 imm,.slice ao nA ac,.int .i64 nx,.int .i64 el] 47)).alloc (.cells #[.int .i64 a,.int .i64 b] 3)).heap.size:=by simp
  rw [hz1] at HLR
  go_enter Tryz.func59,Tryz.ntmps59
  go_wp2_with (first | (go_at_call 60;refine (radd_any (w.heap.size+1+1) _ 2 _ [a,b] _ HLR.out rfl HWF.out hs2 (by omega)).mono ?_;rintro ee w2 ⟨A2,c2,rfl,hr2,hc2,hb2⟩;have HR2:=Lib.hid hr2;have HB2:=Lib.hid hb2;clear hr2 hb2))
  go_ret
  exact NewI.mk' rfl rfl HR2.out hc2 HB2.out HW2.out
 ·go_enter Tryz.func59,Tryz.ntmps59
  go_wp2
  go_ret
  exact NewI.mk' (l:=[]) rfl rfl Reads.none_ (Nat.le_refl _) (Below.refl _ _) HW1.out
 ·have HLR:=Lib.hid (lit_reads (w.alloc (.cells #[.int .u8 5,.int .u8 bop,.int .i64 d,.int .i64 e,.int .i64 a,.int .i64 b,.int .i64 f,.int .i64 cell,.int .u64 imm,.slice ao nA ac,.int .i64 nx,.int .i64 el] 47)) 3 (i64c [a]) 1 rfl)
  have HWF:Hid (∀ x ∈ [a],I64 x):=Lib.hid (by intro x hx;simp at hx;subst hx;assumption)
  have HW2:Hid (Below w.heap.size w ((w.alloc (.cells #[.int .u8 5,.int .u8 bop,.int .i64 d,.int .i64 e,.int .i64 a,.int .i64 b,.int .i64 f,.int .i64 cell,.int .u64 imm,.slice ao nA ac,.int .i64 nx,.int .i64 el] 47)).alloc (.cells #[.int .i64 a] 3))):=HW1.out.alloc (by simp) _
  have hs2:w.heap.size+1+1≤((w.alloc (.cells #[.int .u8 5,.int .u8 bop,.int .i64 d,.int .i64 e,.int .i64 a,.int .i64 b,.int .i64 f,.int .i64 cell,.int .u64 imm,.slice ao nA ac,.int .i64 nx,.int .i64 el] 47)).alloc (.cells #[.int .i64 a] 3)).heap.size:=by simp
  rw [hz1] at HLR
  go_enter Tryz.func59,Tryz.ntmps59
  go_wp2_with (first | (go_at_call 60;refine (radd_any (w.heap.size+1+1) _ 1 _ [a] _ HLR.out rfl HWF.out hs2 (by omega)).mono ?_;rintro ee w2 ⟨A2,c2,rfl,hr2,hc2,hb2⟩;have HR2:=Lib.hid hr2;have HB2:=Lib.hid hb2;clear hr2 hb2))
  go_ret
  exact NewI.mk' rfl rfl HR2.out hc2 HB2.out HW2.out
 ·go_enter Tryz.func59,Tryz.ntmps59
  go_wp2
  go_ret
  exact NewI.mk' (l:=[]) rfl rfl Reads.none_ (Nat.le_refl _) (Below.refl _ _) HW1.out
 ·have HLR:=Lib.hid (lit_reads (w.alloc (.cells #[.int .u8 7,.int .u8 bop,.int .i64 d,.int .i64 e,.int .i64 a,.int .i64 b,.int .i64 f,.int .i64 cell,.int .u64 imm,.slice ao nA ac,.int .i64 nx,.int .i64 el] 47)) 3 (i64c [a]) 1 rfl)
  have HWF:Hid (∀ x ∈ [a],I64 x):=Lib.hid (by intro x hx;simp at hx;subst hx;assumption)
  have HW2:Hid (Below w.heap.size w ((w.alloc (.cells #[.int .u8 7,.int .u8 bop,.int .i64 d,.int .i64 e,.int .i64 a,.int .i64 b,.int .i64 f,.int .i64 cell,.int .u64 imm,.slice ao nA ac,.int .i64 nx,.int .i64 el] 47)).alloc (.cells #[.int .i64 a] 3))):=HW1.out.alloc (by simp) _
  have hs2:w.heap.size+1+1≤((w.alloc (.cells #[.int .u8 7,.int .u8 bop,.int .i64 d,.int .i64 e,.int .i64 a,.int .i64 b,.int .i64 f,.int .i64 cell,.int .u64 imm,.slice ao nA ac,.int .i64 nx,.int .i64 el] 47)).alloc (.cells #[.int .i64 a] 3)).heap.size:=by simp
  rw [hz1] at HLR
  go_enter Tryz.func59,Tryz.ntmps59
  go_wp2_with (first | (go_at_call 60;refine (radd_any (w.heap.size+1+1) _ 1 _ [a] _ HLR.out rfl HWF.out hs2 (by omega)).mono ?_;rintro ee w2 ⟨A2,c2,rfl,hr2,hc2,hb2⟩;have HR2:=Lib.hid hr2;have HB2:=Lib.hid hb2;clear hr2 hb2))
  go_ret
  exact NewI.mk' rfl rfl HR2.out hc2 HB2.out HW2.out
 ·have HLR:=Lib.hid (lit_reads (w.alloc (.cells #[.int .u8 8,.int .u8 bop,.int .i64 d,.int .i64 e,.int .i64 a,.int .i64 b,.int .i64 f,.int .i64 cell,.int .u64 imm,.slice ao nA ac,.int .i64 nx,.int .i64 el] 47)) 3 (i64c [a,b]) 2 rfl)
  have HWF:Hid (∀ x ∈ [a,b],I64 x):=Lib.hid (by intro x hx;simp at hx;rcases hx with rfl | rfl <;> assumption)
  have HW2:Hid (Below w.heap.size w ((w.alloc (.cells #[.int .u8 8,.int .u8 bop,.int .i64 d,.int .i64 e,.int .i64 a,.int .i64 b,.int .i64 f,.int .i64 cell,.int .u64 imm,.slice ao nA ac,.int .i64 nx,.int .i64 el] 47)).alloc (.cells #[.int .i64 a,.int .i64 b] 3))):=HW1.out.alloc (by simp) _
  have hs2:w.heap.size+1+1≤((w.alloc (.cells #[.int .u8 8,.int .u8 bop,.int .i64 d,.int .i64 e,.int .i64 a,.int .i64 b,.int .i64 f,.int .i64 cell,.int .u64 imm,.slice ao nA ac,.int .i64 nx,.int .i64 el] 47)).alloc (.cells #[.int .i64 a,.int .i64 b] 3)).heap.size:=by simp
  rw [hz1] at HLR
  go_enter Tryz.func59,Tryz.ntmps59
  go_wp2_with (first | (go_at_call 60;refine (radd_any (w.heap.size+1+1) _ 2 _ [a,b] _ HLR.out rfl HWF.out hs2 (by omega)).mono ?_;rintro ee w2 ⟨A2,c2,rfl,hr2,hc2,hb2⟩;have HR2:=Lib.hid hr2;have HB2:=Lib.hid hb2;clear hr2 hb2))
  go_ret
  exact NewI.mk' rfl rfl HR2.out hc2 HB2.out HW2.out
 ·have HLR:=Lib.hid (lit_reads (w.alloc (.cells #[.int .u8 9,.int .u8 bop,.int .i64 d,.int .i64 e,.int .i64 a,.int .i64 b,.int .i64 f,.int .i64 cell,.int .u64 imm,.slice ao nA ac,.int .i64 nx,.int .i64 el] 47)) 3 (i64c [a]) 1 rfl)
  have HWF:Hid (∀ x ∈ [a],I64 x):=Lib.hid (by intro x hx;simp at hx;subst hx;assumption)
  have HW2:Hid (Below w.heap.size w ((w.alloc (.cells #[.int .u8 9,.int .u8 bop,.int .i64 d,.int .i64 e,.int .i64 a,.int .i64 b,.int .i64 f,.int .i64 cell,.int .u64 imm,.slice ao nA ac,.int .i64 nx,.int .i64 el] 47)).alloc (.cells #[.int .i64 a] 3))):=HW1.out.alloc (by simp) _
  have hs2:w.heap.size+1+1≤((w.alloc (.cells #[.int .u8 9,.int .u8 bop,.int .i64 d,.int .i64 e,.int .i64 a,.int .i64 b,.int .i64 f,.int .i64 cell,.int .u64 imm,.slice ao nA ac,.int .i64 nx,.int .i64 el] 47)).alloc (.cells #[.int .i64 a] 3)).heap.size:=by simp
  rw [hz1] at HLR
  go_enter Tryz.func59,Tryz.ntmps59
  go_wp2_with (first | (go_at_call 60;refine (radd_any (w.heap.size+1+1) _ 1 _ [a] _ HLR.out rfl HWF.out hs2 (by omega)).mono ?_;rintro ee w2 ⟨A2,c2,rfl,hr2,hc2,hb2⟩;have HR2:=Lib.hid hr2;have HB2:=Lib.hid hb2;clear hr2 hb2))
  go_ret
  exact NewI.mk' rfl rfl HR2.out hc2 HB2.out HW2.out
 ·go_enter Tryz.func59,Tryz.ntmps59
  go_wp2
  go_ret
  exact NewI.mk' (l:=[]) rfl rfl Reads.none_ (Nat.le_refl _) (Below.refl _ _) HW1.out
 ·go_enter Tryz.func59,Tryz.ntmps59
  go_wp2_with (first | (go_at_call 60;refine (radd_any B ao nA ac args _ HH.out HL.out HA.out hB1 hnA).mono ?_;rintro ee w2 ⟨A2,c2,rfl,hr2,hc2,hb2⟩;have HR2:=Lib.hid hr2;have HB2:=Lib.hid hb2;clear hr2 hb2))
  go_ret
  exact NewI.mk' rfl rfl HR2.out hc2 HB2.out HW1.out
 ·have HLR:=Lib.hid (lit_reads (w.alloc (.cells #[.int .u8 12,.int .u8 bop,.int .i64 d,.int .i64 e,.int .i64 a,.int .i64 b,.int .i64 f,.int .i64 cell,.int .u64 imm,.slice ao nA ac,.int .i64 nx,.int .i64 el] 47)) 3 (i64c [a]) 1 rfl)
  have HWF:Hid (∀ x ∈ [a],I64 x):=Lib.hid (by intro x hx;simp at hx;subst hx;assumption)
  have HW2:Hid (Below w.heap.size w ((w.alloc (.cells #[.int .u8 12,.int .u8 bop,.int .i64 d,.int .i64 e,.int .i64 a,.int .i64 b,.int .i64 f,.int .i64 cell,.int .u64 imm,.slice ao nA ac,.int .i64 nx,.int .i64 el] 47)).alloc (.cells #[.int .i64 a] 3))):=HW1.out.alloc (by simp) _
  have hs2:w.heap.size+1+1≤((w.alloc (.cells #[.int .u8 12,.int .u8 bop,.int .i64 d,.int .i64 e,.int .i64 a,.int .i64 b,.int .i64 f,.int .i64 cell,.int .u64 imm,.slice ao nA ac,.int .i64 nx,.int .i64 el] 47)).alloc (.cells #[.int .i64 a] 3)).heap.size:=by simp
  rw [hz1] at HLR
  go_enter Tryz.func59,Tryz.ntmps59
  go_wp2_with (first | (go_at_call 60;refine (radd_any (w.heap.size+1+1) _ 1 _ [a] _ HLR.out rfl HWF.out hs2 (by omega)).mono ?_;rintro ee w2 ⟨A2,c2,rfl,hr2,hc2,hb2⟩;have HR2:=Lib.hid hr2;have HB2:=Lib.hid hb2;clear hr2 hb2))
  go_ret
  exact NewI.mk' rfl rfl HR2.out hc2 HB2.out HW2.out
 ·go_enter Tryz.func59,Tryz.ntmps59
  go_wp2_with (first | (go_at_call 60;refine (radd_any B ao nA ac args _ HH.out HL.out HA.out hB1 hnA).mono ?_;rintro ee w2 ⟨A2,c2,rfl,hr2,hc2,hb2⟩;have HR2:=Lib.hid hr2;have HB2:=Lib.hid hb2;clear hr2 hb2))
  go_ret
  exact NewI.mk' rfl rfl HR2.out hc2 HB2.out HW1.out
 ·have HLR:=Lib.hid (lit_reads (w.alloc (.cells #[.int .u8 14,.int .u8 bop,.int .i64 d,.int .i64 e,.int .i64 a,.int .i64 b,.int .i64 f,.int .i64 cell,.int .u64 imm,.slice ao nA ac,.int .i64 nx,.int .i64 el] 47)) 3 (i64c [a]) 1 rfl)
  have HWF:Hid (∀ x ∈ [a],I64 x):=Lib.hid (by intro x hx;simp at hx;subst hx;assumption)
  have HW2:Hid (Below w.heap.size w ((w.alloc (.cells #[.int .u8 14,.int .u8 bop,.int .i64 d,.int .i64 e,.int .i64 a,.int .i64 b,.int .i64 f,.int .i64 cell,.int .u64 imm,.slice ao nA ac,.int .i64 nx,.int .i64 el] 47)).alloc (.cells #[.int .i64 a] 3))):=HW1.out.alloc (by simp) _
  have hs2:w.heap.size+1+1≤((w.alloc (.cells #[.int .u8 14,.int .u8 bop,.int .i64 d,.int .i64 e,.int .i64 a,.int .i64 b,.int .i64 f,.int .i64 cell,.int .u64 imm,.slice ao nA ac,.int .i64 nx,.int .i64 el] 47)).alloc (.cells #[.int .i64 a] 3)).heap.size:=by simp
  rw [hz1] at HLR
  go_enter Tryz.func59,Tryz.ntmps59
  go_wp2_with (first | (go_at_call 60;refine (radd_any (w.heap.size+1+1) _ 1 _ [a] _ HLR.out rfl HWF.out hs2 (by omega)).mono ?_;rintro ee w2 ⟨A2,c2,rfl,hr2,hc2,hb2⟩;have HR2:=Lib.hid hr2;have HB2:=Lib.hid hb2;clear hr2 hb2))
  go_ret
  exact NewI.mk' rfl rfl HR2.out hc2 HB2.out HW2.out
 ·go_enter Tryz.func59,Tryz.ntmps59
  go_wp2
  go_ret
  exact NewI.mk' (l:=[]) rfl rfl Reads.none_ (Nat.le_refl _) (Below.refl _ _) HW1.out
 ·go_enter Tryz.func59,Tryz.ntmps59
  go_wp2
  go_ret
  exact NewI.mk' (l:=[]) rfl rfl Reads.none_ (Nat.le_refl _) (Below.refl _ _) HW1.out
 ·have HLR:=Lib.hid (lit_reads (w.alloc (.cells #[.int .u8 17,.int .u8 bop,.int .i64 d,.int .i64 e,.int .i64 a,.int .i64 b,.int .i64 f,.int .i64 cell,.int .u64 imm,.slice ao nA ac,.int .i64 nx,.int .i64 el] 47)) 3 (i64c [a]) 1 rfl)
  have HWF:Hid (∀ x ∈ [a],I64 x):=Lib.hid (by intro x hx;simp at hx;subst hx;assumption)
  have HW2:Hid (Below w.heap.size w ((w.alloc (.cells #[.int .u8 17,.int .u8 bop,.int .i64 d,.int .i64 e,.int .i64 a,.int .i64 b,.int .i64 f,.int .i64 cell,.int .u64 imm,.slice ao nA ac,.int .i64 nx,.int .i64 el] 47)).alloc (.cells #[.int .i64 a] 3))):=HW1.out.alloc (by simp) _
  have hs2:w.heap.size+1+1≤((w.alloc (.cells #[.int .u8 17,.int .u8 bop,.int .i64 d,.int .i64 e,.int .i64 a,.int .i64 b,.int .i64 f,.int .i64 cell,.int .u64 imm,.slice ao nA ac,.int .i64 nx,.int .i64 el] 47)).alloc (.cells #[.int .i64 a] 3)).heap.size:=by simp
  rw [hz1] at HLR
  go_enter Tryz.func59,Tryz.ntmps59
  go_wp2_with (first | (go_at_call 60;refine (radd_any (w.heap.size+1+1) _ 1 _ [a] _ HLR.out rfl HWF.out hs2 (by omega)).mono ?_;rintro ee w2 ⟨A2,c2,rfl,hr2,hc2,hb2⟩;have HR2:=Lib.hid hr2;have HB2:=Lib.hid hb2;clear hr2 hb2))
  go_ret
  exact NewI.mk' rfl rfl HR2.out hc2 HB2.out HW2.out
 ·have HLR:=Lib.hid (lit_reads (w.alloc (.cells #[.int .u8 18,.int .u8 bop,.int .i64 d,.int .i64 e,.int .i64 a,.int .i64 b,.int .i64 f,.int .i64 cell,.int .u64 imm,.slice ao nA ac,.int .i64 nx,.int .i64 el] 47)) 3 (i64c [a]) 1 rfl)
  have HWF:Hid (∀ x ∈ [a],I64 x):=Lib.hid (by intro x hx;simp at hx;subst hx;assumption)
  have HW2:Hid (Below w.heap.size w ((w.alloc (.cells #[.int .u8 18,.int .u8 bop,.int .i64 d,.int .i64 e,.int .i64 a,.int .i64 b,.int .i64 f,.int .i64 cell,.int .u64 imm,.slice ao nA ac,.int .i64 nx,.int .i64 el] 47)).alloc (.cells #[.int .i64 a] 3))):=HW1.out.alloc (by simp) _
  have hs2:w.heap.size+1+1≤((w.alloc (.cells #[.int .u8 18,.int .u8 bop,.int .i64 d,.int .i64 e,.int .i64 a,.int .i64 b,.int .i64 f,.int .i64 cell,.int .u64 imm,.slice ao nA ac,.int .i64 nx,.int .i64 el] 47)).alloc (.cells #[.int .i64 a] 3)).heap.size:=by simp
  rw [hz1] at HLR
  go_enter Tryz.func59,Tryz.ntmps59
  go_wp2_with (first | (go_at_call 60;refine (radd_any (w.heap.size+1+1) _ 1 _ [a] _ HLR.out rfl HWF.out hs2 (by omega)).mono ?_;rintro ee w2 ⟨A2,c2,rfl,hr2,hc2,hb2⟩;have HR2:=Lib.hid hr2;have HB2:=Lib.hid hb2;clear hr2 hb2))
  go_ret
  exact NewI.mk' rfl rfl HR2.out hc2 HB2.out HW2.out
 ·have hL:readsOf ⟨op,bop,d,e,a,b,f,cell,imm,args,nx,el⟩=[]:=by
   unfold readsOf
   simp only [readF]
   repeat rw [if_neg (by omega)]
   rfl
  have HLL:=Lib.hid hL
  clear hL
  have g2:(op == 2)=false:=by simp;omega
  have g5:(op == 5)=false:=by simp;omega
  have g7:(op == 7)=false:=by simp;omega
  have g9:(op == 9)=false:=by simp;omega
  have g12:(op == 12)=false:=by simp;omega
  have g14:(op == 14)=false:=by simp;omega
  have g18:(op == 18)=false:=by simp;omega
  have g17:(op == 17)=false:=by simp;omega
  have g3:(op == 3)=false:=by simp;omega
  have g8:(op == 8)=false:=by simp;omega
  have g11:(op == 11)=false:=by simp;omega
  have g13:(op == 13)=false:=by simp;omega
  go_enter Tryz.func59,Tryz.ntmps59
  go_wp2
  go_ret
  exact NewI.mk' HLL.out.symm rfl Reads.none_ (Nat.le_refl _) (Below.refl _ _) HW1.out

theorem rwrites_any (B:Nat) (op bop d e a b f cell imm:Int) (args:List Int) (nx el:Int) (ao:Option Addr) (nA ac:Nat) (w:World) (ho0:0≤op) (ho1:op≤255) (hd:I64 d) (he:I64 e) (ha:I64 a) (hb:I64 b) (hn:I64 nx) (hel:I64 el) (hr:Reads w B 1 ao nA (i64c args)) (hl:args.length=nA) (hargs:∀ x ∈ args,I64 x) (hnA:nA*8≤140737488351232) (hnc:nA≤ac) (hB:B≤w.heap.size) :
  Calls Tryz.prog 39 #[.agg #[.int .u8 op,.int .u8 bop,.int .i64 d,.int .i64 e,.int .i64 a,.int .i64 b,.int .i64 f,.int .i64 cell,.int .u64 imm,.slice ao nA ac,.int .i64 nx,.int .i64 el]] w (NewI w (writesOf ⟨op,bop,d,e,a,b,f,cell,imm,args,nx,el⟩)):=by
 have H:=Lib.hid hr
 have HL:=Lib.hid hl
 have HA:=Lib.hid hargs
 have HW1:Hid (Below w.heap.size w (w.alloc (.cells #[.int .u8 op,.int .u8 bop,.int .i64 d,.int .i64 e,.int .i64 a,.int .i64 b,.int .i64 f,.int .i64 cell,.int .u64 imm,.slice ao nA ac,.int .i64 nx,.int .i64 el] 47))):=(Below.refl _ _).alloc (Nat.le_refl _) _
 have HH:Hid (Reads (w.alloc (.cells #[.int .u8 op,.int .u8 bop,.int .i64 d,.int .i64 e,.int .i64 a,.int .i64 b,.int .i64 f,.int .i64 cell,.int .u64 imm,.slice ao nA ac,.int .i64 nx,.int .i64 el] 47)) B 1 ao nA (i64c args)):=Lib.hid (hr.below (HW1.out.mono hB))
 have hB1:B≤(w.alloc (.cells #[.int .u8 op,.int .u8 bop,.int .i64 d,.int .i64 e,.int .i64 a,.int .i64 b,.int .i64 f,.int .i64 cell,.int .u64 imm,.slice ao nA ac,.int .i64 nx,.int .i64 el] 47)).heap.size:=by simp;omega
 have hz1:(w.alloc (.cells #[.int .u8 op,.int .u8 bop,.int .i64 d,.int .i64 e,.int .i64 a,.int .i64 b,.int .i64 f,.int .i64 cell,.int .u64 imm,.slice ao nA ac,.int .i64 nx,.int .i64 el] 47)).heap.size=w.heap.size+1:=by simp
 clear hr hl hargs
 rcases op_cases ho0 ho1 with rfl | rfl | rfl | rfl | rfl | rfl | rfl | rfl | rfl | rfl | rfl | rfl | rfl | rfl | rfl | rfl | rfl | rfl | hop
 ·have HLR:=Lib.hid (lit_reads (w.alloc (.cells #[.int .u8 1,.int .u8 bop,.int .i64 d,.int .i64 e,.int .i64 a,.int .i64 b,.int .i64 f,.int .i64 cell,.int .u64 imm,.slice ao nA ac,.int .i64 nx,.int .i64 el] 47)) 3 (i64c [d]) 1 rfl)
  have HWF:Hid (∀ x ∈ [d],I64 x):=Lib.hid (by intro x hx;simp at hx;subst hx;assumption)
  have HW2:Hid (Below w.heap.size w ((w.alloc (.cells #[.int .u8 1,.int .u8 bop,.int .i64 d,.int .i64 e,.int .i64 a,.int .i64 b,.int .i64 f,.int .i64 cell,.int .u64 imm,.slice ao nA ac,.int .i64 nx,.int .i64 el] 47)).alloc (.cells #[.int .i64 d] 3))):=HW1.out.alloc (by simp) _
  have hs2:w.heap.size+1+1≤((w.alloc (.cells #[.int .u8 1,.int .u8 bop,.int .i64 d,.int .i64 e,.int .i64 a,.int .i64 b,.int .i64 f,.int .i64 cell,.int .u64 imm,.slice ao nA ac,.int .i64 nx,.int .i64 el] 47)).alloc (.cells #[.int .i64 d] 3)).heap.size:=by simp
  rw [hz1] at HLR
  go_enter Tryz.func39,Tryz.ntmps39
  go_wp2_with (first | (go_at_call 60;refine (radd_any (w.heap.size+1+1) _ 1 _ [d] _ HLR.out rfl HWF.out hs2 (by omega)).mono ?_;rintro ee w2 ⟨A2,c2,rfl,hr2,hc2,hb2⟩;have HR2:=Lib.hid hr2;have HB2:=Lib.hid hb2;clear hr2 hb2))
  go_ret
  exact NewI.mk' rfl rfl HR2.out hc2 HB2.out HW2.out
 ·have HLR:=Lib.hid (lit_reads (w.alloc (.cells #[.int .u8 2,.int .u8 bop,.int .i64 d,.int .i64 e,.int .i64 a,.int .i64 b,.int .i64 f,.int .i64 cell,.int .u64 imm,.slice ao nA ac,.int .i64 nx,.int .i64 el] 47)) 3 (i64c [d]) 1 rfl)
  have HWF:Hid (∀ x ∈ [d],I64 x):=Lib.hid (by intro x hx;simp at hx;subst hx;assumption)
  have HW2:Hid (Below w.heap.size w ((w.alloc (.cells #[.int .u8 2,.int .u8 bop,.int .i64 d,.int .i64 e,.int .i64 a,.int .i64 b,.int .i64 f,.int .i64 cell,.int .u64 imm,.slice ao nA ac,.int .i64 nx,.int .i64 el] 47)).alloc (.cells #[.int .i64 d] 3))):=HW1.out.alloc (by simp) _
  have hs2:w.heap.size+1+1≤((w.alloc (.cells #[.int .u8 2,.int .u8 bop,.int .i64 d,.int .i64 e,.int .i64 a,.int .i64 b,.int .i64 f,.int .i64 cell,.int .u64 imm,.slice ao nA ac,.int .i64 nx,.int .i64 el] 47)).alloc (.cells #[.int .i64 d] 3)).heap.size:=by simp
  rw [hz1] at HLR
  go_enter Tryz.func39,Tryz.ntmps39
  go_wp2_with (first | (go_at_call 60;refine (radd_any (w.heap.size+1+1) _ 1 _ [d] _ HLR.out rfl HWF.out hs2 (by omega)).mono ?_;rintro ee w2 ⟨A2,c2,rfl,hr2,hc2,hb2⟩;have HR2:=Lib.hid hr2;have HB2:=Lib.hid hb2;clear hr2 hb2))
  go_ret
  exact NewI.mk' rfl rfl HR2.out hc2 HB2.out HW2.out
 ·have HLR:=Lib.hid (lit_reads (w.alloc (.cells #[.int .u8 3,.int .u8 bop,.int .i64 d,.int .i64 e,.int .i64 a,.int .i64 b,.int .i64 f,.int .i64 cell,.int .u64 imm,.slice ao nA ac,.int .i64 nx,.int .i64 el] 47)) 3 (i64c [d]) 1 rfl)
  have HWF:Hid (∀ x ∈ [d],I64 x):=Lib.hid (by intro x hx;simp at hx;subst hx;assumption)
  have HW2:Hid (Below w.heap.size w ((w.alloc (.cells #[.int .u8 3,.int .u8 bop,.int .i64 d,.int .i64 e,.int .i64 a,.int .i64 b,.int .i64 f,.int .i64 cell,.int .u64 imm,.slice ao nA ac,.int .i64 nx,.int .i64 el] 47)).alloc (.cells #[.int .i64 d] 3))):=HW1.out.alloc (by simp) _
  have hs2:w.heap.size+1+1≤((w.alloc (.cells #[.int .u8 3,.int .u8 bop,.int .i64 d,.int .i64 e,.int .i64 a,.int .i64 b,.int .i64 f,.int .i64 cell,.int .u64 imm,.slice ao nA ac,.int .i64 nx,.int .i64 el] 47)).alloc (.cells #[.int .i64 d] 3)).heap.size:=by simp
  rw [hz1] at HLR
  go_enter Tryz.func39,Tryz.ntmps39
  go_wp2_with (first | (go_at_call 60;refine (radd_any (w.heap.size+1+1) _ 1 _ [d] _ HLR.out rfl HWF.out hs2 (by omega)).mono ?_;rintro ee w2 ⟨A2,c2,rfl,hr2,hc2,hb2⟩;have HR2:=Lib.hid hr2;have HB2:=Lib.hid hb2;clear hr2 hb2))
  go_ret
  exact NewI.mk' rfl rfl HR2.out hc2 HB2.out HW2.out
 ·have HLR:=Lib.hid (lit_reads (w.alloc (.cells #[.int .u8 4,.int .u8 bop,.int .i64 d,.int .i64 e,.int .i64 a,.int .i64 b,.int .i64 f,.int .i64 cell,.int .u64 imm,.slice ao nA ac,.int .i64 nx,.int .i64 el] 47)) 3 (i64c [d]) 1 rfl)
  have HWF:Hid (∀ x ∈ [d],I64 x):=Lib.hid (by intro x hx;simp at hx;subst hx;assumption)
  have HW2:Hid (Below w.heap.size w ((w.alloc (.cells #[.int .u8 4,.int .u8 bop,.int .i64 d,.int .i64 e,.int .i64 a,.int .i64 b,.int .i64 f,.int .i64 cell,.int .u64 imm,.slice ao nA ac,.int .i64 nx,.int .i64 el] 47)).alloc (.cells #[.int .i64 d] 3))):=HW1.out.alloc (by simp) _
  have hs2:w.heap.size+1+1≤((w.alloc (.cells #[.int .u8 4,.int .u8 bop,.int .i64 d,.int .i64 e,.int .i64 a,.int .i64 b,.int .i64 f,.int .i64 cell,.int .u64 imm,.slice ao nA ac,.int .i64 nx,.int .i64 el] 47)).alloc (.cells #[.int .i64 d] 3)).heap.size:=by simp
  rw [hz1] at HLR
  go_enter Tryz.func39,Tryz.ntmps39
  go_wp2_with (first | (go_at_call 60;refine (radd_any (w.heap.size+1+1) _ 1 _ [d] _ HLR.out rfl HWF.out hs2 (by omega)).mono ?_;rintro ee w2 ⟨A2,c2,rfl,hr2,hc2,hb2⟩;have HR2:=Lib.hid hr2;have HB2:=Lib.hid hb2;clear hr2 hb2))
  go_ret
  exact NewI.mk' rfl rfl HR2.out hc2 HB2.out HW2.out
 ·go_enter Tryz.func39,Tryz.ntmps39
  go_wp2
  go_ret
  exact NewI.mk' (l:=[]) rfl rfl Reads.none_ (Nat.le_refl _) (Below.refl _ _) HW1.out
 ·have HLR:=Lib.hid (lit_reads (w.alloc (.cells #[.int .u8 6,.int .u8 bop,.int .i64 d,.int .i64 e,.int .i64 a,.int .i64 b,.int .i64 f,.int .i64 cell,.int .u64 imm,.slice ao nA ac,.int .i64 nx,.int .i64 el] 47)) 3 (i64c [d]) 1 rfl)
  have HWF:Hid (∀ x ∈ [d],I64 x):=Lib.hid (by intro x hx;simp at hx;subst hx;assumption)
  have HW2:Hid (Below w.heap.size w ((w.alloc (.cells #[.int .u8 6,.int .u8 bop,.int .i64 d,.int .i64 e,.int .i64 a,.int .i64 b,.int .i64 f,.int .i64 cell,.int .u64 imm,.slice ao nA ac,.int .i64 nx,.int .i64 el] 47)).alloc (.cells #[.int .i64 d] 3))):=HW1.out.alloc (by simp) _
  have hs2:w.heap.size+1+1≤((w.alloc (.cells #[.int .u8 6,.int .u8 bop,.int .i64 d,.int .i64 e,.int .i64 a,.int .i64 b,.int .i64 f,.int .i64 cell,.int .u64 imm,.slice ao nA ac,.int .i64 nx,.int .i64 el] 47)).alloc (.cells #[.int .i64 d] 3)).heap.size:=by simp
  rw [hz1] at HLR
  go_enter Tryz.func39,Tryz.ntmps39
  go_wp2_with (first | (go_at_call 60;refine (radd_any (w.heap.size+1+1) _ 1 _ [d] _ HLR.out rfl HWF.out hs2 (by omega)).mono ?_;rintro ee w2 ⟨A2,c2,rfl,hr2,hc2,hb2⟩;have HR2:=Lib.hid hr2;have HB2:=Lib.hid hb2;clear hr2 hb2))
  go_ret
  exact NewI.mk' rfl rfl HR2.out hc2 HB2.out HW2.out
 ·have HLR:=Lib.hid (lit_reads (w.alloc (.cells #[.int .u8 7,.int .u8 bop,.int .i64 d,.int .i64 e,.int .i64 a,.int .i64 b,.int .i64 f,.int .i64 cell,.int .u64 imm,.slice ao nA ac,.int .i64 nx,.int .i64 el] 47)) 3 (i64c [d]) 1 rfl)
  have HWF:Hid (∀ x ∈ [d],I64 x):=Lib.hid (by intro x hx;simp at hx;subst hx;assumption)
  have HW2:Hid (Below w.heap.size w ((w.alloc (.cells #[.int .u8 7,.int .u8 bop,.int .i64 d,.int .i64 e,.int .i64 a,.int .i64 b,.int .i64 f,.int .i64 cell,.int .u64 imm,.slice ao nA ac,.int .i64 nx,.int .i64 el] 47)).alloc (.cells #[.int .i64 d] 3))):=HW1.out.alloc (by simp) _
  have hs2:w.heap.size+1+1≤((w.alloc (.cells #[.int .u8 7,.int .u8 bop,.int .i64 d,.int .i64 e,.int .i64 a,.int .i64 b,.int .i64 f,.int .i64 cell,.int .u64 imm,.slice ao nA ac,.int .i64 nx,.int .i64 el] 47)).alloc (.cells #[.int .i64 d] 3)).heap.size:=by simp
  rw [hz1] at HLR
  go_enter Tryz.func39,Tryz.ntmps39
  go_wp2_with (first | (go_at_call 60;refine (radd_any (w.heap.size+1+1) _ 1 _ [d] _ HLR.out rfl HWF.out hs2 (by omega)).mono ?_;rintro ee w2 ⟨A2,c2,rfl,hr2,hc2,hb2⟩;have HR2:=Lib.hid hr2;have HB2:=Lib.hid hb2;clear hr2 hb2))
  go_ret
  exact NewI.mk' rfl rfl HR2.out hc2 HB2.out HW2.out
 ·go_enter Tryz.func39,Tryz.ntmps39
  go_wp2
  go_ret
  exact NewI.mk' (l:=[]) rfl rfl Reads.none_ (Nat.le_refl _) (Below.refl _ _) HW1.out
 ·go_enter Tryz.func39,Tryz.ntmps39
  go_wp2
  go_ret
  exact NewI.mk' (l:=[]) rfl rfl Reads.none_ (Nat.le_refl _) (Below.refl _ _) HW1.out
 ·go_enter Tryz.func39,Tryz.ntmps39
  go_wp2
  go_ret
  exact NewI.mk' (l:=[]) rfl rfl Reads.none_ (Nat.le_refl _) (Below.refl _ _) HW1.out
 ·have HLR:=Lib.hid (lit_reads (w.alloc (.cells #[.int .u8 11,.int .u8 bop,.int .i64 d,.int .i64 e,.int .i64 a,.int .i64 b,.int .i64 f,.int .i64 cell,.int .u64 imm,.slice ao nA ac,.int .i64 nx,.int .i64 el] 47)) 3 (i64c [d]) 1 rfl)
  have HWF:Hid (∀ x ∈ [d],I64 x):=Lib.hid (by intro x hx;simp at hx;subst hx;assumption)
  have HW2:Hid (Below w.heap.size w ((w.alloc (.cells #[.int .u8 11,.int .u8 bop,.int .i64 d,.int .i64 e,.int .i64 a,.int .i64 b,.int .i64 f,.int .i64 cell,.int .u64 imm,.slice ao nA ac,.int .i64 nx,.int .i64 el] 47)).alloc (.cells #[.int .i64 d] 3))):=HW1.out.alloc (by simp) _
  have hs2:w.heap.size+1+1≤((w.alloc (.cells #[.int .u8 11,.int .u8 bop,.int .i64 d,.int .i64 e,.int .i64 a,.int .i64 b,.int .i64 f,.int .i64 cell,.int .u64 imm,.slice ao nA ac,.int .i64 nx,.int .i64 el] 47)).alloc (.cells #[.int .i64 d] 3)).heap.size:=by simp
  rw [hz1] at HLR
  go_enter Tryz.func39,Tryz.ntmps39
  go_wp2_with (first | (go_at_call 60;refine (radd_any (w.heap.size+1+1) _ 1 _ [d] _ HLR.out rfl HWF.out hs2 (by omega)).mono ?_;rintro ee w2 ⟨A2,c2,rfl,hr2,hc2,hb2⟩;have HR2:=Lib.hid hr2;have HB2:=Lib.hid hb2;clear hr2 hb2))
  go_ret
  exact NewI.mk' rfl rfl HR2.out hc2 HB2.out HW2.out
 ·go_enter Tryz.func39,Tryz.ntmps39
  go_wp2
  go_ret
  exact NewI.mk' (l:=[]) rfl rfl Reads.none_ (Nat.le_refl _) (Below.refl _ _) HW1.out
 ·go_enter Tryz.func39,Tryz.ntmps39
  go_wp2
  go_ret
  exact NewI.mk' (l:=[]) rfl rfl Reads.none_ (Nat.le_refl _) (Below.refl _ _) HW1.out
 ·go_enter Tryz.func39,Tryz.ntmps39
  go_wp2
  go_ret
  exact NewI.mk' (l:=[]) rfl rfl Reads.none_ (Nat.le_refl _) (Below.refl _ _) HW1.out
 ·have HLR:=Lib.hid (lit_reads (w.alloc (.cells #[.int .u8 15,.int .u8 bop,.int .i64 d,.int .i64 e,.int .i64 a,.int .i64 b,.int .i64 f,.int .i64 cell,.int .u64 imm,.slice ao nA ac,.int .i64 nx,.int .i64 el] 47)) 3 (i64c [d,e]) 2 rfl)
  have HWF:Hid (∀ x ∈ [d,e],I64 x):=Lib.hid (by intro x hx;simp at hx;rcases hx with rfl | rfl <;> assumption)
  have HW2:Hid (Below w.heap.size w ((w.alloc (.cells #[.int .u8 15,.int .u8 bop,.int .i64 d,.int .i64 e,.int .i64 a,.int .i64 b,.int .i64 f,.int .i64 cell,.int .u64 imm,.slice ao nA ac,.int .i64 nx,.int .i64 el] 47)).alloc (.cells #[.int .i64 d,.int .i64 e] 3))):=HW1.out.alloc (by simp) _
  have hs2:w.heap.size+1+1≤((w.alloc (.cells #[.int .u8 15,.int .u8 bop,.int .i64 d,.int .i64 e,.int .i64 a,.int .i64 b,.int .i64 f,.int .i64 cell,.int .u64 imm,.slice ao nA ac,.int .i64 nx,.int .i64 el] 47)).alloc (.cells #[.int .i64 d,.int .i64 e] 3)).heap.size:=by simp
  rw [hz1] at HLR
  go_enter Tryz.func39,Tryz.ntmps39
  go_wp2_with (first | (go_at_call 60;refine (radd_any (w.heap.size+1+1) _ 2 _ [d,e] _ HLR.out rfl HWF.out hs2 (by omega)).mono ?_;rintro ee w2 ⟨A2,c2,rfl,hr2,hc2,hb2⟩;have HR2:=Lib.hid hr2;have HB2:=Lib.hid hb2;clear hr2 hb2))
  go_ret
  exact NewI.mk' rfl rfl HR2.out hc2 HB2.out HW2.out
 ·have HLR:=Lib.hid (lit_reads (w.alloc (.cells #[.int .u8 16,.int .u8 bop,.int .i64 d,.int .i64 e,.int .i64 a,.int .i64 b,.int .i64 f,.int .i64 cell,.int .u64 imm,.slice ao nA ac,.int .i64 nx,.int .i64 el] 47)) 3 (i64c [d]) 1 rfl)
  have HWF:Hid (∀ x ∈ [d],I64 x):=Lib.hid (by intro x hx;simp at hx;subst hx;assumption)
  have HW2:Hid (Below w.heap.size w ((w.alloc (.cells #[.int .u8 16,.int .u8 bop,.int .i64 d,.int .i64 e,.int .i64 a,.int .i64 b,.int .i64 f,.int .i64 cell,.int .u64 imm,.slice ao nA ac,.int .i64 nx,.int .i64 el] 47)).alloc (.cells #[.int .i64 d] 3))):=HW1.out.alloc (by simp) _
  have hs2:w.heap.size+1+1≤((w.alloc (.cells #[.int .u8 16,.int .u8 bop,.int .i64 d,.int .i64 e,.int .i64 a,.int .i64 b,.int .i64 f,.int .i64 cell,.int .u64 imm,.slice ao nA ac,.int .i64 nx,.int .i64 el] 47)).alloc (.cells #[.int .i64 d] 3)).heap.size:=by simp
  rw [hz1] at HLR
  go_enter Tryz.func39,Tryz.ntmps39
  go_wp2_with (first | (go_at_call 60;refine (radd_any (w.heap.size+1+1) _ 1 _ [d] _ HLR.out rfl HWF.out hs2 (by omega)).mono ?_;rintro ee w2 ⟨A2,c2,rfl,hr2,hc2,hb2⟩;have HR2:=Lib.hid hr2;have HB2:=Lib.hid hb2;clear hr2 hb2))
  go_ret
  exact NewI.mk' rfl rfl HR2.out hc2 HB2.out HW2.out
 ·go_enter Tryz.func39,Tryz.ntmps39
  go_wp2
  go_ret
  exact NewI.mk' (l:=[]) rfl rfl Reads.none_ (Nat.le_refl _) (Below.refl _ _) HW1.out
 ·go_enter Tryz.func39,Tryz.ntmps39
  go_wp2
  go_ret
  exact NewI.mk' (l:=[]) rfl rfl Reads.none_ (Nat.le_refl _) (Below.refl _ _) HW1.out
 ·have hL:writesOf ⟨op,bop,d,e,a,b,f,cell,imm,args,nx,el⟩=[]:=by
   unfold writesOf
   simp only [writeF]
   repeat rw [if_neg (by omega)]
   rfl
  have HLL:=Lib.hid hL
  clear hL
  have g1:(op == 1)=false:=by simp;omega
  have g2:(op == 2)=false:=by simp;omega
  have g3:(op == 3)=false:=by simp;omega
  have g4:(op == 4)=false:=by simp;omega
  have g6:(op == 6)=false:=by simp;omega
  have g7:(op == 7)=false:=by simp;omega
  have g11:(op == 11)=false:=by simp;omega
  have g16:(op == 16)=false:=by simp;omega
  have g15:(op == 15)=false:=by simp;omega
  go_enter Tryz.func39,Tryz.ntmps39
  go_wp2
  go_ret
  exact NewI.mk' HLL.out.symm rfl Reads.none_ (Nat.le_refl _) (Below.refl _ _) HW1.out
theorem eq_len {α:Type} [DecidableEq α] {a b:List α} (h:a.length≠b.length):decide (a=b)=false:=by
 simp only [decide_eq_false_iff_not]
 intro e
 exact h (by rw [e])
theorem eq_at {α:Type} [DecidableEq α] {a b:List α} {k:Nat} {x y:α} (hx:a[k]?=some x) (hy:b[k]?=some y) (h:x≠y):decide (a=b)=false:=by
 simp only [decide_eq_false_iff_not]
 intro e
 rw [e,hy] at hx
 exact h (by simpa using hx.symm)

theorem rsi_any (B:Nat) (ao bo:Option Addr) (n m c d:Nat) (la lb:List Int) (w:World) (ha:Reads w B 1 ao n (i64c la)) (hb:Reads w B 1 bo m (i64c lb)) (hn:la.length=n) (hm:lb.length=m)
  (hnb:n≤140737488351232) (hmb:m≤140737488351232) :
  Calls Tryz.prog 12 #[.slice ao n c,.slice bo m d] w fun e w'=>e=.returned (.bool (decide (la=lb)))∧∃ q,w'=w.drewN q:=by
 have HA:=Lib.hid ha
 have HB:=Lib.hid hb
 have HN:=Lib.hid hn
 have HM:=Lib.hid hm
 clear ha hb hn hm
 by_cases hgt:n≠m
 ·have hr:decide (la=lb)=false:=eq_len (by rw [HN.out,HM.out];exact hgt)
  have HR:=Lib.hid hr
  clear hr
  go_enter Tryz.func12,Tryz.ntmps12
  go_wp2
  go_ret
  exact ⟨by rw [HR.out];rfl,0,rfl⟩
 ·obtain rfl:n=m:=by omega
  clear hgt
  go_enter Tryz.func12,Tryz.ntmps12
  go_wp2
  go_loopw [13] (fun i wr=>∃ k q:Nat,k≤n∧i=.int .i64 k∧Hid (lb.take k=la.take k)∧wr=w.drewN q) (fun i _=>n-(intOf i).toNat)
  case atStart=>exact ⟨0,0,Nat.zero_le _,rfl,rfl,rfl⟩
  case round =>
   obtain ⟨k,q,hk,rfl,HP,rfl⟩:=hrel
   by_cases hlt:k<n
   ·obtain ⟨b1,o1,x,rfl,hb1,HX,x1⟩:=HA.out.int hlt
    obtain ⟨b2,o2,y,rfl,hb2,HY,y1⟩:=HB.out.int hlt
    by_cases hxy:x=y
    ·have hd:(x != y)=false:=by simpa using hxy
     have HXY:=Lib.hid hxy
     clear hxy
     go_wp2
     go_quiet (fail)
     go_wp2
     go_roundw
     case rel=>exact ⟨k+1,q+nq,by omega,by go_num,by show lb.take (k+1)=la.take (k+1);rw [take_at HX.out,take_at HY.out,HP.out,HXY.out],rfl⟩
     case measure=>simp [intOf];omega
    ·have hr:decide (la=lb)=false:=eq_at HX.out HY.out hxy
     have hd:(x != y)=true:=by simpa using hxy
     have HR:=Lib.hid hr
     clear hxy hr
     go_wp2
     go_quiet (fail)
     go_wp2
     go_ret
     exact ⟨by rw [HR.out];rfl,q+nq,World.drewN_drewN _ _ _⟩
   ·obtain rfl:n=k:=by omega
    have hr:decide (la=lb)=true:=by
     have h:=HP.out
     rw [List.take_of_length_le (by rw [HM.out];omega),List.take_of_length_le (by rw [HN.out];omega)] at h
     rw [h];simp
    have HR:=Lib.hid hr
    clear hr
    go_wp2
    go_ret
    exact ⟨by rw [HR.out];rfl,_,rfl⟩
theorem rsk_any (B:Nat) (ao bo:Option Addr) (n m c d:Nat) (la lb:List Int) (w:World) (ha:Reads w B 1 ao n (u8c la)) (hb:Reads w B 1 bo m (u8c lb)) (hn:la.length=n) (hm:lb.length=m)
  (hnb:n≤140737488351232) (hmb:m≤140737488351232) :
  Calls Tryz.prog 19 #[.slice ao n c,.slice bo m d] w fun e w'=>e=.returned (.bool (decide (la=lb)))∧∃ q,w'=w.drewN q:=by
 have HA:=Lib.hid ha
 have HB:=Lib.hid hb
 have HN:=Lib.hid hn
 have HM:=Lib.hid hm
 clear ha hb hn hm
 by_cases hgt:n≠m
 ·have hr:decide (la=lb)=false:=eq_len (by rw [HN.out,HM.out];exact hgt)
  have HR:=Lib.hid hr
  clear hr
  go_enter Tryz.func19,Tryz.ntmps19
  go_wp2
  go_ret
  exact ⟨by rw [HR.out];rfl,0,rfl⟩
 ·obtain rfl:n=m:=by omega
  clear hgt
  go_enter Tryz.func19,Tryz.ntmps19
  go_wp2
  go_loopw [13] (fun i wr=>∃ k q:Nat,k≤n∧i=.int .i64 k∧Hid (lb.take k=la.take k)∧wr=w.drewN q) (fun i _=>n-(intOf i).toNat)
  case atStart=>exact ⟨0,0,Nat.zero_le _,rfl,rfl,rfl⟩
  case round =>
   obtain ⟨k,q,hk,rfl,HP,rfl⟩:=hrel
   by_cases hlt:k<n
   ·obtain ⟨b1,o1,x,rfl,hb1,HX,x1⟩:=HA.out.byte hlt
    obtain ⟨b2,o2,y,rfl,hb2,HY,y1⟩:=HB.out.byte hlt
    by_cases hxy:x=y
    ·have hd:(x != y)=false:=by simpa using hxy
     have HXY:=Lib.hid hxy
     clear hxy
     go_wp2
     go_quiet (fail)
     go_wp2
     go_roundw
     case rel=>exact ⟨k+1,q+nq,by omega,by go_num,by show lb.take (k+1)=la.take (k+1);rw [take_at HX.out,take_at HY.out,HP.out,HXY.out],rfl⟩
     case measure=>simp [intOf];omega
    ·have hr:decide (la=lb)=false:=eq_at HX.out HY.out hxy
     have hd:(x != y)=true:=by simpa using hxy
     have HR:=Lib.hid hr
     clear hxy hr
     go_wp2
     go_quiet (fail)
     go_wp2
     go_ret
     exact ⟨by rw [HR.out];rfl,q+nq,World.drewN_drewN _ _ _⟩
   ·obtain rfl:n=k:=by omega
    have hr:decide (la=lb)=true:=by
     have h:=HP.out
     rw [List.take_of_length_le (by rw [HM.out];omega),List.take_of_length_le (by rw [HN.out];omega)] at h
     rw [h];simp
    have HR:=Lib.hid hr
    clear hr
    go_wp2
    go_ret
    exact ⟨by rw [HR.out];rfl,_,rfl⟩

theorem rsn_any (B:Nat) (op bop d e a b f cell imm:Int) (args:List Int) (nx el:Int) (ao:Option Addr) (nA ac:Nat) (op' bop' d' e' a' b' f' cell' imm':Int) (args':List Int) (nx' el':Int) (ao':Option Addr) (nA' ac':Nat) (w:World)
  (hr:Reads w B 1 ao nA (i64c args)) (hl:args.length=nA) (hb:nA≤140737488351232) (hr':Reads w B 1 ao' nA' (i64c args')) (hl':args'.length=nA') (hb':nA'≤140737488351232) (hB:B≤w.heap.size) :
  Calls Tryz.prog 20 #[.agg #[.int .u8 op,.int .u8 bop,.int .i64 d,.int .i64 e,.int .i64 a,.int .i64 b,.int .i64 f,.int .i64 cell,.int .u64 imm,.slice ao nA ac,.int .i64 nx,.int .i64 el],.agg #[.int .u8 op',.int .u8 bop',.int .i64 d',.int .i64 e',.int .i64 a',.int .i64 b',.int .i64 f',.int .i64 cell',.int .u64 imm',.slice ao' nA' ac',.int .i64 nx',.int .i64 el']] w fun ee w'=>ee=.returned (.bool (decide ((⟨op,bop,d,e,a,b,f,cell,imm,args,nx,el⟩:Nd)=(⟨op',bop',d',e',a',b',f',cell',imm',args',nx',el'⟩:Nd))))∧Below w.heap.size w w':=by
 have HB2:Hid (Below w.heap.size w ((w.alloc (.cells #[.int .u8 op,.int .u8 bop,.int .i64 d,.int .i64 e,.int .i64 a,.int .i64 b,.int .i64 f,.int .i64 cell,.int .u64 imm,.slice ao nA ac,.int .i64 nx,.int .i64 el] 47)).alloc (.cells #[.int .u8 op',.int .u8 bop',.int .i64 d',.int .i64 e',.int .i64 a',.int .i64 b',.int .i64 f',.int .i64 cell',.int .u64 imm',.slice ao' nA' ac',.int .i64 nx',.int .i64 el'] 47))):=((Below.refl _ _).alloc (Nat.le_refl _) _).alloc (by simp) _
 have HR:=Lib.hid (hr.below (HB2.out.mono hB))
 have HR':=Lib.hid (hr'.below (HB2.out.mono hB))
 have HL:=Lib.hid hl
 have HL':=Lib.hid hl'
 clear hr hr' hl hl'
 by_cases c0:op=op'
 rotate_left
 ·have HD:Hid (decide ((⟨op,bop,d,e,a,b,f,cell,imm,args,nx,el⟩:Nd)=(⟨op',bop',d',e',a',b',f',cell',imm',args',nx',el'⟩:Nd))=false):=Lib.hid (decide_eq_false fun h=>c0 (congrArg Nd.op h))
  have g0:(op == op')=false:=by simpa using c0
  clear c0
  go_enter Tryz.func20,Tryz.ntmps20
  go_wp2
  go_ret
  exact ⟨by rw [HD.out];rfl,HB2.out⟩
 have g0:(op == op')=true:=by simpa using c0
 by_cases c1:bop=bop'
 rotate_left
 ·have HD:Hid (decide ((⟨op,bop,d,e,a,b,f,cell,imm,args,nx,el⟩:Nd)=(⟨op',bop',d',e',a',b',f',cell',imm',args',nx',el'⟩:Nd))=false):=Lib.hid (decide_eq_false fun h=>c1 (congrArg Nd.bop h))
  have g1:(bop == bop')=false:=by simpa using c1
  clear c1 c0
  go_enter Tryz.func20,Tryz.ntmps20
  go_wp2
  go_ret
  exact ⟨by rw [HD.out];rfl,HB2.out⟩
 have g1:(bop == bop')=true:=by simpa using c1
 by_cases c2:d=d'
 rotate_left
 ·have HD:Hid (decide ((⟨op,bop,d,e,a,b,f,cell,imm,args,nx,el⟩:Nd)=(⟨op',bop',d',e',a',b',f',cell',imm',args',nx',el'⟩:Nd))=false):=Lib.hid (decide_eq_false fun h=>c2 (congrArg Nd.d h))
  have g2:(d == d')=false:=by simpa using c2
  clear c2 c0 c1
  go_enter Tryz.func20,Tryz.ntmps20
  go_wp2
  go_ret
  exact ⟨by rw [HD.out];rfl,HB2.out⟩
 have g2:(d == d')=true:=by simpa using c2
 by_cases c3:e=e'
 rotate_left
 ·have HD:Hid (decide ((⟨op,bop,d,e,a,b,f,cell,imm,args,nx,el⟩:Nd)=(⟨op',bop',d',e',a',b',f',cell',imm',args',nx',el'⟩:Nd))=false):=Lib.hid (decide_eq_false fun h=>c3 (congrArg Nd.e h))
  have g3:(e == e')=false:=by simpa using c3
  clear c3 c0 c1 c2
  go_enter Tryz.func20,Tryz.ntmps20
  go_wp2
  go_ret
  exact ⟨by rw [HD.out];rfl,HB2.out⟩
 have g3:(e == e')=true:=by simpa using c3
 by_cases c4:a=a'
 rotate_left
 ·have HD:Hid (decide ((⟨op,bop,d,e,a,b,f,cell,imm,args,nx,el⟩:Nd)=(⟨op',bop',d',e',a',b',f',cell',imm',args',nx',el'⟩:Nd))=false):=Lib.hid (decide_eq_false fun h=>c4 (congrArg Nd.a h))
  have g4:(a == a')=false:=by simpa using c4
  clear c4 c0 c1 c2 c3
  go_enter Tryz.func20,Tryz.ntmps20
  go_wp2
  go_ret
  exact ⟨by rw [HD.out];rfl,HB2.out⟩
 have g4:(a == a')=true:=by simpa using c4
 by_cases c5:b=b'
 rotate_left
 ·have HD:Hid (decide ((⟨op,bop,d,e,a,b,f,cell,imm,args,nx,el⟩:Nd)=(⟨op',bop',d',e',a',b',f',cell',imm',args',nx',el'⟩:Nd))=false):=Lib.hid (decide_eq_false fun h=>c5 (congrArg Nd.b h))
  have g5:(b == b')=false:=by simpa using c5
  clear c5 c0 c1 c2 c3 c4
  go_enter Tryz.func20,Tryz.ntmps20
  go_wp2
  go_ret
  exact ⟨by rw [HD.out];rfl,HB2.out⟩
 have g5:(b == b')=true:=by simpa using c5
 by_cases c6:f=f'
 rotate_left
 ·have HD:Hid (decide ((⟨op,bop,d,e,a,b,f,cell,imm,args,nx,el⟩:Nd)=(⟨op',bop',d',e',a',b',f',cell',imm',args',nx',el'⟩:Nd))=false):=Lib.hid (decide_eq_false fun h=>c6 (congrArg Nd.f h))
  have g6:(f == f')=false:=by simpa using c6
  clear c6 c0 c1 c2 c3 c4 c5
  go_enter Tryz.func20,Tryz.ntmps20
  go_wp2
  go_ret
  exact ⟨by rw [HD.out];rfl,HB2.out⟩
 have g6:(f == f')=true:=by simpa using c6
 by_cases c7:cell=cell'
 rotate_left
 ·have HD:Hid (decide ((⟨op,bop,d,e,a,b,f,cell,imm,args,nx,el⟩:Nd)=(⟨op',bop',d',e',a',b',f',cell',imm',args',nx',el'⟩:Nd))=false):=Lib.hid (decide_eq_false fun h=>c7 (congrArg Nd.cell h))
  have g7:(cell == cell')=false:=by simpa using c7
  clear c7 c0 c1 c2 c3 c4 c5 c6
  go_enter Tryz.func20,Tryz.ntmps20
  go_wp2
  go_ret
  exact ⟨by rw [HD.out];rfl,HB2.out⟩
 have g7:(cell == cell')=true:=by simpa using c7
 by_cases c8:imm=imm'
 rotate_left
 ·have HD:Hid (decide ((⟨op,bop,d,e,a,b,f,cell,imm,args,nx,el⟩:Nd)=(⟨op',bop',d',e',a',b',f',cell',imm',args',nx',el'⟩:Nd))=false):=Lib.hid (decide_eq_false fun h=>c8 (congrArg Nd.imm h))
  have g8:(imm == imm')=false:=by simpa using c8
  clear c8 c0 c1 c2 c3 c4 c5 c6 c7
  go_enter Tryz.func20,Tryz.ntmps20
  go_wp2
  go_ret
  exact ⟨by rw [HD.out];rfl,HB2.out⟩
 have g8:(imm == imm')=true:=by simpa using c8
 by_cases c10:nx=nx'
 rotate_left
 ·have HD:Hid (decide ((⟨op,bop,d,e,a,b,f,cell,imm,args,nx,el⟩:Nd)=(⟨op',bop',d',e',a',b',f',cell',imm',args',nx',el'⟩:Nd))=false):=Lib.hid (decide_eq_false fun h=>c10 (congrArg Nd.next h))
  have g10:(nx == nx')=false:=by simpa using c10
  clear c10 c0 c1 c2 c3 c4 c5 c6 c7 c8
  go_enter Tryz.func20,Tryz.ntmps20
  go_wp2
  go_ret
  exact ⟨by rw [HD.out];rfl,HB2.out⟩
 have g10:(nx == nx')=true:=by simpa using c10
 by_cases c11:el=el'
 rotate_left
 ·have HD:Hid (decide ((⟨op,bop,d,e,a,b,f,cell,imm,args,nx,el⟩:Nd)=(⟨op',bop',d',e',a',b',f',cell',imm',args',nx',el'⟩:Nd))=false):=Lib.hid (decide_eq_false fun h=>c11 (congrArg Nd.els h))
  have g11:(el == el')=false:=by simpa using c11
  clear c11 c0 c1 c2 c3 c4 c5 c6 c7 c8 c10
  go_enter Tryz.func20,Tryz.ntmps20
  go_wp2
  go_ret
  exact ⟨by rw [HD.out];rfl,HB2.out⟩
 have g11:(el == el')=true:=by simpa using c11
 by_cases c9:args=args'
 rotate_left
 ·have HD:Hid (decide ((⟨op,bop,d,e,a,b,f,cell,imm,args,nx,el⟩:Nd)=(⟨op',bop',d',e',a',b',f',cell',imm',args',nx',el'⟩:Nd))=false):=Lib.hid (decide_eq_false fun h=>c9 (congrArg Nd.args h))
  have HQ:Hid (decide (args=args')=false):=Lib.hid (decide_eq_false c9)
  clear c9 c0 c1 c2 c3 c4 c5 c6 c7 c8 c10 c11
  go_enter Tryz.func20,Tryz.ntmps20
  go_wp2_with (first | (go_at_call 12;refine (rsi_any B ao ao' nA nA' ac ac' args args' _ HR.out HR'.out HL.out HL'.out hb hb').mono ?_;rintro ee w2 ⟨rfl,q,rfl⟩;rw [HQ.out]))
  go_ret
  exact ⟨by rw [HD.out];rfl,below_drewN HB2.out q⟩
 have HQ:Hid (decide (args=args')=true):=Lib.hid (decide_eq_true c9)
 have HD:Hid (decide ((⟨op,bop,d,e,a,b,f,cell,imm,args,nx,el⟩:Nd)=(⟨op',bop',d',e',a',b',f',cell',imm',args',nx',el'⟩:Nd))=true):=Lib.hid (decide_eq_true (by rw [c0,c1,c2,c3,c4,c5,c6,c7,c8,c9,c10,c11]))
 clear c0 c1 c2 c3 c4 c5 c6 c7 c8 c9 c10 c11
 go_enter Tryz.func20,Tryz.ntmps20
 go_wp2_with (first | (go_at_call 12;refine (rsi_any B ao ao' nA nA' ac ac' args args' _ HR.out HR'.out HL.out HL'.out hb hb').mono ?_;rintro ee w2 ⟨rfl,q,rfl⟩;rw [HQ.out]))
 go_ret
 exact ⟨by rw [HD.out];rfl,below_drewN HB2.out q⟩
theorem take_one {α:Type} {l:List α} {k:Nat} {x:α} (h:l[k]?=some x):l.take (k+1)=l.take k ++ [x]:=by
 rw [List.take_add_one,h];rfl
theorem gr_ext {r s:Gr} (c0:r.params=s.params) (c1:r.kinds=s.kinds) (c2:r.cells=s.cells) (c3:r.init=s.init) (c4:r.result=s.result) (c5:r.keep=s.keep) (c6:r.nodes=s.nodes) (c7:r.entry=s.entry):r=s:=by
 cases r;cases s;simp only [Gr.mk.injEq];exact ⟨c0,c1,c2,c3,c4,c5,c6,c7⟩
end Go.Proofs.YtedmcfaghfgpoaaGreatDoor
