/-
  Texts of one seat, one behind the other: RwN, Cz, Cc.
-/
import Derived.Test.YtedmcfaghfgpoaaGreatDoorMA3
import Derived.Test.YtedmcfaghfgpoaaGreatDoorMA11

set_option linter.unusedVariables false
set_option linter.unusedSimpArgs false
set_option maxRecDepth 100000
set_option maxHeartbeats 51200000
namespace Go.Proofs.YtedmcfaghfgpoaaGreatDoor
open Go.ChangeShapes Go.WideShapes Go.ChangeAt Go.RowKit
theorem gnext_any (op bop d e a b f cell imm:Int) (args:List Int) (nx el:Int) (ao:Option Addr) (nA ac:Nat) (w:World) (ho0:0≤op) (ho1:op≤255) :
  Calls Tryz.prog 69 #[.agg #[.int .u8 op,.int .u8 bop,.int .i64 d,.int .i64 e,.int .i64 a,.int .i64 b,.int .i64 f,.int .i64 cell,.int .u64 imm,.slice ao nA ac,.int .i64 nx,.int .i64 el]] w (NewI w (nextsOf ⟨op,bop,d,e,a,b,f,cell,imm,args,nx,el⟩)):=by
 have HW1:Hid (Below w.heap.size w (w.alloc (.cells #[.int .u8 op,.int .u8 bop,.int .i64 d,.int .i64 e,.int .i64 a,.int .i64 b,.int .i64 f,.int .i64 cell,.int .u64 imm,.slice ao nA ac,.int .i64 nx,.int .i64 el] 47))):=(Below.refl _ _).alloc (Nat.le_refl _) _
 have hz1:(w.alloc (.cells #[.int .u8 op,.int .u8 bop,.int .i64 d,.int .i64 e,.int .i64 a,.int .i64 b,.int .i64 f,.int .i64 cell,.int .u64 imm,.slice ao nA ac,.int .i64 nx,.int .i64 el] 47)).heap.size=w.heap.size+1:=by simp
 rcases op_cases ho0 ho1 with rfl | rfl | rfl | rfl | rfl | rfl | rfl | rfl | rfl | rfl | rfl | rfl | rfl | rfl | rfl | rfl | rfl | rfl | hop
 ·have HLR:=lh (lit_reads (w.alloc (.cells #[.int .u8 1,.int .u8 bop,.int .i64 d,.int .i64 e,.int .i64 a,.int .i64 b,.int .i64 f,.int .i64 cell,.int .u64 imm,.slice ao nA ac,.int .i64 nx,.int .i64 el] 47)) 3 (i64c [nx]) 1 rfl)
  have HW2:Hid (Below w.heap.size w ((w.alloc (.cells #[.int .u8 1,.int .u8 bop,.int .i64 d,.int .i64 e,.int .i64 a,.int .i64 b,.int .i64 f,.int .i64 cell,.int .u64 imm,.slice ao nA ac,.int .i64 nx,.int .i64 el] 47)).alloc (.cells #[.int .i64 nx] 3))):=HW1.out.alloc (by simp) _
  rw [hz1] at HLR
  go_enter Tryz.func69,Tryz.ntmps69
  go_wp2
  go_ret
  exact NewI.mk' (l:=[nx]) rfl rfl (HLR.out.more (by simp)) (Nat.le_refl _) (Below.refl _ _) HW2.out
 ·have HLR:=lh (lit_reads (w.alloc (.cells #[.int .u8 2,.int .u8 bop,.int .i64 d,.int .i64 e,.int .i64 a,.int .i64 b,.int .i64 f,.int .i64 cell,.int .u64 imm,.slice ao nA ac,.int .i64 nx,.int .i64 el] 47)) 3 (i64c [nx]) 1 rfl)
  have HW2:Hid (Below w.heap.size w ((w.alloc (.cells #[.int .u8 2,.int .u8 bop,.int .i64 d,.int .i64 e,.int .i64 a,.int .i64 b,.int .i64 f,.int .i64 cell,.int .u64 imm,.slice ao nA ac,.int .i64 nx,.int .i64 el] 47)).alloc (.cells #[.int .i64 nx] 3))):=HW1.out.alloc (by simp) _
  rw [hz1] at HLR
  go_enter Tryz.func69,Tryz.ntmps69
  go_wp2
  go_ret
  exact NewI.mk' (l:=[nx]) rfl rfl (HLR.out.more (by simp)) (Nat.le_refl _) (Below.refl _ _) HW2.out
 ·have HLR:=lh (lit_reads (w.alloc (.cells #[.int .u8 3,.int .u8 bop,.int .i64 d,.int .i64 e,.int .i64 a,.int .i64 b,.int .i64 f,.int .i64 cell,.int .u64 imm,.slice ao nA ac,.int .i64 nx,.int .i64 el] 47)) 3 (i64c [nx]) 1 rfl)
  have HW2:Hid (Below w.heap.size w ((w.alloc (.cells #[.int .u8 3,.int .u8 bop,.int .i64 d,.int .i64 e,.int .i64 a,.int .i64 b,.int .i64 f,.int .i64 cell,.int .u64 imm,.slice ao nA ac,.int .i64 nx,.int .i64 el] 47)).alloc (.cells #[.int .i64 nx] 3))):=HW1.out.alloc (by simp) _
  rw [hz1] at HLR
  go_enter Tryz.func69,Tryz.ntmps69
  go_wp2
  go_ret
  exact NewI.mk' (l:=[nx]) rfl rfl (HLR.out.more (by simp)) (Nat.le_refl _) (Below.refl _ _) HW2.out
 ·have HLR:=lh (lit_reads (w.alloc (.cells #[.int .u8 4,.int .u8 bop,.int .i64 d,.int .i64 e,.int .i64 a,.int .i64 b,.int .i64 f,.int .i64 cell,.int .u64 imm,.slice ao nA ac,.int .i64 nx,.int .i64 el] 47)) 3 (i64c [nx]) 1 rfl)
  have HW2:Hid (Below w.heap.size w ((w.alloc (.cells #[.int .u8 4,.int .u8 bop,.int .i64 d,.int .i64 e,.int .i64 a,.int .i64 b,.int .i64 f,.int .i64 cell,.int .u64 imm,.slice ao nA ac,.int .i64 nx,.int .i64 el] 47)).alloc (.cells #[.int .i64 nx] 3))):=HW1.out.alloc (by simp) _
  rw [hz1] at HLR
  go_enter Tryz.func69,Tryz.ntmps69
  go_wp2
  go_ret
  exact NewI.mk' (l:=[nx]) rfl rfl (HLR.out.more (by simp)) (Nat.le_refl _) (Below.refl _ _) HW2.out
 ·have HLR:=lh (lit_reads (w.alloc (.cells #[.int .u8 5,.int .u8 bop,.int .i64 d,.int .i64 e,.int .i64 a,.int .i64 b,.int .i64 f,.int .i64 cell,.int .u64 imm,.slice ao nA ac,.int .i64 nx,.int .i64 el] 47)) 3 (i64c [nx]) 1 rfl)
  have HW2:Hid (Below w.heap.size w ((w.alloc (.cells #[.int .u8 5,.int .u8 bop,.int .i64 d,.int .i64 e,.int .i64 a,.int .i64 b,.int .i64 f,.int .i64 cell,.int .u64 imm,.slice ao nA ac,.int .i64 nx,.int .i64 el] 47)).alloc (.cells #[.int .i64 nx] 3))):=HW1.out.alloc (by simp) _
  rw [hz1] at HLR
  go_enter Tryz.func69,Tryz.ntmps69
  go_wp2
  go_ret
  exact NewI.mk' (l:=[nx]) rfl rfl (HLR.out.more (by simp)) (Nat.le_refl _) (Below.refl _ _) HW2.out
 ·have HLR:=lh (lit_reads (w.alloc (.cells #[.int .u8 6,.int .u8 bop,.int .i64 d,.int .i64 e,.int .i64 a,.int .i64 b,.int .i64 f,.int .i64 cell,.int .u64 imm,.slice ao nA ac,.int .i64 nx,.int .i64 el] 47)) 3 (i64c [nx]) 1 rfl)
  have HW2:Hid (Below w.heap.size w ((w.alloc (.cells #[.int .u8 6,.int .u8 bop,.int .i64 d,.int .i64 e,.int .i64 a,.int .i64 b,.int .i64 f,.int .i64 cell,.int .u64 imm,.slice ao nA ac,.int .i64 nx,.int .i64 el] 47)).alloc (.cells #[.int .i64 nx] 3))):=HW1.out.alloc (by simp) _
  rw [hz1] at HLR
  go_enter Tryz.func69,Tryz.ntmps69
  go_wp2
  go_ret
  exact NewI.mk' (l:=[nx]) rfl rfl (HLR.out.more (by simp)) (Nat.le_refl _) (Below.refl _ _) HW2.out
 ·have HLR:=lh (lit_reads (w.alloc (.cells #[.int .u8 7,.int .u8 bop,.int .i64 d,.int .i64 e,.int .i64 a,.int .i64 b,.int .i64 f,.int .i64 cell,.int .u64 imm,.slice ao nA ac,.int .i64 nx,.int .i64 el] 47)) 3 (i64c [nx]) 1 rfl)
  have HW2:Hid (Below w.heap.size w ((w.alloc (.cells #[.int .u8 7,.int .u8 bop,.int .i64 d,.int .i64 e,.int .i64 a,.int .i64 b,.int .i64 f,.int .i64 cell,.int .u64 imm,.slice ao nA ac,.int .i64 nx,.int .i64 el] 47)).alloc (.cells #[.int .i64 nx] 3))):=HW1.out.alloc (by simp) _
  rw [hz1] at HLR
  go_enter Tryz.func69,Tryz.ntmps69
  go_wp2
  go_ret
  exact NewI.mk' (l:=[nx]) rfl rfl (HLR.out.more (by simp)) (Nat.le_refl _) (Below.refl _ _) HW2.out
 ·have HLR:=lh (lit_reads (w.alloc (.cells #[.int .u8 8,.int .u8 bop,.int .i64 d,.int .i64 e,.int .i64 a,.int .i64 b,.int .i64 f,.int .i64 cell,.int .u64 imm,.slice ao nA ac,.int .i64 nx,.int .i64 el] 47)) 3 (i64c [nx]) 1 rfl)
  have HW2:Hid (Below w.heap.size w ((w.alloc (.cells #[.int .u8 8,.int .u8 bop,.int .i64 d,.int .i64 e,.int .i64 a,.int .i64 b,.int .i64 f,.int .i64 cell,.int .u64 imm,.slice ao nA ac,.int .i64 nx,.int .i64 el] 47)).alloc (.cells #[.int .i64 nx] 3))):=HW1.out.alloc (by simp) _
  rw [hz1] at HLR
  go_enter Tryz.func69,Tryz.ntmps69
  go_wp2
  go_ret
  exact NewI.mk' (l:=[nx]) rfl rfl (HLR.out.more (by simp)) (Nat.le_refl _) (Below.refl _ _) HW2.out
 ·by_cases hne:el=nx
  ·have hg:(el != nx)=false:=by simpa using hne
   have HE:=lh hne
   clear hne
   have HLR:=lh (lit_reads (w.alloc (.cells #[.int .u8 9,.int .u8 bop,.int .i64 d,.int .i64 e,.int .i64 a,.int .i64 b,.int .i64 f,.int .i64 cell,.int .u64 imm,.slice ao nA ac,.int .i64 nx,.int .i64 el] 47)) 3 (i64c [nx]) 1 rfl)
   have HW2:Hid (Below w.heap.size w ((w.alloc (.cells #[.int .u8 9,.int .u8 bop,.int .i64 d,.int .i64 e,.int .i64 a,.int .i64 b,.int .i64 f,.int .i64 cell,.int .u64 imm,.slice ao nA ac,.int .i64 nx,.int .i64 el] 47)).alloc (.cells #[.int .i64 nx] 3))):=HW1.out.alloc (by simp) _
   rw [hz1] at HLR
   go_enter Tryz.func69,Tryz.ntmps69
   go_wp2
   go_ret
   exact NewI.mk' (l:=[nx]) (by unfold nextsOf;simp [HE.out]) rfl (HLR.out.more (by simp)) (Nat.le_refl _) (Below.refl _ _) HW2.out
  ·have hg:(el != nx)=true:=by simpa using hne
   have HE:=lh hne
   clear hne
   have HLR:=lh (lit_reads (w.alloc (.cells #[.int .u8 9,.int .u8 bop,.int .i64 d,.int .i64 e,.int .i64 a,.int .i64 b,.int .i64 f,.int .i64 cell,.int .u64 imm,.slice ao nA ac,.int .i64 nx,.int .i64 el] 47)) 3 (i64c [nx,el]) 2 rfl)
   have HW2:Hid (Below w.heap.size w ((w.alloc (.cells #[.int .u8 9,.int .u8 bop,.int .i64 d,.int .i64 e,.int .i64 a,.int .i64 b,.int .i64 f,.int .i64 cell,.int .u64 imm,.slice ao nA ac,.int .i64 nx,.int .i64 el] 47)).alloc (.cells #[.int .i64 nx,.int .i64 el] 3))):=HW1.out.alloc (by simp) _
   rw [hz1] at HLR
   go_enter Tryz.func69,Tryz.ntmps69
   go_wp2
   go_ret
   exact NewI.mk' (l:=[nx,el]) (by unfold nextsOf;simp [HE.out]) rfl (HLR.out.more (by simp)) (Nat.le_refl _) (Below.refl _ _) HW2.out
 ·have HLR:=lh (lit_reads (w.alloc (.cells #[.int .u8 10,.int .u8 bop,.int .i64 d,.int .i64 e,.int .i64 a,.int .i64 b,.int .i64 f,.int .i64 cell,.int .u64 imm,.slice ao nA ac,.int .i64 nx,.int .i64 el] 47)) 3 (i64c [nx]) 1 rfl)
  have HW2:Hid (Below w.heap.size w ((w.alloc (.cells #[.int .u8 10,.int .u8 bop,.int .i64 d,.int .i64 e,.int .i64 a,.int .i64 b,.int .i64 f,.int .i64 cell,.int .u64 imm,.slice ao nA ac,.int .i64 nx,.int .i64 el] 47)).alloc (.cells #[.int .i64 nx] 3))):=HW1.out.alloc (by simp) _
  rw [hz1] at HLR
  go_enter Tryz.func69,Tryz.ntmps69
  go_wp2
  go_ret
  exact NewI.mk' (l:=[nx]) rfl rfl (HLR.out.more (by simp)) (Nat.le_refl _) (Below.refl _ _) HW2.out
 ·have HLR:=lh (lit_reads (w.alloc (.cells #[.int .u8 11,.int .u8 bop,.int .i64 d,.int .i64 e,.int .i64 a,.int .i64 b,.int .i64 f,.int .i64 cell,.int .u64 imm,.slice ao nA ac,.int .i64 nx,.int .i64 el] 47)) 3 (i64c [nx]) 1 rfl)
  have HW2:Hid (Below w.heap.size w ((w.alloc (.cells #[.int .u8 11,.int .u8 bop,.int .i64 d,.int .i64 e,.int .i64 a,.int .i64 b,.int .i64 f,.int .i64 cell,.int .u64 imm,.slice ao nA ac,.int .i64 nx,.int .i64 el] 47)).alloc (.cells #[.int .i64 nx] 3))):=HW1.out.alloc (by simp) _
  rw [hz1] at HLR
  go_enter Tryz.func69,Tryz.ntmps69
  go_wp2
  go_ret
  exact NewI.mk' (l:=[nx]) rfl rfl (HLR.out.more (by simp)) (Nat.le_refl _) (Below.refl _ _) HW2.out
 ·go_enter Tryz.func69,Tryz.ntmps69
  go_wp2
  go_ret
  exact NewI.mk' (l:=[]) rfl rfl Reads.none_ (Nat.le_refl _) (Below.refl _ _) HW1.out
 ·have HLR:=lh (lit_reads (w.alloc (.cells #[.int .u8 13,.int .u8 bop,.int .i64 d,.int .i64 e,.int .i64 a,.int .i64 b,.int .i64 f,.int .i64 cell,.int .u64 imm,.slice ao nA ac,.int .i64 nx,.int .i64 el] 47)) 3 (i64c [nx]) 1 rfl)
  have HW2:Hid (Below w.heap.size w ((w.alloc (.cells #[.int .u8 13,.int .u8 bop,.int .i64 d,.int .i64 e,.int .i64 a,.int .i64 b,.int .i64 f,.int .i64 cell,.int .u64 imm,.slice ao nA ac,.int .i64 nx,.int .i64 el] 47)).alloc (.cells #[.int .i64 nx] 3))):=HW1.out.alloc (by simp) _
  rw [hz1] at HLR
  go_enter Tryz.func69,Tryz.ntmps69
  go_wp2
  go_ret
  exact NewI.mk' (l:=[nx]) rfl rfl (HLR.out.more (by simp)) (Nat.le_refl _) (Below.refl _ _) HW2.out
 ·go_enter Tryz.func69,Tryz.ntmps69
  go_wp2
  go_ret
  exact NewI.mk' (l:=[]) rfl rfl Reads.none_ (Nat.le_refl _) (Below.refl _ _) HW1.out
 ·have HLR:=lh (lit_reads (w.alloc (.cells #[.int .u8 15,.int .u8 bop,.int .i64 d,.int .i64 e,.int .i64 a,.int .i64 b,.int .i64 f,.int .i64 cell,.int .u64 imm,.slice ao nA ac,.int .i64 nx,.int .i64 el] 47)) 3 (i64c [nx]) 1 rfl)
  have HW2:Hid (Below w.heap.size w ((w.alloc (.cells #[.int .u8 15,.int .u8 bop,.int .i64 d,.int .i64 e,.int .i64 a,.int .i64 b,.int .i64 f,.int .i64 cell,.int .u64 imm,.slice ao nA ac,.int .i64 nx,.int .i64 el] 47)).alloc (.cells #[.int .i64 nx] 3))):=HW1.out.alloc (by simp) _
  rw [hz1] at HLR
  go_enter Tryz.func69,Tryz.ntmps69
  go_wp2
  go_ret
  exact NewI.mk' (l:=[nx]) rfl rfl (HLR.out.more (by simp)) (Nat.le_refl _) (Below.refl _ _) HW2.out
 ·have HLR:=lh (lit_reads (w.alloc (.cells #[.int .u8 16,.int .u8 bop,.int .i64 d,.int .i64 e,.int .i64 a,.int .i64 b,.int .i64 f,.int .i64 cell,.int .u64 imm,.slice ao nA ac,.int .i64 nx,.int .i64 el] 47)) 3 (i64c [nx]) 1 rfl)
  have HW2:Hid (Below w.heap.size w ((w.alloc (.cells #[.int .u8 16,.int .u8 bop,.int .i64 d,.int .i64 e,.int .i64 a,.int .i64 b,.int .i64 f,.int .i64 cell,.int .u64 imm,.slice ao nA ac,.int .i64 nx,.int .i64 el] 47)).alloc (.cells #[.int .i64 nx] 3))):=HW1.out.alloc (by simp) _
  rw [hz1] at HLR
  go_enter Tryz.func69,Tryz.ntmps69
  go_wp2
  go_ret
  exact NewI.mk' (l:=[nx]) rfl rfl (HLR.out.more (by simp)) (Nat.le_refl _) (Below.refl _ _) HW2.out
 ·have HLR:=lh (lit_reads (w.alloc (.cells #[.int .u8 17,.int .u8 bop,.int .i64 d,.int .i64 e,.int .i64 a,.int .i64 b,.int .i64 f,.int .i64 cell,.int .u64 imm,.slice ao nA ac,.int .i64 nx,.int .i64 el] 47)) 3 (i64c [nx]) 1 rfl)
  have HW2:Hid (Below w.heap.size w ((w.alloc (.cells #[.int .u8 17,.int .u8 bop,.int .i64 d,.int .i64 e,.int .i64 a,.int .i64 b,.int .i64 f,.int .i64 cell,.int .u64 imm,.slice ao nA ac,.int .i64 nx,.int .i64 el] 47)).alloc (.cells #[.int .i64 nx] 3))):=HW1.out.alloc (by simp) _
  rw [hz1] at HLR
  go_enter Tryz.func69,Tryz.ntmps69
  go_wp2
  go_ret
  exact NewI.mk' (l:=[nx]) rfl rfl (HLR.out.more (by simp)) (Nat.le_refl _) (Below.refl _ _) HW2.out
 ·go_enter Tryz.func69,Tryz.ntmps69
  go_wp2
  go_ret
  exact NewI.mk' (l:=[]) rfl rfl Reads.none_ (Nat.le_refl _) (Below.refl _ _) HW1.out
 ·have HLL:Hid (nextsOf ⟨op,bop,d,e,a,b,f,cell,imm,args,nx,el⟩=[]):=lh (by unfold nextsOf;rw [if_pos];show op<1∨18<op∨op=12∨op=14∨op=18;omega)
  have g12:(op == 12)=false:=by simp;omega
  have g14:(op == 14)=false:=by simp;omega
  have g18:(op == 18)=false:=by simp;omega
  have g9:(op == 9)=false:=by simp;omega
  have q1:decide (op≥1)=true∧decide (op≤18)=false∨decide (op≥1)=false:=by simp;omega
  have q2:decide (op<1)=true∨decide (op<1)=false∧decide (op > 18)=true:=by simp;omega
  rcases q1 with ⟨q1,q1'⟩ | q1 <;> rcases q2 with q2 | ⟨q2,q2'⟩
  all_goals
   go_enter Tryz.func69,Tryz.ntmps69
   go_wp2
   go_ret
   exact NewI.mk' HLL.out.symm rfl Reads.none_ (Nat.le_refl _) (Below.refl _ _) HW1.out

theorem rnext_any (op bop d e a b f cell imm:Int) (args:List Int) (nx el:Int) (ao:Option Addr) (nA ac:Nat) (w:World) (ho0:0≤op) (ho1:op≤255) :
  Calls Tryz.prog 33 #[.agg #[.int .u8 op,.int .u8 bop,.int .i64 d,.int .i64 e,.int .i64 a,.int .i64 b,.int .i64 f,.int .i64 cell,.int .u64 imm,.slice ao nA ac,.int .i64 nx,.int .i64 el]] w (NewI w (nextsOf ⟨op,bop,d,e,a,b,f,cell,imm,args,nx,el⟩)):=by
 have HW1:Hid (Below w.heap.size w (w.alloc (.cells #[.int .u8 op,.int .u8 bop,.int .i64 d,.int .i64 e,.int .i64 a,.int .i64 b,.int .i64 f,.int .i64 cell,.int .u64 imm,.slice ao nA ac,.int .i64 nx,.int .i64 el] 47))):=(Below.refl _ _).alloc (Nat.le_refl _) _
 have hz1:(w.alloc (.cells #[.int .u8 op,.int .u8 bop,.int .i64 d,.int .i64 e,.int .i64 a,.int .i64 b,.int .i64 f,.int .i64 cell,.int .u64 imm,.slice ao nA ac,.int .i64 nx,.int .i64 el] 47)).heap.size=w.heap.size+1:=by simp
 rcases op_cases ho0 ho1 with rfl | rfl | rfl | rfl | rfl | rfl | rfl | rfl | rfl | rfl | rfl | rfl | rfl | rfl | rfl | rfl | rfl | rfl | hop
 ·have HLR:=lh (lit_reads (w.alloc (.cells #[.int .u8 1,.int .u8 bop,.int .i64 d,.int .i64 e,.int .i64 a,.int .i64 b,.int .i64 f,.int .i64 cell,.int .u64 imm,.slice ao nA ac,.int .i64 nx,.int .i64 el] 47)) 3 (i64c [nx]) 1 rfl)
  have HW2:Hid (Below w.heap.size w ((w.alloc (.cells #[.int .u8 1,.int .u8 bop,.int .i64 d,.int .i64 e,.int .i64 a,.int .i64 b,.int .i64 f,.int .i64 cell,.int .u64 imm,.slice ao nA ac,.int .i64 nx,.int .i64 el] 47)).alloc (.cells #[.int .i64 nx] 3))):=HW1.out.alloc (by simp) _
  rw [hz1] at HLR
  go_enter Tryz.func33,Tryz.ntmps33
  go_wp2
  go_ret
  exact NewI.mk' (l:=[nx]) rfl rfl (HLR.out.more (by simp)) (Nat.le_refl _) (Below.refl _ _) HW2.out
 ·have HLR:=lh (lit_reads (w.alloc (.cells #[.int .u8 2,.int .u8 bop,.int .i64 d,.int .i64 e,.int .i64 a,.int .i64 b,.int .i64 f,.int .i64 cell,.int .u64 imm,.slice ao nA ac,.int .i64 nx,.int .i64 el] 47)) 3 (i64c [nx]) 1 rfl)
  have HW2:Hid (Below w.heap.size w ((w.alloc (.cells #[.int .u8 2,.int .u8 bop,.int .i64 d,.int .i64 e,.int .i64 a,.int .i64 b,.int .i64 f,.int .i64 cell,.int .u64 imm,.slice ao nA ac,.int .i64 nx,.int .i64 el] 47)).alloc (.cells #[.int .i64 nx] 3))):=HW1.out.alloc (by simp) _
  rw [hz1] at HLR
  go_enter Tryz.func33,Tryz.ntmps33
  go_wp2
  go_ret
  exact NewI.mk' (l:=[nx]) rfl rfl (HLR.out.more (by simp)) (Nat.le_refl _) (Below.refl _ _) HW2.out
 ·have HLR:=lh (lit_reads (w.alloc (.cells #[.int .u8 3,.int .u8 bop,.int .i64 d,.int .i64 e,.int .i64 a,.int .i64 b,.int .i64 f,.int .i64 cell,.int .u64 imm,.slice ao nA ac,.int .i64 nx,.int .i64 el] 47)) 3 (i64c [nx]) 1 rfl)
  have HW2:Hid (Below w.heap.size w ((w.alloc (.cells #[.int .u8 3,.int .u8 bop,.int .i64 d,.int .i64 e,.int .i64 a,.int .i64 b,.int .i64 f,.int .i64 cell,.int .u64 imm,.slice ao nA ac,.int .i64 nx,.int .i64 el] 47)).alloc (.cells #[.int .i64 nx] 3))):=HW1.out.alloc (by simp) _
  rw [hz1] at HLR
  go_enter Tryz.func33,Tryz.ntmps33
  go_wp2
  go_ret
  exact NewI.mk' (l:=[nx]) rfl rfl (HLR.out.more (by simp)) (Nat.le_refl _) (Below.refl _ _) HW2.out
 ·have HLR:=lh (lit_reads (w.alloc (.cells #[.int .u8 4,.int .u8 bop,.int .i64 d,.int .i64 e,.int .i64 a,.int .i64 b,.int .i64 f,.int .i64 cell,.int .u64 imm,.slice ao nA ac,.int .i64 nx,.int .i64 el] 47)) 3 (i64c [nx]) 1 rfl)
  have HW2:Hid (Below w.heap.size w ((w.alloc (.cells #[.int .u8 4,.int .u8 bop,.int .i64 d,.int .i64 e,.int .i64 a,.int .i64 b,.int .i64 f,.int .i64 cell,.int .u64 imm,.slice ao nA ac,.int .i64 nx,.int .i64 el] 47)).alloc (.cells #[.int .i64 nx] 3))):=HW1.out.alloc (by simp) _
  rw [hz1] at HLR
  go_enter Tryz.func33,Tryz.ntmps33
  go_wp2
  go_ret
  exact NewI.mk' (l:=[nx]) rfl rfl (HLR.out.more (by simp)) (Nat.le_refl _) (Below.refl _ _) HW2.out
 ·have HLR:=lh (lit_reads (w.alloc (.cells #[.int .u8 5,.int .u8 bop,.int .i64 d,.int .i64 e,.int .i64 a,.int .i64 b,.int .i64 f,.int .i64 cell,.int .u64 imm,.slice ao nA ac,.int .i64 nx,.int .i64 el] 47)) 3 (i64c [nx]) 1 rfl)
  have HW2:Hid (Below w.heap.size w ((w.alloc (.cells #[.int .u8 5,.int .u8 bop,.int .i64 d,.int .i64 e,.int .i64 a,.int .i64 b,.int .i64 f,.int .i64 cell,.int .u64 imm,.slice ao nA ac,.int .i64 nx,.int .i64 el] 47)).alloc (.cells #[.int .i64 nx] 3))):=HW1.out.alloc (by simp) _
  rw [hz1] at HLR
  go_enter Tryz.func33,Tryz.ntmps33
  go_wp2
  go_ret
  exact NewI.mk' (l:=[nx]) rfl rfl (HLR.out.more (by simp)) (Nat.le_refl _) (Below.refl _ _) HW2.out
 ·have HLR:=lh (lit_reads (w.alloc (.cells #[.int .u8 6,.int .u8 bop,.int .i64 d,.int .i64 e,.int .i64 a,.int .i64 b,.int .i64 f,.int .i64 cell,.int .u64 imm,.slice ao nA ac,.int .i64 nx,.int .i64 el] 47)) 3 (i64c [nx]) 1 rfl)
  have HW2:Hid (Below w.heap.size w ((w.alloc (.cells #[.int .u8 6,.int .u8 bop,.int .i64 d,.int .i64 e,.int .i64 a,.int .i64 b,.int .i64 f,.int .i64 cell,.int .u64 imm,.slice ao nA ac,.int .i64 nx,.int .i64 el] 47)).alloc (.cells #[.int .i64 nx] 3))):=HW1.out.alloc (by simp) _
  rw [hz1] at HLR
  go_enter Tryz.func33,Tryz.ntmps33
  go_wp2
  go_ret
  exact NewI.mk' (l:=[nx]) rfl rfl (HLR.out.more (by simp)) (Nat.le_refl _) (Below.refl _ _) HW2.out
 ·have HLR:=lh (lit_reads (w.alloc (.cells #[.int .u8 7,.int .u8 bop,.int .i64 d,.int .i64 e,.int .i64 a,.int .i64 b,.int .i64 f,.int .i64 cell,.int .u64 imm,.slice ao nA ac,.int .i64 nx,.int .i64 el] 47)) 3 (i64c [nx]) 1 rfl)
  have HW2:Hid (Below w.heap.size w ((w.alloc (.cells #[.int .u8 7,.int .u8 bop,.int .i64 d,.int .i64 e,.int .i64 a,.int .i64 b,.int .i64 f,.int .i64 cell,.int .u64 imm,.slice ao nA ac,.int .i64 nx,.int .i64 el] 47)).alloc (.cells #[.int .i64 nx] 3))):=HW1.out.alloc (by simp) _
  rw [hz1] at HLR
  go_enter Tryz.func33,Tryz.ntmps33
  go_wp2
  go_ret
  exact NewI.mk' (l:=[nx]) rfl rfl (HLR.out.more (by simp)) (Nat.le_refl _) (Below.refl _ _) HW2.out
 ·have HLR:=lh (lit_reads (w.alloc (.cells #[.int .u8 8,.int .u8 bop,.int .i64 d,.int .i64 e,.int .i64 a,.int .i64 b,.int .i64 f,.int .i64 cell,.int .u64 imm,.slice ao nA ac,.int .i64 nx,.int .i64 el] 47)) 3 (i64c [nx]) 1 rfl)
  have HW2:Hid (Below w.heap.size w ((w.alloc (.cells #[.int .u8 8,.int .u8 bop,.int .i64 d,.int .i64 e,.int .i64 a,.int .i64 b,.int .i64 f,.int .i64 cell,.int .u64 imm,.slice ao nA ac,.int .i64 nx,.int .i64 el] 47)).alloc (.cells #[.int .i64 nx] 3))):=HW1.out.alloc (by simp) _
  rw [hz1] at HLR
  go_enter Tryz.func33,Tryz.ntmps33
  go_wp2
  go_ret
  exact NewI.mk' (l:=[nx]) rfl rfl (HLR.out.more (by simp)) (Nat.le_refl _) (Below.refl _ _) HW2.out
 ·by_cases hne:el=nx
  ·have hg:(el != nx)=false:=by simpa using hne
   have HE:=lh hne
   clear hne
   have HLR:=lh (lit_reads (w.alloc (.cells #[.int .u8 9,.int .u8 bop,.int .i64 d,.int .i64 e,.int .i64 a,.int .i64 b,.int .i64 f,.int .i64 cell,.int .u64 imm,.slice ao nA ac,.int .i64 nx,.int .i64 el] 47)) 3 (i64c [nx]) 1 rfl)
   have HW2:Hid (Below w.heap.size w ((w.alloc (.cells #[.int .u8 9,.int .u8 bop,.int .i64 d,.int .i64 e,.int .i64 a,.int .i64 b,.int .i64 f,.int .i64 cell,.int .u64 imm,.slice ao nA ac,.int .i64 nx,.int .i64 el] 47)).alloc (.cells #[.int .i64 nx] 3))):=HW1.out.alloc (by simp) _
   rw [hz1] at HLR
   go_enter Tryz.func33,Tryz.ntmps33
   go_wp2
   go_ret
   exact NewI.mk' (l:=[nx]) (by unfold nextsOf;simp [HE.out]) rfl (HLR.out.more (by simp)) (Nat.le_refl _) (Below.refl _ _) HW2.out
  ·have hg:(el != nx)=true:=by simpa using hne
   have HE:=lh hne
   clear hne
   have HLR:=lh (lit_reads (w.alloc (.cells #[.int .u8 9,.int .u8 bop,.int .i64 d,.int .i64 e,.int .i64 a,.int .i64 b,.int .i64 f,.int .i64 cell,.int .u64 imm,.slice ao nA ac,.int .i64 nx,.int .i64 el] 47)) 3 (i64c [nx,el]) 2 rfl)
   have HW2:Hid (Below w.heap.size w ((w.alloc (.cells #[.int .u8 9,.int .u8 bop,.int .i64 d,.int .i64 e,.int .i64 a,.int .i64 b,.int .i64 f,.int .i64 cell,.int .u64 imm,.slice ao nA ac,.int .i64 nx,.int .i64 el] 47)).alloc (.cells #[.int .i64 nx,.int .i64 el] 3))):=HW1.out.alloc (by simp) _
   rw [hz1] at HLR
   go_enter Tryz.func33,Tryz.ntmps33
   go_wp2
   go_ret
   exact NewI.mk' (l:=[nx,el]) (by unfold nextsOf;simp [HE.out]) rfl (HLR.out.more (by simp)) (Nat.le_refl _) (Below.refl _ _) HW2.out
 ·have HLR:=lh (lit_reads (w.alloc (.cells #[.int .u8 10,.int .u8 bop,.int .i64 d,.int .i64 e,.int .i64 a,.int .i64 b,.int .i64 f,.int .i64 cell,.int .u64 imm,.slice ao nA ac,.int .i64 nx,.int .i64 el] 47)) 3 (i64c [nx]) 1 rfl)
  have HW2:Hid (Below w.heap.size w ((w.alloc (.cells #[.int .u8 10,.int .u8 bop,.int .i64 d,.int .i64 e,.int .i64 a,.int .i64 b,.int .i64 f,.int .i64 cell,.int .u64 imm,.slice ao nA ac,.int .i64 nx,.int .i64 el] 47)).alloc (.cells #[.int .i64 nx] 3))):=HW1.out.alloc (by simp) _
  rw [hz1] at HLR
  go_enter Tryz.func33,Tryz.ntmps33
  go_wp2
  go_ret
  exact NewI.mk' (l:=[nx]) rfl rfl (HLR.out.more (by simp)) (Nat.le_refl _) (Below.refl _ _) HW2.out
 ·have HLR:=lh (lit_reads (w.alloc (.cells #[.int .u8 11,.int .u8 bop,.int .i64 d,.int .i64 e,.int .i64 a,.int .i64 b,.int .i64 f,.int .i64 cell,.int .u64 imm,.slice ao nA ac,.int .i64 nx,.int .i64 el] 47)) 3 (i64c [nx]) 1 rfl)
  have HW2:Hid (Below w.heap.size w ((w.alloc (.cells #[.int .u8 11,.int .u8 bop,.int .i64 d,.int .i64 e,.int .i64 a,.int .i64 b,.int .i64 f,.int .i64 cell,.int .u64 imm,.slice ao nA ac,.int .i64 nx,.int .i64 el] 47)).alloc (.cells #[.int .i64 nx] 3))):=HW1.out.alloc (by simp) _
  rw [hz1] at HLR
  go_enter Tryz.func33,Tryz.ntmps33
  go_wp2
  go_ret
  exact NewI.mk' (l:=[nx]) rfl rfl (HLR.out.more (by simp)) (Nat.le_refl _) (Below.refl _ _) HW2.out
 ·go_enter Tryz.func33,Tryz.ntmps33
  go_wp2
  go_ret
  exact NewI.mk' (l:=[]) rfl rfl Reads.none_ (Nat.le_refl _) (Below.refl _ _) HW1.out
 ·have HLR:=lh (lit_reads (w.alloc (.cells #[.int .u8 13,.int .u8 bop,.int .i64 d,.int .i64 e,.int .i64 a,.int .i64 b,.int .i64 f,.int .i64 cell,.int .u64 imm,.slice ao nA ac,.int .i64 nx,.int .i64 el] 47)) 3 (i64c [nx]) 1 rfl)
  have HW2:Hid (Below w.heap.size w ((w.alloc (.cells #[.int .u8 13,.int .u8 bop,.int .i64 d,.int .i64 e,.int .i64 a,.int .i64 b,.int .i64 f,.int .i64 cell,.int .u64 imm,.slice ao nA ac,.int .i64 nx,.int .i64 el] 47)).alloc (.cells #[.int .i64 nx] 3))):=HW1.out.alloc (by simp) _
  rw [hz1] at HLR
  go_enter Tryz.func33,Tryz.ntmps33
  go_wp2
  go_ret
  exact NewI.mk' (l:=[nx]) rfl rfl (HLR.out.more (by simp)) (Nat.le_refl _) (Below.refl _ _) HW2.out
 ·go_enter Tryz.func33,Tryz.ntmps33
  go_wp2
  go_ret
  exact NewI.mk' (l:=[]) rfl rfl Reads.none_ (Nat.le_refl _) (Below.refl _ _) HW1.out
 ·have HLR:=lh (lit_reads (w.alloc (.cells #[.int .u8 15,.int .u8 bop,.int .i64 d,.int .i64 e,.int .i64 a,.int .i64 b,.int .i64 f,.int .i64 cell,.int .u64 imm,.slice ao nA ac,.int .i64 nx,.int .i64 el] 47)) 3 (i64c [nx]) 1 rfl)
  have HW2:Hid (Below w.heap.size w ((w.alloc (.cells #[.int .u8 15,.int .u8 bop,.int .i64 d,.int .i64 e,.int .i64 a,.int .i64 b,.int .i64 f,.int .i64 cell,.int .u64 imm,.slice ao nA ac,.int .i64 nx,.int .i64 el] 47)).alloc (.cells #[.int .i64 nx] 3))):=HW1.out.alloc (by simp) _
  rw [hz1] at HLR
  go_enter Tryz.func33,Tryz.ntmps33
  go_wp2
  go_ret
  exact NewI.mk' (l:=[nx]) rfl rfl (HLR.out.more (by simp)) (Nat.le_refl _) (Below.refl _ _) HW2.out
 ·have HLR:=lh (lit_reads (w.alloc (.cells #[.int .u8 16,.int .u8 bop,.int .i64 d,.int .i64 e,.int .i64 a,.int .i64 b,.int .i64 f,.int .i64 cell,.int .u64 imm,.slice ao nA ac,.int .i64 nx,.int .i64 el] 47)) 3 (i64c [nx]) 1 rfl)
  have HW2:Hid (Below w.heap.size w ((w.alloc (.cells #[.int .u8 16,.int .u8 bop,.int .i64 d,.int .i64 e,.int .i64 a,.int .i64 b,.int .i64 f,.int .i64 cell,.int .u64 imm,.slice ao nA ac,.int .i64 nx,.int .i64 el] 47)).alloc (.cells #[.int .i64 nx] 3))):=HW1.out.alloc (by simp) _
  rw [hz1] at HLR
  go_enter Tryz.func33,Tryz.ntmps33
  go_wp2
  go_ret
  exact NewI.mk' (l:=[nx]) rfl rfl (HLR.out.more (by simp)) (Nat.le_refl _) (Below.refl _ _) HW2.out
 ·have HLR:=lh (lit_reads (w.alloc (.cells #[.int .u8 17,.int .u8 bop,.int .i64 d,.int .i64 e,.int .i64 a,.int .i64 b,.int .i64 f,.int .i64 cell,.int .u64 imm,.slice ao nA ac,.int .i64 nx,.int .i64 el] 47)) 3 (i64c [nx]) 1 rfl)
  have HW2:Hid (Below w.heap.size w ((w.alloc (.cells #[.int .u8 17,.int .u8 bop,.int .i64 d,.int .i64 e,.int .i64 a,.int .i64 b,.int .i64 f,.int .i64 cell,.int .u64 imm,.slice ao nA ac,.int .i64 nx,.int .i64 el] 47)).alloc (.cells #[.int .i64 nx] 3))):=HW1.out.alloc (by simp) _
  rw [hz1] at HLR
  go_enter Tryz.func33,Tryz.ntmps33
  go_wp2
  go_ret
  exact NewI.mk' (l:=[nx]) rfl rfl (HLR.out.more (by simp)) (Nat.le_refl _) (Below.refl _ _) HW2.out
 ·go_enter Tryz.func33,Tryz.ntmps33
  go_wp2
  go_ret
  exact NewI.mk' (l:=[]) rfl rfl Reads.none_ (Nat.le_refl _) (Below.refl _ _) HW1.out
 ·have HLL:Hid (nextsOf ⟨op,bop,d,e,a,b,f,cell,imm,args,nx,el⟩=[]):=lh (by unfold nextsOf;rw [if_pos];show op<1∨18<op∨op=12∨op=14∨op=18;omega)
  have g12:(op == 12)=false:=by simp;omega
  have g14:(op == 14)=false:=by simp;omega
  have g18:(op == 18)=false:=by simp;omega
  have g9:(op == 9)=false:=by simp;omega
  have q1:decide (op≥1)=true∧decide (op≤18)=false∨decide (op≥1)=false:=by simp;omega
  have q2:decide (op<1)=true∨decide (op<1)=false∧decide (op > 18)=true:=by simp;omega
  rcases q1 with ⟨q1,q1'⟩ | q1 <;> rcases q2 with q2 | ⟨q2,q2'⟩
  all_goals
   go_enter Tryz.func33,Tryz.ntmps33
   go_wp2
   go_ret
   exact NewI.mk' HLL.out.symm rfl Reads.none_ (Nat.le_refl _) (Below.refl _ _) HW1.out
theorem nexts_lenC (n:Nd):(nextsOf n).length≤2:=by
 unfold nextsOf
 split
 ·simp
 ·split <;> simp
theorem breaks_any (B:Nat) (rs:List RG) (ps ks is:List Int) (nodes:List Nd) (fo:Option Addr) (nF cF:Nat) (po ko io no:Option Addr) (nP pc nK kc nI ic nN nc:Nat) (cells keep entry:Int) (res bd:Bool) (op bop d e a b f cell imm:Int) (args:List Int) (nx el:Int) (ao:Option Addr) (nA ac:Nat) (w:World) (HF0:RdP w B fo nF rs) (hk:Reads w B 1 ko nK (u8c ks)) (hkl:ks.length=nK) (ha:Reads w B 1 ao nA (i64c args)) (hal:args.length=nA) (hnA:nA*8≤140737488351232) (hB:B≤w.heap.size)
  (hh:bd=false→∀ g ∈ grs rs,headHolds g false) (ho0:0≤op) (ho1:op≤255) (hnl:nodes.length=nN) :
  Calls Tryz.prog 82 #[.agg #[.slice fo nF cF,.slice po nP pc,.slice ko nK kc,.int .i64 cells,.slice io nI ic,.bool res,.int .i64 keep,.slice no nN nc,.int .i64 entry,.bool bd],.agg #[.int .u8 op,.int .u8 bop,.int .i64 d,.int .i64 e,.int .i64 a,.int .i64 b,.int .i64 f,.int .i64 cell,.int .u64 imm,.slice ao nA ac,.int .i64 nx,.int .i64 el]] w fun ee w'=>ee=.returned (.bool (!decide (nodeHolds (grs rs) ⟨ps,ks,cells,is,res,keep,nodes,entry⟩ bd ⟨op,bop,d,e,a,b,f,cell,imm,args,nx,el⟩)))∧Below w.heap.size w w':=by
 have HB2:Hid (Below w.heap.size w ((w.alloc (.cells #[.slice fo nF cF,.slice po nP pc,.slice ko nK kc,.int .i64 cells,.slice io nI ic,.bool res,.int .i64 keep,.slice no nN nc,.int .i64 entry,.bool bd] 142)).alloc (.cells #[.int .u8 op,.int .u8 bop,.int .i64 d,.int .i64 e,.int .i64 a,.int .i64 b,.int .i64 f,.int .i64 cell,.int .u64 imm,.slice ao nA ac,.int .i64 nx,.int .i64 el] 47))):=((Below.refl _ _).alloc (Nat.le_refl _) _).alloc (by simp) _
 have HCB:Hid (Blk ((w.alloc (.cells #[.slice fo nF cF,.slice po nP pc,.slice ko nK kc,.int .i64 cells,.slice io nI ic,.bool res,.int .i64 keep,.slice no nN nc,.int .i64 entry,.bool bd] 142)).alloc (.cells #[.int .u8 op,.int .u8 bop,.int .i64 d,.int .i64 e,.int .i64 a,.int .i64 b,.int .i64 f,.int .i64 cell,.int .u64 imm,.slice ao nA ac,.int .i64 nx,.int .i64 el] 47)) w.heap.size 142 #[.slice fo nF cF,.slice po nP pc,.slice ko nK kc,.int .i64 cells,.slice io nI ic,.bool res,.int .i64 keep,.slice no nN nc,.int .i64 entry,.bool bd]):=lh ((Blk.new w 142 #[.slice fo nF cF,.slice po nP pc,.slice ko nK kc,.int .i64 cells,.slice io nI ic,.bool res,.int .i64 keep,.slice no nN nc,.int .i64 entry,.bool bd]).alloc _)
 have HNB:Hid (Blk ((w.alloc (.cells #[.slice fo nF cF,.slice po nP pc,.slice ko nK kc,.int .i64 cells,.slice io nI ic,.bool res,.int .i64 keep,.slice no nN nc,.int .i64 entry,.bool bd] 142)).alloc (.cells #[.int .u8 op,.int .u8 bop,.int .i64 d,.int .i64 e,.int .i64 a,.int .i64 b,.int .i64 f,.int .i64 cell,.int .u64 imm,.slice ao nA ac,.int .i64 nx,.int .i64 el] 47)) (w.heap.size+1) 47 #[.int .u8 op,.int .u8 bop,.int .i64 d,.int .i64 e,.int .i64 a,.int .i64 b,.int .i64 f,.int .i64 cell,.int .u64 imm,.slice ao nA ac,.int .i64 nx,.int .i64 el]):=lh (by
  have:=Blk.new (w.alloc (.cells #[.slice fo nF cF,.slice po nP pc,.slice ko nK kc,.int .i64 cells,.slice io nI ic,.bool res,.int .i64 keep,.slice no nN nc,.int .i64 entry,.bool bd] 142)) 47 #[.int .u8 op,.int .u8 bop,.int .i64 d,.int .i64 e,.int .i64 a,.int .i64 b,.int .i64 f,.int .i64 cell,.int .u64 imm,.slice ao nA ac,.int .i64 nx,.int .i64 el]
  rwa [show (w.alloc (.cells #[.slice fo nF cF,.slice po nP pc,.slice ko nK kc,.int .i64 cells,.slice io nI ic,.bool res,.int .i64 keep,.slice no nN nc,.int .i64 entry,.bool bd] 142)).heap.size=w.heap.size+1 by simp] at this)
 have hB2:B≤((w.alloc (.cells #[.slice fo nF cF,.slice po nP pc,.slice ko nK kc,.int .i64 cells,.slice io nI ic,.bool res,.int .i64 keep,.slice no nN nc,.int .i64 entry,.bool bd] 142)).alloc (.cells #[.int .u8 op,.int .u8 bop,.int .i64 d,.int .i64 e,.int .i64 a,.int .i64 b,.int .i64 f,.int .i64 cell,.int .u64 imm,.slice ao nA ac,.int .i64 nx,.int .i64 el] 47)).heap.size:=by simp;omega
 have HU:=lh (uses_any B rs ps ks is nodes fo nF cF po ko io no nP pc nK kc nI ic nN nc cells keep entry res bd op bop d e a b f cell imm args nx el ao nA ac ((w.alloc (.cells #[.slice fo nF cF,.slice po nP pc,.slice ko nK kc,.int .i64 cells,.slice io nI ic,.bool res,.int .i64 keep,.slice no nN nc,.int .i64 entry,.bool bd] 142)).alloc (.cells #[.int .u8 op,.int .u8 bop,.int .i64 d,.int .i64 e,.int .i64 a,.int .i64 b,.int .i64 f,.int .i64 cell,.int .u64 imm,.slice ao nA ac,.int .i64 nx,.int .i64 el] 47)) (HF0.below (HB2.out.mono hB)) (hk.below (HB2.out.mono hB)) hkl (ha.below (HB2.out.mono hB)) hal hnA hB2 hh ho0 ho1)
 have HNL:=lh hnl
 have hmf:∀ (fn:Fn) (first cap:Array Value) (w:World),(Instr.makeFunc fn first cap).run Tryz.prog w=.ok (.func fn first cap) w:=fun _ _ _ _=>rfl
 clear HF0 hk hkl ha hal hh hnl
 by_cases h1:uses (grs rs) ⟨ps,ks,cells,is,res,keep,nodes,entry⟩ bd ⟨op,bop,d,e,a,b,f,cell,imm,args,nx,el⟩
 rotate_left
 ·have H1:Hid (decide (uses (grs rs) ⟨ps,ks,cells,is,res,keep,nodes,entry⟩ bd ⟨op,bop,d,e,a,b,f,cell,imm,args,nx,el⟩)=false):=lh (decide_eq_false h1)
  have HD:Hid ((!decide (nodeHolds (grs rs) ⟨ps,ks,cells,is,res,keep,nodes,entry⟩ bd ⟨op,bop,d,e,a,b,f,cell,imm,args,nx,el⟩))=true):=lh (by
   rw [decide_eq_false]
   ·rfl
   ·rintro ⟨h,_⟩;exact h1 h)
  clear h1
  go_enter Tryz.func82,Tryz.ntmps82
  go_wp2_with (first | (go_at_call 98;refine HU.out.mono ?_;rintro ee w3 ⟨rfl,hb3⟩;have HB3:=lh hb3;clear hb3;rw [H1.out]))
  go_ret
  exact ⟨by rw [HD.out];rfl,HB2.out.trans (HB3.out.mono (by simp;omega))⟩
 ·have H1:Hid (decide (uses (grs rs) ⟨ps,ks,cells,is,res,keep,nodes,entry⟩ bd ⟨op,bop,d,e,a,b,f,cell,imm,args,nx,el⟩)=true):=lh (decide_eq_true h1)
  have HD:Hid (((nextsOf ⟨op,bop,d,e,a,b,f,cell,imm,args,nx,el⟩).any fun p=>!decide (isOne p nN))=!decide (nodeHolds (grs rs) ⟨ps,ks,cells,is,res,keep,nodes,entry⟩ bd ⟨op,bop,d,e,a,b,f,cell,imm,args,nx,el⟩)):=lh (by
   have h2:=any_not (fun p:Int=>isOne p nN) (nextsOf ⟨op,bop,d,e,a,b,f,cell,imm,args,nx,el⟩)
   have h3:decide (nodeHolds (grs rs) ⟨ps,ks,cells,is,res,keep,nodes,entry⟩ bd ⟨op,bop,d,e,a,b,f,cell,imm,args,nx,el⟩)=decide (∀ p ∈ nextsOf ⟨op,bop,d,e,a,b,f,cell,imm,args,nx,el⟩,isOne p nN):=by
    rw [decide_eq_decide]
    unfold nodeHolds
    simp only [HNL.out]
    exact ⟨fun h=>h.2,fun h=>⟨h1,h⟩⟩
   rw [h3,← h2,Bool.not_not])
  have hln:=nexts_lenC ⟨op,bop,d,e,a,b,f,cell,imm,args,nx,el⟩
  clear h1
  obtain ⟨L,hL⟩:∃ L,L=nextsOf ⟨op,bop,d,e,a,b,f,cell,imm,args,nx,el⟩:=⟨_,rfl⟩
  rw [← hL] at HD hln
  have HL:=lh hL
  clear hL
  go_enter Tryz.func82,Tryz.ntmps82
  go_wp2_with (first
   | (go_at_call 98;refine HU.out.mono ?_;rintro ee w3 ⟨rfl,hb3⟩;have HN3:=HNB.out.below hb3 HNB.out.lt;have n0:w3.cell? ⟨w.heap.size+1,0,none⟩=some (.int .u8 op):=HN3.cell 0;have n1:w3.cell? ⟨w.heap.size+1,1,none⟩=some (.int .u8 bop):=HN3.cell 1;have n2:w3.cell? ⟨w.heap.size+1,2,none⟩=some (.int .i64 d):=HN3.cell 2;have n3:w3.cell? ⟨w.heap.size+1,3,none⟩=some (.int .i64 e):=HN3.cell 3;have n4:w3.cell? ⟨w.heap.size+1,4,none⟩=some (.int .i64 a):=HN3.cell 4;have n5:w3.cell? ⟨w.heap.size+1,5,none⟩=some (.int .i64 b):=HN3.cell 5;have n6:w3.cell? ⟨w.heap.size+1,6,none⟩=some (.int .i64 f):=HN3.cell 6;have n7:w3.cell? ⟨w.heap.size+1,7,none⟩=some (.int .i64 cell):=HN3.cell 7;have n8:w3.cell? ⟨w.heap.size+1,8,none⟩=some (.int .u64 imm):=HN3.cell 8;have n9:w3.cell? ⟨w.heap.size+1,9,none⟩=some (.slice ao nA ac):=HN3.cell 9;have n10:w3.cell? ⟨w.heap.size+1,10,none⟩=some (.int .i64 nx):=HN3.cell 10;have n11:w3.cell? ⟨w.heap.size+1,11,none⟩=some (.int .i64 el):=HN3.cell 11;have hz3:w.heap.size+1<w3.heap.size:=HN3.lt;have HC3:=lh (HCB.out.below hb3 HCB.out.lt);have HB3:=lh hb3;clear hb3 HN3;rw [H1.out])
   | (go_at_call 69;refine (gnext_any op bop d e a b f cell imm args nx el ao nA ac w3 ho0 ho1).mono ?_;rintro ee w4 ⟨A4,c4,rfl,hr4,hc4,hb4⟩;rw [← HL.out] at hr4 ⊢;have HR4:=lh hr4;have HC4:=lh (HC3.out.below hb4 HC3.out.lt);have HB4:=lh hb4;clear hr4 hb4 hc4)
   | (go_at_call 99;refine (contains_breaks1 _ A4 _ c4 L w.heap.size (fun p=>!decide (isOne p nN)) w4 HR4.out rfl (by omega) fun p _=>breaks1_any w.heap.size nN nc no p w4 (HC4.out.cell 7)).mono ?_;rintro ee w5 ⟨rfl,rfl⟩))
  go_ret
  exact ⟨by rw [HD.out];rfl,HB2.out.trans ((HB3.out.trans (HB4.out.mono HB3.out.size)).mono (by simp;omega))⟩

theorem index_nodes (B:Nat) (A:Option Addr) (n c:Nat) (ns:List RN) (cv:Value) (f:Nd→Bool) (w:World) (h:RdNs w B A n ns) (hnb:n≤140737488351232) (hB:B≤w.heap.size)
  (hP:∀ W,Below w.heap.size w W→∀ i ∈ ns,Calls Tryz.prog 82 #[cv,.agg #[.int .u8 i.nd.op,.int .u8 i.nd.bop,.int .i64 i.nd.d,.int .i64 i.nd.e,.int .i64 i.nd.a,.int .i64 i.nd.b,.int .i64 i.nd.f,.int .i64 i.nd.cell,.int .u64 i.nd.imm,.slice i.ao i.nd.args.length i.ac,.int .i64 i.nd.next,.int .i64 i.nd.els]] W fun e w'=>e=.returned (.bool (f i.nd))∧Below W.heap.size W w') :
  Calls Tryz.prog 96 #[.slice A n c,.func (.func 82) #[cv] #[]] w fun e w'=>e=.returned (.int .i64 (ixOf f (nds ns)))∧Below w.heap.size w w':=by
 have H:=lh h
 have HP:=lh hP
 clear h hP
 go_enter Tryz.func96,Tryz.ntmps96
 go_wp2
 go_loopw [8] (fun i wr=>∃ k:Nat,k≤n∧i=.int .i64 k∧Hid (∀ y ∈ (nds ns).take k,f y=false)∧Hid (Below w.heap.size w wr)) (fun i _=>n-(intOf i).toNat)
 case atStart=>exact ⟨0,Nat.zero_le _,rfl,lh (by simp),Below.refl _ _⟩
 case round =>
  obtain ⟨k,hk,rfl,HQ,HW⟩:=hrel
  by_cases hlt:k<n
  ·obtain ⟨b,off,i,rfl,hb,HX,HRN,HWN,x0,x1,x2,x3,x4,x5,x6,x7,x8,x9,x10,x11⟩:=(H.out.below (HW.out.mono hB)).nd hlt
   have HXN:Hid ((nds ns)[k]?=some i.nd):=lh (by unfold nds;rw [List.getElem?_map,HX.out];rfl)
   have HC:=lh (HP.out wr HW.out i (List.mem_of_getElem? HX.out))
   have hz:=HW.out.size
   have hbr:b<wr.heap.size:=by omega
   cases hf:f i.nd
   ·have HQ2:=lh (take_mem_snoc HXN.out hf HQ.out)
    go_wp2_with (first | (go_at_call 82;refine HC.out.mono ?_;rintro e w2 ⟨rfl,hb2⟩;have HB2:=lh hb2;clear hb2;rw [hf]))
    go_roundw
    case rel=>exact ⟨k+1,by omega,by go_num,HQ2,HW.out.trans (HB2.out.mono hz)⟩
    case measure=>simp [intOf];omega
   ·have HQ2:=lh (ix_at HXN.out hf HQ.out)
    go_wp2_with (first | (go_at_call 82;refine HC.out.mono ?_;rintro e w2 ⟨rfl,hb2⟩;have HB2:=lh hb2;clear hb2;rw [hf]))
    go_ret
    exact ⟨by rw [HQ2.out];rfl,HW.out.trans (HB2.out.mono hz)⟩
  ·obtain rfl:n=k:=by omega
   have HQ2:=lh (ix_none (f:=f) (l:=nds ns) (by have:=HQ.out;rwa [List.take_of_length_le (by rw [length_nds,H.out.len];omega)] at this))
   go_wp2
   go_ret
   exact ⟨by rw [HQ2.out];rfl,HW.out⟩
theorem contains_nodes (B:Nat) (A:Option Addr) (n c:Nat) (ns:List RN) (cv:Value) (f:Nd→Bool) (w:World) (h:RdNs w B A n ns) (hnb:n≤140737488351232) (hB:B≤w.heap.size)
  (hP:∀ W,Below w.heap.size w W→∀ i ∈ ns,Calls Tryz.prog 82 #[cv,.agg #[.int .u8 i.nd.op,.int .u8 i.nd.bop,.int .i64 i.nd.d,.int .i64 i.nd.e,.int .i64 i.nd.a,.int .i64 i.nd.b,.int .i64 i.nd.f,.int .i64 i.nd.cell,.int .u64 i.nd.imm,.slice i.ao i.nd.args.length i.ac,.int .i64 i.nd.next,.int .i64 i.nd.els]] W fun e w'=>e=.returned (.bool (f i.nd))∧Below W.heap.size W w') :
  Calls Tryz.prog 81 #[.slice A n c,.func (.func 82) #[cv] #[]] w fun e w'=>e=.returned (.bool ((nds ns).any f))∧Below w.heap.size w w':=by
 have HI:=lh (index_nodes B A n c ns cv f w h hnb hB hP)
 have HD:=lh (ix_nonneg f (nds ns))
 clear h hP
 obtain ⟨z,hz⟩:∃ z,z=ixOf f (nds ns):=⟨_,rfl⟩
 rw [← hz] at HI HD
 clear hz
 go_enter Tryz.func81,Tryz.ntmps81
 go_wp2_with (first | (go_at_call 96;refine HI.out.mono ?_;rintro e w2 ⟨rfl,hb2⟩;have HB2:=lh hb2;clear hb2))
 go_ret
 exact ⟨by rw [← HD.out];rfl,HB2.out⟩
theorem all_take {α:Type} {Q:α→Prop} {l:List α} {k:Nat} {x:α} (hx:l[k]?=some x) (hq:Q x) (hb:∀ y ∈ l.take k,Q y):∀ y ∈ l.take (k+1),Q y:=by
 intro y hy
 rw [List.take_add_one,hx] at hy
 rcases List.mem_append.1 hy with hy | hy
 ·exact hb y hy
 ·simp at hy;subst hy;exact hq
theorem isValid_any (B:Nat) (fo:Option Addr) (nF cF:Nat) (rs:List RG) (bd:Bool) (w:World) (h:RdP w B fo nF rs) (hB:B≤w.heap.size) :
  Calls Tryz.prog 61 #[.slice fo nF cF,.bool bd] w fun e w'=>e=.returned (.bool (decide (valid (grs rs) bd)))∧Below w.heap.size w w':=by
 have HF:=lh h
 have HGL:Hid ((grs rs).length=nF):=lh (by rw [length_grs,h.len])
 clear h
 by_cases c1:nF<1
 ·have HD:Hid (decide (valid (grs rs) bd)=false):=lh (by rw [dfi];rintro ⟨⟨h,_⟩,_⟩;rw [HGL.out] at h;omega)
  have g:decide ((nF:Int)<1)=true:=by simp;omega
  go_enter Tryz.func61,Tryz.ntmps61
  go_wp2
  go_ret
  exact ⟨by rw [HD.out];rfl,Below.refl _ _⟩
 have g:decide ((nF:Int)<1)=false:=by simp;omega
 by_cases c2:16<nF
 ·have HD:Hid (decide (valid (grs rs) bd)=false):=lh (by rw [dfi];rintro ⟨⟨_,h⟩,_⟩;rw [HGL.out] at h;omega)
  have g2:decide ((nF:Int) > 16)=true:=by simp;omega
  go_enter Tryz.func61,Tryz.ntmps61
  go_wp2
  go_ret
  exact ⟨by rw [HD.out];rfl,Below.refl _ _⟩
 have g2:decide ((nF:Int) > 16)=false:=by simp;omega
 have hj:0<nF:=by omega
 obtain ⟨b0,off0,r0,hfo,hb0,HX0,HRG0,HWG0,y0,_,_,_,y4,_,_,_⟩:=HF.out.gr hj
 simp only [Nat.zero_mul,Nat.add_zero] at y0 y4
 have HG0:Hid (grAt (grs rs) 0=r0.gr):=lh (grAt_of HX0.out)
 subst hfo
 have hbr0:b0<w.heap.size:=by omega
 obtain ⟨p0,hp0⟩:∃ x,x=r0.gr.params.length:=⟨_,rfl⟩
 obtain ⟨q0,hq0⟩:∃ x,x=r0.gr.result:=⟨_,rfl⟩
 rw [← hp0] at y0
 rw [← hq0] at y4
 have HP0:=lh hp0
 have HQ0:=lh hq0
 clear hp0 hq0
 by_cases c3:p0=0
 rotate_left
 ·have HD:Hid (decide (valid (grs rs) bd)=false):=lh (by rw [dfi];rintro ⟨_,⟨h,_⟩,_⟩;rw [HG0.out,← HP0.out] at h;exact c3 h)
  have g3:decide ((p0:Int) > 0)=true:=by simp;omega
  have g3':decide (0<p0)=true:=by simp;omega
  clear c3
  go_enter Tryz.func61,Tryz.ntmps61
  go_wp2
  go_ret
  exact ⟨by rw [HD.out];rfl,Below.refl _ _⟩
 have g3:decide ((p0:Int) > 0)=false:=by simp;omega
 have g3':decide (0<p0)=false:=by simp;omega
 cases q0
 rotate_left
 ·have HD:Hid (decide (valid (grs rs) bd)=false):=lh (by rw [dfi];rintro ⟨_,⟨_,h⟩,_⟩;rw [HG0.out,← HQ0.out] at h;cases h)
  clear c3
  go_enter Tryz.func61,Tryz.ntmps61
  go_wp2
  go_ret
  exact ⟨by rw [HD.out];rfl,Below.refl _ _⟩
 have HV:Hid (valid (grs rs) bd↔(∀ g ∈ grs rs,headHolds g bd)∧∀ g ∈ grs rs,∀ n ∈ g.nodes,nodeHolds (grs rs) g bd n):=lh (by
  unfold valid
  rw [HG0.out,← HP0.out,← HQ0.out,HGL.out]
  exact ⟨fun h=>h.2.2,fun h=>⟨⟨by omega,by omega⟩,⟨c3,rfl⟩,h⟩⟩)
 obtain ⟨fo,hfo⟩:∃ x,x=(some ⟨b0,off0,none⟩:Option Addr):=⟨_,rfl⟩
 have HFO:=lh hfo
 have hn16:nF≤16:=by omega
 clear c1 c2
 go_enter Tryz.func61,Tryz.ntmps61
 go_wp2
 clear y0 y4
 go_loopw [32] (fun i wr=>∃ k:Nat,k≤nF∧i=.int .i64 k∧Hid (∀ g ∈ (grs rs).take k,headHolds g bd)∧Hid (Below w.heap.size w wr)) (fun i _=>nF-(intOf i).toNat)
 case atStart=>exact ⟨0,Nat.zero_le _,rfl,lh (by simp),Below.refl _ _⟩
 case round =>
  obtain ⟨k,hk,rfl,HA,HW⟩:=hrel
  by_cases hlt:k<nF
  ·obtain ⟨b,off,r,hfe,hb,HX,HRG,HWG,x0,x1,x2,x3,x4,x5,x6,x7⟩:=(HF.out.below (HW.out.mono hB)).gr hlt
   obtain ⟨rfl,rfl⟩:b0=b∧off0=off:=by injection hfe with hfe;injection hfe with h1 h2;exact ⟨h1,h2⟩
   clear hfe
   have hz:=HW.out.size
   have hbr:b0<wr.heap.size:=by omega
   have HBA:Hid (Below wr.heap.size wr (wr.alloc (.cells #[.slice r.po r.gr.params.length r.pc,.slice r.ko r.gr.kinds.length r.kc,.int .i64 r.gr.cells,.slice r.io r.gr.init.length r.ic,.bool r.gr.result,.int .i64 r.gr.keep,.slice r.no r.gr.nodes.length r.nc,.int .i64 r.gr.entry] 35))):=(Below.refl _ _).alloc (Nat.le_refl _) _
   have HRA:=lh (HRG.out.below (HBA.out.mono (by omega)))
   have hBa:B≤(wr.alloc (.cells #[.slice r.po r.gr.params.length r.pc,.slice r.ko r.gr.kinds.length r.kc,.int .i64 r.gr.cells,.slice r.io r.gr.init.length r.ic,.bool r.gr.result,.int .i64 r.gr.keep,.slice r.no r.gr.nodes.length r.nc,.int .i64 r.gr.entry] 35)).heap.size:=by simp;omega
   have HMM:Hid (r.gr ∈ grs rs):=lh (List.mem_map_of_mem (List.mem_of_getElem? HX.out))
   have HXG:Hid ((grs rs)[k]?=some r.gr):=lh (by unfold grs;rw [List.getElem?_map,HX.out];rfl)
   by_cases c4:headHolds r.gr bd
   ·have H1:Hid (decide (headHolds ⟨r.gr.params,r.gr.kinds,r.gr.cells,r.gr.init,r.gr.result,r.gr.keep,r.gr.nodes,r.gr.entry⟩ bd)=true):=lh (decide_eq_true c4)
    have HA2:=lh (all_take (Q:=fun g=>headHolds g bd) HXG.out c4 HA.out)
    clear c4
    go_wp2_with (first | (go_at_call 80;refine (headHolds_any B r.gr.params r.gr.kinds r.gr.init r.gr.nodes bd _ _ _ _ _ _ _ _ _ _ _ _ _ _ _ _ _ HRA.out.params rfl HRA.out.pcap (by have:=HWG.out.pl;omega) HRA.out.kinds rfl (by have:=HWG.out.kl;omega) HRA.out.init rfl (by have:=HWG.out.il;omega) rfl hBa).mono ?_;rintro e w2 ⟨rfl,hb2⟩;have HB2:=lh (HBA.out.trans (hb2.mono HBA.out.size));clear hb2;rw [H1.out]))
    go_roundw
    case rel=>exact ⟨k+1,by omega,by go_num,HA2,HW.out.trans (HB2.out.mono hz)⟩
    case measure=>simp [intOf];omega
   ·have H1:Hid (decide (headHolds ⟨r.gr.params,r.gr.kinds,r.gr.cells,r.gr.init,r.gr.result,r.gr.keep,r.gr.nodes,r.gr.entry⟩ bd)=false):=lh (decide_eq_false c4)
    have HD:Hid (decide (valid (grs rs) bd)=false):=lh (by rw [dfi,HV.out];rintro ⟨h,_⟩;exact c4 (h _ HMM.out))
    clear c4
    go_wp2_with (first | (go_at_call 80;refine (headHolds_any B r.gr.params r.gr.kinds r.gr.init r.gr.nodes bd _ _ _ _ _ _ _ _ _ _ _ _ _ _ _ _ _ HRA.out.params rfl HRA.out.pcap (by have:=HWG.out.pl;omega) HRA.out.kinds rfl (by have:=HWG.out.kl;omega) HRA.out.init rfl (by have:=HWG.out.il;omega) rfl hBa).mono ?_;rintro e w2 ⟨rfl,hb2⟩;have HB2:=lh (HBA.out.trans (hb2.mono HBA.out.size));clear hb2;rw [H1.out]))
    go_ret
    exact ⟨by rw [HD.out];rfl,HW.out.trans (HB2.out.mono hz)⟩
  ·obtain rfl:nF=k:=by omega
   have HHA:Hid (∀ g ∈ grs rs,headHolds g bd):=lh (by have:=HA.out;rwa [List.take_of_length_le (by rw [HGL.out];omega)] at this)
   clear hlt hk
   obtain ⟨wo,rfl⟩:∃ wo,wo=wr:=⟨_,rfl⟩
   go_wp2
   go_loopw [43] (fun i wr=>∃ k:Nat,k≤nF∧i=.int .i64 k∧Hid (∀ g ∈ (grs rs).take k,∀ n ∈ g.nodes,nodeHolds (grs rs) g bd n)∧Hid (Below w.heap.size w wr)) (fun i _=>nF-(intOf i).toNat)
   case atStart=>exact ⟨0,Nat.zero_le _,rfl,lh (by simp),HW⟩
   case round =>
    clear HW
    obtain ⟨k,hk,rfl,HA,HW⟩:=hrel
    by_cases hlt:k<nF
    ·obtain ⟨b,off,r,hfe,hb,HX,HRG,HWG,x0,x1,x2,x3,x4,x5,x6,x7⟩:=(HF.out.below (HW.out.mono hB)).gr hlt
     obtain ⟨rfl,rfl⟩:b0=b∧off0=off:=by injection hfe with hfe;injection hfe with h1 h2;exact ⟨h1,h2⟩
     clear hfe
     have hz:=HW.out.size
     have hbr:b0<wr.heap.size:=by omega
     have HB2:Hid (Below wr.heap.size wr ((wr.alloc (.cells #[.slice r.po r.gr.params.length r.pc,.slice r.ko r.gr.kinds.length r.kc,.int .i64 r.gr.cells,.slice r.io r.gr.init.length r.ic,.bool r.gr.result,.int .i64 r.gr.keep,.slice r.no r.gr.nodes.length r.nc,.int .i64 r.gr.entry] 35)).alloc (.cells #[.slice (some ⟨b0,off0,none⟩) nF cF,.slice r.po r.gr.params.length r.pc,.slice r.ko r.gr.kinds.length r.kc,.int .i64 r.gr.cells,.slice r.io r.gr.init.length r.ic,.bool r.gr.result,.int .i64 r.gr.keep,.slice r.no r.gr.nodes.length r.nc,.int .i64 r.gr.entry,.bool bd] 142))):=((Below.refl _ _).alloc (Nat.le_refl _) _).alloc (by simp) _
     have HMM:Hid (r.gr ∈ grs rs):=lh (List.mem_map_of_mem (List.mem_of_getElem? HX.out))
     have HXG:Hid ((grs rs)[k]?=some r.gr):=lh (by unfold grs;rw [List.getElem?_map,HX.out];rfl)
     have hmf:∀ (fn:Fn) (first cap:Array Value) (w:World),(Instr.makeFunc fn first cap).run Tryz.prog w=.ok (.func fn first cap) w:=fun _ _ _ _=>rfl
     have HNN:=lh ((HRG.out.nodes.below (HB2.out.mono (by omega))))
     have HC:=lh (contains_nodes B r.no r.gr.nodes.length r.nc r.ns (.agg #[.slice (some ⟨b0,off0,none⟩) nF cF,.slice r.po r.gr.params.length r.pc,.slice r.ko r.gr.kinds.length r.kc,.int .i64 r.gr.cells,.slice r.io r.gr.init.length r.ic,.bool r.gr.result,.int .i64 r.gr.keep,.slice r.no r.gr.nodes.length r.nc,.int .i64 r.gr.entry,.bool bd]) (fun nd=>!decide (nodeHolds (grs rs) r.gr bd nd)) _ HNN.out (by have:=HWG.out.nl;omega) (by simp;omega) fun W hW i hi=>by
      have hwi:=HNN.out.wf i hi
      have hBW:B≤W.heap.size:=Nat.le_trans (Nat.le_trans hB hz) (Nat.le_trans HB2.out.size hW.size)
      have hbel:Below w.heap.size w W:=HW.out.trans ((HB2.out.trans (hW.mono HB2.out.size)).mono hz)
      have hkr:=(HRG.out.kinds.below ((HB2.out.trans (hW.mono HB2.out.size)).mono (by omega)))
      have har:=((HNN.out.each i hi).below (hW.mono (by simp;omega))).args
      exact breaks_any B rs r.gr.params r.gr.kinds r.gr.init r.gr.nodes (some ⟨b0,off0,none⟩) nF cF r.po r.ko r.io r.no r.gr.params.length r.pc r.gr.kinds.length r.kc r.gr.init.length r.ic r.gr.nodes.length r.nc r.gr.cells r.gr.keep r.gr.entry r.gr.result bd _ _ _ _ _ _ _ _ _ _ _ _ _ _ _ W (HF.out.below (hbel.mono hB)) hkr rfl har rfl hwi.al hBW (fun hb g hg=>by have:=HHA.out g hg;rwa [hb] at this) hwi.o0 hwi.o1 rfl)
     by_cases c4:∀ n ∈ r.gr.nodes,nodeHolds (grs rs) r.gr bd n
     ·have H1:Hid (((nds r.ns).any fun nd=>!decide (nodeHolds (grs rs) r.gr bd nd))=false):=lh (by rw [HRG.out.nd,List.any_eq_false];intro x hx;simpa using c4 x hx)
      have HA2:=lh (all_take (Q:=fun g=>∀ n ∈ g.nodes,nodeHolds (grs rs) g bd n) HXG.out c4 HA.out)
      clear c4
      go_wp2_with (first | (go_at_call 81;refine HC.out.mono ?_;rintro e w4 ⟨rfl,hb4⟩;have HB4:=lh (HB2.out.trans (hb4.mono HB2.out.size));clear hb4;rw [H1.out]))
      go_roundw
      case rel=>exact ⟨k+1,by omega,by go_num,HA2,HW.out.trans (HB4.out.mono hz)⟩
      case measure=>simp [intOf];omega
     ·have H1:Hid (((nds r.ns).any fun nd=>!decide (nodeHolds (grs rs) r.gr bd nd))=true):=lh (by
       rw [HRG.out.nd,List.any_eq_true]
       obtain ⟨x,hx⟩:=Classical.not_forall.1 c4
       obtain ⟨hx1,hx2⟩:=Classical.not_imp.1 hx
       exact ⟨x,hx1,by simpa using hx2⟩)
      have HD:Hid (decide (valid (grs rs) bd)=false):=lh (by rw [dfi,HV.out];rintro ⟨_,h⟩;exact c4 (h _ HMM.out))
      clear c4
      go_wp2_with (first | (go_at_call 81;refine HC.out.mono ?_;rintro e w4 ⟨rfl,hb4⟩;have HB4:=lh (HB2.out.trans (hb4.mono HB2.out.size));clear hb4;rw [H1.out]))
      go_ret
      exact ⟨by rw [HD.out];rfl,HW.out.trans (HB4.out.mono hz)⟩
    ·obtain rfl:nF=k:=by omega
     have HD:Hid (decide (valid (grs rs) bd)=true):=lh (by
      rw [decide_eq_true_eq,HV.out]
      refine ⟨HHA.out,?_⟩
      have:=HA.out
      rwa [List.take_of_length_le (by rw [HGL.out];omega)] at this)
     go_wp2
     go_ret
     exact ⟨by rw [HD.out];rfl,HW.out⟩
theorem check_any (B:Nat) (fo:Option Addr) (nF cF:Nat) (rs:List RG) (bd:Bool) (w:World) (h:RdP w B fo nF rs) (hB:B≤w.heap.size) :
  Calls Tryz.prog 40 #[.agg #[.slice fo nF cF],.bool bd] w fun e w'=>e=.returned (.int .i64 (if valid (grs rs) bd then 0 else 70))∧Below w.heap.size w w':=by
 have HBL:Hid (Below w.heap.size w (w.alloc (.cells #[.slice fo nF cF] 24))):=(Below.refl _ _).alloc (Nat.le_refl _) _
 have HV:=lh (isValid_any B fo nF cF rs bd (w.alloc (.cells #[.slice fo nF cF] 24)) (h.below (HBL.out.mono hB)) (by simp;omega))
 clear h
 by_cases hv:valid (grs rs) bd
 ·have H1:Hid (decide (valid (grs rs) bd)=true):=lh (decide_eq_true hv)
  rw [if_pos hv]
  clear hv
  go_enter Tryz.func40,Tryz.ntmps40
  go_wp2_with (first | (go_at_call 61;refine HV.out.mono ?_;rintro e w2 ⟨rfl,hb2⟩;have HB2:=lh hb2;clear hb2;rw [H1.out]))
  go_ret
  exact ⟨rfl,HBL.out.trans (HB2.out.mono (by simp))⟩
 ·have H1:Hid (decide (valid (grs rs) bd)=false):=lh (decide_eq_false hv)
  rw [if_neg hv]
  clear hv
  go_enter Tryz.func40,Tryz.ntmps40
  go_wp2_with (first | (go_at_call 61;refine HV.out.mono ?_;rintro e w2 ⟨rfl,hb2⟩;have HB2:=lh hb2;clear hb2;rw [H1.out]))
  go_ret
  exact ⟨rfl,HBL.out.trans (HB2.out.mono (by simp))⟩
end Go.Proofs.YtedmcfaghfgpoaaGreatDoor
