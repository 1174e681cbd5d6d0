/-
  Texts of one seat, one behind the other: RwN, Cz, Cc, LIn.
-/
import Derived.Test.YtepkogfiojkcpaaDoorMA3
import Derived.Test.YtepkogfiojkcpaaDoorMA11
import Derived.Test.YtepkogfiojkcpaaDoorMA8

set_option linter.unusedVariables false
set_option linter.unusedSimpArgs false
set_option maxRecDepth 100000
set_option maxHeartbeats 51200000
namespace Go.Proofs.YtepkogfiojkcpaaDoor
open Go.ChangeShapes Go.WideShapes Go.ChangeAt Go.RowKit
theorem gnext_any (op bop d e a b f cell imm:Int) (args:List Int) (nx el:Int) (ao:Option Addr) (nA ac:Nat) (w:World) (ho0:0≤op) (ho1:op≤255) :
  Calls Tryd.prog 58 #[.agg #[.int .u8 op,.int .u8 bop,.int .i64 d,.int .i64 e,.int .i64 a,.int .i64 b,.int .i64 f,.int .i64 cell,.int .u64 imm,.slice ao nA ac,.int .i64 nx,.int .i64 el]] w (NewI w (nextsOf ⟨op,bop,d,e,a,b,f,cell,imm,args,nx,el⟩)):=by
 have HW1:Hid (Below w.heap.size w (w.alloc (.cells #[.int .u8 op,.int .u8 bop,.int .i64 d,.int .i64 e,.int .i64 a,.int .i64 b,.int .i64 f,.int .i64 cell,.int .u64 imm,.slice ao nA ac,.int .i64 nx,.int .i64 el] 60))):=(Below.refl _ _).alloc (Nat.le_refl _) _
 have hz1:(w.alloc (.cells #[.int .u8 op,.int .u8 bop,.int .i64 d,.int .i64 e,.int .i64 a,.int .i64 b,.int .i64 f,.int .i64 cell,.int .u64 imm,.slice ao nA ac,.int .i64 nx,.int .i64 el] 60)).heap.size=w.heap.size+1:=by simp
 rcases op_cases ho0 ho1 with rfl | rfl | rfl | rfl | rfl | rfl | rfl | rfl | rfl | rfl | rfl | rfl | rfl | rfl | rfl | rfl | rfl | rfl | hop
 ·have HLR:=Lib.hid (lit_reads (w.alloc (.cells #[.int .u8 1,.int .u8 bop,.int .i64 d,.int .i64 e,.int .i64 a,.int .i64 b,.int .i64 f,.int .i64 cell,.int .u64 imm,.slice ao nA ac,.int .i64 nx,.int .i64 el] 60)) 3 (i64c [nx]) 1 rfl)
  have HW2:Hid (Below w.heap.size w ((w.alloc (.cells #[.int .u8 1,.int .u8 bop,.int .i64 d,.int .i64 e,.int .i64 a,.int .i64 b,.int .i64 f,.int .i64 cell,.int .u64 imm,.slice ao nA ac,.int .i64 nx,.int .i64 el] 60)).alloc (.cells #[.int .i64 nx] 3))):=HW1.out.alloc (by simp) _
  rw [hz1] at HLR
  go_enter Tryd.func58,Tryd.ntmps58
  go_wp2
  go_ret
  exact NewI.mk' (l:=[nx]) rfl rfl (HLR.out.more (by simp)) (Nat.le_refl _) (Below.refl _ _) HW2.out
 ·have HLR:=Lib.hid (lit_reads (w.alloc (.cells #[.int .u8 2,.int .u8 bop,.int .i64 d,.int .i64 e,.int .i64 a,.int .i64 b,.int .i64 f,.int .i64 cell,.int .u64 imm,.slice ao nA ac,.int .i64 nx,.int .i64 el] 60)) 3 (i64c [nx]) 1 rfl)
  have HW2:Hid (Below w.heap.size w ((w.alloc (.cells #[.int .u8 2,.int .u8 bop,.int .i64 d,.int .i64 e,.int .i64 a,.int .i64 b,.int .i64 f,.int .i64 cell,.int .u64 imm,.slice ao nA ac,.int .i64 nx,.int .i64 el] 60)).alloc (.cells #[.int .i64 nx] 3))):=HW1.out.alloc (by simp) _
  rw [hz1] at HLR
  go_enter Tryd.func58,Tryd.ntmps58
  go_wp2
  go_ret
  exact NewI.mk' (l:=[nx]) rfl rfl (HLR.out.more (by simp)) (Nat.le_refl _) (Below.refl _ _) HW2.out
 ·have HLR:=Lib.hid (lit_reads (w.alloc (.cells #[.int .u8 3,.int .u8 bop,.int .i64 d,.int .i64 e,.int .i64 a,.int .i64 b,.int .i64 f,.int .i64 cell,.int .u64 imm,.slice ao nA ac,.int .i64 nx,.int .i64 el] 60)) 3 (i64c [nx]) 1 rfl)
  have HW2:Hid (Below w.heap.size w ((w.alloc (.cells #[.int .u8 3,.int .u8 bop,.int .i64 d,.int .i64 e,.int .i64 a,.int .i64 b,.int .i64 f,.int .i64 cell,.int .u64 imm,.slice ao nA ac,.int .i64 nx,.int .i64 el] 60)).alloc (.cells #[.int .i64 nx] 3))):=HW1.out.alloc (by simp) _
  rw [hz1] at HLR
  go_enter Tryd.func58,Tryd.ntmps58
  go_wp2
  go_ret
  exact NewI.mk' (l:=[nx]) rfl rfl (HLR.out.more (by simp)) (Nat.le_refl _) (Below.refl _ _) HW2.out
 ·have HLR:=Lib.hid (lit_reads (w.alloc (.cells #[.int .u8 4,.int .u8 bop,.int .i64 d,.int .i64 e,.int .i64 a,.int .i64 b,.int .i64 f,.int .i64 cell,.int .u64 imm,.slice ao nA ac,.int .i64 nx,.int .i64 el] 60)) 3 (i64c [nx]) 1 rfl)
  have HW2:Hid (Below w.heap.size w ((w.alloc (.cells #[.int .u8 4,.int .u8 bop,.int .i64 d,.int .i64 e,.int .i64 a,.int .i64 b,.int .i64 f,.int .i64 cell,.int .u64 imm,.slice ao nA ac,.int .i64 nx,.int .i64 el] 60)).alloc (.cells #[.int .i64 nx] 3))):=HW1.out.alloc (by simp) _
  rw [hz1] at HLR
  go_enter Tryd.func58,Tryd.ntmps58
  go_wp2
  go_ret
  exact NewI.mk' (l:=[nx]) rfl rfl (HLR.out.more (by simp)) (Nat.le_refl _) (Below.refl _ _) HW2.out
 ·have HLR:=Lib.hid (lit_reads (w.alloc (.cells #[.int .u8 5,.int .u8 bop,.int .i64 d,.int .i64 e,.int .i64 a,.int .i64 b,.int .i64 f,.int .i64 cell,.int .u64 imm,.slice ao nA ac,.int .i64 nx,.int .i64 el] 60)) 3 (i64c [nx]) 1 rfl)
  have HW2:Hid (Below w.heap.size w ((w.alloc (.cells #[.int .u8 5,.int .u8 bop,.int .i64 d,.int .i64 e,.int .i64 a,.int .i64 b,.int .i64 f,.int .i64 cell,.int .u64 imm,.slice ao nA ac,.int .i64 nx,.int .i64 el] 60)).alloc (.cells #[.int .i64 nx] 3))):=HW1.out.alloc (by simp) _
  rw [hz1] at HLR
  go_enter Tryd.func58,Tryd.ntmps58
  go_wp2
  go_ret
  exact NewI.mk' (l:=[nx]) rfl rfl (HLR.out.more (by simp)) (Nat.le_refl _) (Below.refl _ _) HW2.out
 ·have HLR:=Lib.hid (lit_reads (w.alloc (.cells #[.int .u8 6,.int .u8 bop,.int .i64 d,.int .i64 e,.int .i64 a,.int .i64 b,.int .i64 f,.int .i64 cell,.int .u64 imm,.slice ao nA ac,.int .i64 nx,.int .i64 el] 60)) 3 (i64c [nx]) 1 rfl)
  have HW2:Hid (Below w.heap.size w ((w.alloc (.cells #[.int .u8 6,.int .u8 bop,.int .i64 d,.int .i64 e,.int .i64 a,.int .i64 b,.int .i64 f,.int .i64 cell,.int .u64 imm,.slice ao nA ac,.int .i64 nx,.int .i64 el] 60)).alloc (.cells #[.int .i64 nx] 3))):=HW1.out.alloc (by simp) _
  rw [hz1] at HLR
  go_enter Tryd.func58,Tryd.ntmps58
  go_wp2
  go_ret
  exact NewI.mk' (l:=[nx]) rfl rfl (HLR.out.more (by simp)) (Nat.le_refl _) (Below.refl _ _) HW2.out
 ·have HLR:=Lib.hid (lit_reads (w.alloc (.cells #[.int .u8 7,.int .u8 bop,.int .i64 d,.int .i64 e,.int .i64 a,.int .i64 b,.int .i64 f,.int .i64 cell,.int .u64 imm,.slice ao nA ac,.int .i64 nx,.int .i64 el] 60)) 3 (i64c [nx]) 1 rfl)
  have HW2:Hid (Below w.heap.size w ((w.alloc (.cells #[.int .u8 7,.int .u8 bop,.int .i64 d,.int .i64 e,.int .i64 a,.int .i64 b,.int .i64 f,.int .i64 cell,.int .u64 imm,.slice ao nA ac,.int .i64 nx,.int .i64 el] 60)).alloc (.cells #[.int .i64 nx] 3))):=HW1.out.alloc (by simp) _
  rw [hz1] at HLR
  go_enter Tryd.func58,Tryd.ntmps58
  go_wp2
  go_ret
  exact NewI.mk' (l:=[nx]) rfl rfl (HLR.out.more (by simp)) (Nat.le_refl _) (Below.refl _ _) HW2.out
 ·have HLR:=Lib.hid (lit_reads (w.alloc (.cells #[.int .u8 8,.int .u8 bop,.int .i64 d,.int .i64 e,.int .i64 a,.int .i64 b,.int .i64 f,.int .i64 cell,.int .u64 imm,.slice ao nA ac,.int .i64 nx,.int .i64 el] 60)) 3 (i64c [nx]) 1 rfl)
  have HW2:Hid (Below w.heap.size w ((w.alloc (.cells #[.int .u8 8,.int .u8 bop,.int .i64 d,.int .i64 e,.int .i64 a,.int .i64 b,.int .i64 f,.int .i64 cell,.int .u64 imm,.slice ao nA ac,.int .i64 nx,.int .i64 el] 60)).alloc (.cells #[.int .i64 nx] 3))):=HW1.out.alloc (by simp) _
  rw [hz1] at HLR
  go_enter Tryd.func58,Tryd.ntmps58
  go_wp2
  go_ret
  exact NewI.mk' (l:=[nx]) rfl rfl (HLR.out.more (by simp)) (Nat.le_refl _) (Below.refl _ _) HW2.out
 ·by_cases hne:el=nx
  ·have hg:(el != nx)=false:=by simpa using hne
   have HE:=Lib.hid hne
   clear hne
   have HLR:=Lib.hid (lit_reads (w.alloc (.cells #[.int .u8 9,.int .u8 bop,.int .i64 d,.int .i64 e,.int .i64 a,.int .i64 b,.int .i64 f,.int .i64 cell,.int .u64 imm,.slice ao nA ac,.int .i64 nx,.int .i64 el] 60)) 3 (i64c [nx]) 1 rfl)
   have HW2:Hid (Below w.heap.size w ((w.alloc (.cells #[.int .u8 9,.int .u8 bop,.int .i64 d,.int .i64 e,.int .i64 a,.int .i64 b,.int .i64 f,.int .i64 cell,.int .u64 imm,.slice ao nA ac,.int .i64 nx,.int .i64 el] 60)).alloc (.cells #[.int .i64 nx] 3))):=HW1.out.alloc (by simp) _
   rw [hz1] at HLR
   go_enter Tryd.func58,Tryd.ntmps58
   go_wp2
   go_ret
   exact NewI.mk' (l:=[nx]) (by unfold nextsOf;simp [HE.out]) rfl (HLR.out.more (by simp)) (Nat.le_refl _) (Below.refl _ _) HW2.out
  ·have hg:(el != nx)=true:=by simpa using hne
   have HE:=Lib.hid hne
   clear hne
   have HLR:=Lib.hid (lit_reads (w.alloc (.cells #[.int .u8 9,.int .u8 bop,.int .i64 d,.int .i64 e,.int .i64 a,.int .i64 b,.int .i64 f,.int .i64 cell,.int .u64 imm,.slice ao nA ac,.int .i64 nx,.int .i64 el] 60)) 3 (i64c [nx,el]) 2 rfl)
   have HW2:Hid (Below w.heap.size w ((w.alloc (.cells #[.int .u8 9,.int .u8 bop,.int .i64 d,.int .i64 e,.int .i64 a,.int .i64 b,.int .i64 f,.int .i64 cell,.int .u64 imm,.slice ao nA ac,.int .i64 nx,.int .i64 el] 60)).alloc (.cells #[.int .i64 nx,.int .i64 el] 3))):=HW1.out.alloc (by simp) _
   rw [hz1] at HLR
   go_enter Tryd.func58,Tryd.ntmps58
   go_wp2
   go_ret
   exact NewI.mk' (l:=[nx,el]) (by unfold nextsOf;simp [HE.out]) rfl (HLR.out.more (by simp)) (Nat.le_refl _) (Below.refl _ _) HW2.out
 ·have HLR:=Lib.hid (lit_reads (w.alloc (.cells #[.int .u8 10,.int .u8 bop,.int .i64 d,.int .i64 e,.int .i64 a,.int .i64 b,.int .i64 f,.int .i64 cell,.int .u64 imm,.slice ao nA ac,.int .i64 nx,.int .i64 el] 60)) 3 (i64c [nx]) 1 rfl)
  have HW2:Hid (Below w.heap.size w ((w.alloc (.cells #[.int .u8 10,.int .u8 bop,.int .i64 d,.int .i64 e,.int .i64 a,.int .i64 b,.int .i64 f,.int .i64 cell,.int .u64 imm,.slice ao nA ac,.int .i64 nx,.int .i64 el] 60)).alloc (.cells #[.int .i64 nx] 3))):=HW1.out.alloc (by simp) _
  rw [hz1] at HLR
  go_enter Tryd.func58,Tryd.ntmps58
  go_wp2
  go_ret
  exact NewI.mk' (l:=[nx]) rfl rfl (HLR.out.more (by simp)) (Nat.le_refl _) (Below.refl _ _) HW2.out
 ·have HLR:=Lib.hid (lit_reads (w.alloc (.cells #[.int .u8 11,.int .u8 bop,.int .i64 d,.int .i64 e,.int .i64 a,.int .i64 b,.int .i64 f,.int .i64 cell,.int .u64 imm,.slice ao nA ac,.int .i64 nx,.int .i64 el] 60)) 3 (i64c [nx]) 1 rfl)
  have HW2:Hid (Below w.heap.size w ((w.alloc (.cells #[.int .u8 11,.int .u8 bop,.int .i64 d,.int .i64 e,.int .i64 a,.int .i64 b,.int .i64 f,.int .i64 cell,.int .u64 imm,.slice ao nA ac,.int .i64 nx,.int .i64 el] 60)).alloc (.cells #[.int .i64 nx] 3))):=HW1.out.alloc (by simp) _
  rw [hz1] at HLR
  go_enter Tryd.func58,Tryd.ntmps58
  go_wp2
  go_ret
  exact NewI.mk' (l:=[nx]) rfl rfl (HLR.out.more (by simp)) (Nat.le_refl _) (Below.refl _ _) HW2.out
 ·go_enter Tryd.func58,Tryd.ntmps58
  go_wp2
  go_ret
  exact NewI.mk' (l:=[]) rfl rfl Reads.none_ (Nat.le_refl _) (Below.refl _ _) HW1.out
 ·have HLR:=Lib.hid (lit_reads (w.alloc (.cells #[.int .u8 13,.int .u8 bop,.int .i64 d,.int .i64 e,.int .i64 a,.int .i64 b,.int .i64 f,.int .i64 cell,.int .u64 imm,.slice ao nA ac,.int .i64 nx,.int .i64 el] 60)) 3 (i64c [nx]) 1 rfl)
  have HW2:Hid (Below w.heap.size w ((w.alloc (.cells #[.int .u8 13,.int .u8 bop,.int .i64 d,.int .i64 e,.int .i64 a,.int .i64 b,.int .i64 f,.int .i64 cell,.int .u64 imm,.slice ao nA ac,.int .i64 nx,.int .i64 el] 60)).alloc (.cells #[.int .i64 nx] 3))):=HW1.out.alloc (by simp) _
  rw [hz1] at HLR
  go_enter Tryd.func58,Tryd.ntmps58
  go_wp2
  go_ret
  exact NewI.mk' (l:=[nx]) rfl rfl (HLR.out.more (by simp)) (Nat.le_refl _) (Below.refl _ _) HW2.out
 ·go_enter Tryd.func58,Tryd.ntmps58
  go_wp2
  go_ret
  exact NewI.mk' (l:=[]) rfl rfl Reads.none_ (Nat.le_refl _) (Below.refl _ _) HW1.out
 ·have HLR:=Lib.hid (lit_reads (w.alloc (.cells #[.int .u8 15,.int .u8 bop,.int .i64 d,.int .i64 e,.int .i64 a,.int .i64 b,.int .i64 f,.int .i64 cell,.int .u64 imm,.slice ao nA ac,.int .i64 nx,.int .i64 el] 60)) 3 (i64c [nx]) 1 rfl)
  have HW2:Hid (Below w.heap.size w ((w.alloc (.cells #[.int .u8 15,.int .u8 bop,.int .i64 d,.int .i64 e,.int .i64 a,.int .i64 b,.int .i64 f,.int .i64 cell,.int .u64 imm,.slice ao nA ac,.int .i64 nx,.int .i64 el] 60)).alloc (.cells #[.int .i64 nx] 3))):=HW1.out.alloc (by simp) _
  rw [hz1] at HLR
  go_enter Tryd.func58,Tryd.ntmps58
  go_wp2
  go_ret
  exact NewI.mk' (l:=[nx]) rfl rfl (HLR.out.more (by simp)) (Nat.le_refl _) (Below.refl _ _) HW2.out
 ·have HLR:=Lib.hid (lit_reads (w.alloc (.cells #[.int .u8 16,.int .u8 bop,.int .i64 d,.int .i64 e,.int .i64 a,.int .i64 b,.int .i64 f,.int .i64 cell,.int .u64 imm,.slice ao nA ac,.int .i64 nx,.int .i64 el] 60)) 3 (i64c [nx]) 1 rfl)
  have HW2:Hid (Below w.heap.size w ((w.alloc (.cells #[.int .u8 16,.int .u8 bop,.int .i64 d,.int .i64 e,.int .i64 a,.int .i64 b,.int .i64 f,.int .i64 cell,.int .u64 imm,.slice ao nA ac,.int .i64 nx,.int .i64 el] 60)).alloc (.cells #[.int .i64 nx] 3))):=HW1.out.alloc (by simp) _
  rw [hz1] at HLR
  go_enter Tryd.func58,Tryd.ntmps58
  go_wp2
  go_ret
  exact NewI.mk' (l:=[nx]) rfl rfl (HLR.out.more (by simp)) (Nat.le_refl _) (Below.refl _ _) HW2.out
 ·have HLR:=Lib.hid (lit_reads (w.alloc (.cells #[.int .u8 17,.int .u8 bop,.int .i64 d,.int .i64 e,.int .i64 a,.int .i64 b,.int .i64 f,.int .i64 cell,.int .u64 imm,.slice ao nA ac,.int .i64 nx,.int .i64 el] 60)) 3 (i64c [nx]) 1 rfl)
  have HW2:Hid (Below w.heap.size w ((w.alloc (.cells #[.int .u8 17,.int .u8 bop,.int .i64 d,.int .i64 e,.int .i64 a,.int .i64 b,.int .i64 f,.int .i64 cell,.int .u64 imm,.slice ao nA ac,.int .i64 nx,.int .i64 el] 60)).alloc (.cells #[.int .i64 nx] 3))):=HW1.out.alloc (by simp) _
  rw [hz1] at HLR
  go_enter Tryd.func58,Tryd.ntmps58
  go_wp2
  go_ret
  exact NewI.mk' (l:=[nx]) rfl rfl (HLR.out.more (by simp)) (Nat.le_refl _) (Below.refl _ _) HW2.out
 ·go_enter Tryd.func58,Tryd.ntmps58
  go_wp2
  go_ret
  exact NewI.mk' (l:=[]) rfl rfl Reads.none_ (Nat.le_refl _) (Below.refl _ _) HW1.out
 ·have HLL:Hid (nextsOf ⟨op,bop,d,e,a,b,f,cell,imm,args,nx,el⟩=[]):=Lib.hid (by unfold nextsOf;rw [if_pos];show op<1∨18<op∨op=12∨op=14∨op=18;omega)
  have g12:(op == 12)=false:=by simp;omega
  have g14:(op == 14)=false:=by simp;omega
  have g18:(op == 18)=false:=by simp;omega
  have g9:(op == 9)=false:=by simp;omega
  have q1:decide (op≥1)=true∧decide (op≤18)=false∨decide (op≥1)=false:=by simp;omega
  have q2:decide (op<1)=true∨decide (op<1)=false∧decide (op > 18)=true:=by simp;omega
  rcases q1 with ⟨q1,q1'⟩ | q1 <;> rcases q2 with q2 | ⟨q2,q2'⟩
  all_goals
   go_enter Tryd.func58,Tryd.ntmps58
   go_wp2
   go_ret
   exact NewI.mk' HLL.out.symm rfl Reads.none_ (Nat.le_refl _) (Below.refl _ _) HW1.out

theorem nexts_lenC (n:Nd):(nextsOf n).length≤2:=by
 unfold nextsOf
 split
 ·simp
 ·split <;> simp
theorem breaks_any (B:Nat) (rs:List RG) (ps ks is:List Int) (nodes:List Nd) (fo:Option Addr) (nF cF:Nat) (po ko io no:Option Addr) (nP pc nK kc nI ic nN nc:Nat) (cells keep entry:Int) (res bd:Bool) (op bop d e a b f cell imm:Int) (args:List Int) (nx el:Int) (ao:Option Addr) (nA ac:Nat) (w:World) (HF0:RdP w B fo nF rs) (hk:Reads w B 1 ko nK (u8c ks)) (hkl:ks.length=nK) (ha:Reads w B 1 ao nA (i64c args)) (hal:args.length=nA) (hnA:nA*8≤140737488351232) (hB:B≤w.heap.size)
  (hh:bd=false→∀ g ∈ grs rs,headHolds g false) (ho0:0≤op) (ho1:op≤255) (hnl:nodes.length=nN) :
  Calls Tryd.prog 85 #[.agg #[.slice fo nF cF,.slice po nP pc,.slice ko nK kc,.int .i64 cells,.slice io nI ic,.bool res,.int .i64 keep,.slice no nN nc,.int .i64 entry,.bool bd],.agg #[.int .u8 op,.int .u8 bop,.int .i64 d,.int .i64 e,.int .i64 a,.int .i64 b,.int .i64 f,.int .i64 cell,.int .u64 imm,.slice ao nA ac,.int .i64 nx,.int .i64 el]] w fun ee w'=>ee=.returned (.bool (!decide (nodeHolds (grs rs) ⟨ps,ks,cells,is,res,keep,nodes,entry⟩ bd ⟨op,bop,d,e,a,b,f,cell,imm,args,nx,el⟩)))∧Below w.heap.size w w':=by
 have HB2:Hid (Below w.heap.size w ((w.alloc (.cells #[.slice fo nF cF,.slice po nP pc,.slice ko nK kc,.int .i64 cells,.slice io nI ic,.bool res,.int .i64 keep,.slice no nN nc,.int .i64 entry,.bool bd] 151)).alloc (.cells #[.int .u8 op,.int .u8 bop,.int .i64 d,.int .i64 e,.int .i64 a,.int .i64 b,.int .i64 f,.int .i64 cell,.int .u64 imm,.slice ao nA ac,.int .i64 nx,.int .i64 el] 60))):=((Below.refl _ _).alloc (Nat.le_refl _) _).alloc (by simp) _
 have HCB:Hid (Blk ((w.alloc (.cells #[.slice fo nF cF,.slice po nP pc,.slice ko nK kc,.int .i64 cells,.slice io nI ic,.bool res,.int .i64 keep,.slice no nN nc,.int .i64 entry,.bool bd] 151)).alloc (.cells #[.int .u8 op,.int .u8 bop,.int .i64 d,.int .i64 e,.int .i64 a,.int .i64 b,.int .i64 f,.int .i64 cell,.int .u64 imm,.slice ao nA ac,.int .i64 nx,.int .i64 el] 60)) w.heap.size 151 #[.slice fo nF cF,.slice po nP pc,.slice ko nK kc,.int .i64 cells,.slice io nI ic,.bool res,.int .i64 keep,.slice no nN nc,.int .i64 entry,.bool bd]):=Lib.hid ((Blk.new w 151 #[.slice fo nF cF,.slice po nP pc,.slice ko nK kc,.int .i64 cells,.slice io nI ic,.bool res,.int .i64 keep,.slice no nN nc,.int .i64 entry,.bool bd]).alloc _)
 have HNB:Hid (Blk ((w.alloc (.cells #[.slice fo nF cF,.slice po nP pc,.slice ko nK kc,.int .i64 cells,.slice io nI ic,.bool res,.int .i64 keep,.slice no nN nc,.int .i64 entry,.bool bd] 151)).alloc (.cells #[.int .u8 op,.int .u8 bop,.int .i64 d,.int .i64 e,.int .i64 a,.int .i64 b,.int .i64 f,.int .i64 cell,.int .u64 imm,.slice ao nA ac,.int .i64 nx,.int .i64 el] 60)) (w.heap.size+1) 60 #[.int .u8 op,.int .u8 bop,.int .i64 d,.int .i64 e,.int .i64 a,.int .i64 b,.int .i64 f,.int .i64 cell,.int .u64 imm,.slice ao nA ac,.int .i64 nx,.int .i64 el]):=Lib.hid (by
  have:=Blk.new (w.alloc (.cells #[.slice fo nF cF,.slice po nP pc,.slice ko nK kc,.int .i64 cells,.slice io nI ic,.bool res,.int .i64 keep,.slice no nN nc,.int .i64 entry,.bool bd] 151)) 60 #[.int .u8 op,.int .u8 bop,.int .i64 d,.int .i64 e,.int .i64 a,.int .i64 b,.int .i64 f,.int .i64 cell,.int .u64 imm,.slice ao nA ac,.int .i64 nx,.int .i64 el]
  rwa [show (w.alloc (.cells #[.slice fo nF cF,.slice po nP pc,.slice ko nK kc,.int .i64 cells,.slice io nI ic,.bool res,.int .i64 keep,.slice no nN nc,.int .i64 entry,.bool bd] 151)).heap.size=w.heap.size+1 by simp] at this)
 have hB2:B≤((w.alloc (.cells #[.slice fo nF cF,.slice po nP pc,.slice ko nK kc,.int .i64 cells,.slice io nI ic,.bool res,.int .i64 keep,.slice no nN nc,.int .i64 entry,.bool bd] 151)).alloc (.cells #[.int .u8 op,.int .u8 bop,.int .i64 d,.int .i64 e,.int .i64 a,.int .i64 b,.int .i64 f,.int .i64 cell,.int .u64 imm,.slice ao nA ac,.int .i64 nx,.int .i64 el] 60)).heap.size:=by simp;omega
 have HU:=Lib.hid (uses_any B rs ps ks is nodes fo nF cF po ko io no nP pc nK kc nI ic nN nc cells keep entry res bd op bop d e a b f cell imm args nx el ao nA ac ((w.alloc (.cells #[.slice fo nF cF,.slice po nP pc,.slice ko nK kc,.int .i64 cells,.slice io nI ic,.bool res,.int .i64 keep,.slice no nN nc,.int .i64 entry,.bool bd] 151)).alloc (.cells #[.int .u8 op,.int .u8 bop,.int .i64 d,.int .i64 e,.int .i64 a,.int .i64 b,.int .i64 f,.int .i64 cell,.int .u64 imm,.slice ao nA ac,.int .i64 nx,.int .i64 el] 60)) (HF0.below (HB2.out.mono hB)) (hk.below (HB2.out.mono hB)) hkl (ha.below (HB2.out.mono hB)) hal hnA hB2 hh ho0 ho1)
 have HNL:=Lib.hid hnl
 have hmf:∀ (fn:Fn) (first cap:Array Value) (w:World),(Instr.makeFunc fn first cap).run Tryd.prog w=.ok (.func fn first cap) w:=fun _ _ _ _=>rfl
 clear HF0 hk hkl ha hal hh hnl
 by_cases h1:uses (grs rs) ⟨ps,ks,cells,is,res,keep,nodes,entry⟩ bd ⟨op,bop,d,e,a,b,f,cell,imm,args,nx,el⟩
 rotate_left
 ·have H1:Hid (decide (uses (grs rs) ⟨ps,ks,cells,is,res,keep,nodes,entry⟩ bd ⟨op,bop,d,e,a,b,f,cell,imm,args,nx,el⟩)=false):=Lib.hid (decide_eq_false h1)
  have HD:Hid ((!decide (nodeHolds (grs rs) ⟨ps,ks,cells,is,res,keep,nodes,entry⟩ bd ⟨op,bop,d,e,a,b,f,cell,imm,args,nx,el⟩))=true):=Lib.hid (by
   rw [decide_eq_false]
   ·rfl
   ·rintro ⟨h,_⟩;exact h1 h)
  clear h1
  go_enter Tryd.func85,Tryd.ntmps85
  go_wp2_with (first | (go_at_call 106;refine HU.out.mono ?_;rintro ee w3 ⟨rfl,hb3⟩;have HB3:=Lib.hid hb3;clear hb3;rw [H1.out]))
  go_ret
  exact ⟨by rw [HD.out];rfl,HB2.out.trans (HB3.out.mono (by simp;omega))⟩
 ·have H1:Hid (decide (uses (grs rs) ⟨ps,ks,cells,is,res,keep,nodes,entry⟩ bd ⟨op,bop,d,e,a,b,f,cell,imm,args,nx,el⟩)=true):=Lib.hid (decide_eq_true h1)
  have HD:Hid (((nextsOf ⟨op,bop,d,e,a,b,f,cell,imm,args,nx,el⟩).any fun p=>!decide (isOne p nN))=!decide (nodeHolds (grs rs) ⟨ps,ks,cells,is,res,keep,nodes,entry⟩ bd ⟨op,bop,d,e,a,b,f,cell,imm,args,nx,el⟩)):=Lib.hid (by
   have h2:=any_not (fun p:Int=>isOne p nN) (nextsOf ⟨op,bop,d,e,a,b,f,cell,imm,args,nx,el⟩)
   have h3:decide (nodeHolds (grs rs) ⟨ps,ks,cells,is,res,keep,nodes,entry⟩ bd ⟨op,bop,d,e,a,b,f,cell,imm,args,nx,el⟩)=decide (∀ p ∈ nextsOf ⟨op,bop,d,e,a,b,f,cell,imm,args,nx,el⟩,isOne p nN):=by
    rw [decide_eq_decide]
    unfold nodeHolds
    simp only [HNL.out]
    exact ⟨fun h=>h.2,fun h=>⟨h1,h⟩⟩
   rw [h3,← h2,Bool.not_not])
  have hln:=nexts_lenC ⟨op,bop,d,e,a,b,f,cell,imm,args,nx,el⟩
  clear h1
  obtain ⟨L,hL⟩:∃ L,L=nextsOf ⟨op,bop,d,e,a,b,f,cell,imm,args,nx,el⟩:=⟨_,rfl⟩
  rw [← hL] at HD hln
  have HL:=Lib.hid hL
  clear hL
  go_enter Tryd.func85,Tryd.ntmps85
  go_wp2_with (first
   | (go_at_call 106;refine HU.out.mono ?_;rintro ee w3 ⟨rfl,hb3⟩;have HN3:=HNB.out.below hb3 HNB.out.lt;have n0:w3.cell? ⟨w.heap.size+1,0,none⟩=some (.int .u8 op):=HN3.cell 0;have n1:w3.cell? ⟨w.heap.size+1,1,none⟩=some (.int .u8 bop):=HN3.cell 1;have n2:w3.cell? ⟨w.heap.size+1,2,none⟩=some (.int .i64 d):=HN3.cell 2;have n3:w3.cell? ⟨w.heap.size+1,3,none⟩=some (.int .i64 e):=HN3.cell 3;have n4:w3.cell? ⟨w.heap.size+1,4,none⟩=some (.int .i64 a):=HN3.cell 4;have n5:w3.cell? ⟨w.heap.size+1,5,none⟩=some (.int .i64 b):=HN3.cell 5;have n6:w3.cell? ⟨w.heap.size+1,6,none⟩=some (.int .i64 f):=HN3.cell 6;have n7:w3.cell? ⟨w.heap.size+1,7,none⟩=some (.int .i64 cell):=HN3.cell 7;have n8:w3.cell? ⟨w.heap.size+1,8,none⟩=some (.int .u64 imm):=HN3.cell 8;have n9:w3.cell? ⟨w.heap.size+1,9,none⟩=some (.slice ao nA ac):=HN3.cell 9;have n10:w3.cell? ⟨w.heap.size+1,10,none⟩=some (.int .i64 nx):=HN3.cell 10;have n11:w3.cell? ⟨w.heap.size+1,11,none⟩=some (.int .i64 el):=HN3.cell 11;have hz3:w.heap.size+1<w3.heap.size:=HN3.lt;have HC3:=Lib.hid (HCB.out.below hb3 HCB.out.lt);have HB3:=Lib.hid hb3;clear hb3 HN3;rw [H1.out])
   | (go_at_call 58;refine (gnext_any op bop d e a b f cell imm args nx el ao nA ac w3 ho0 ho1).mono ?_;rintro ee w4 ⟨A4,c4,rfl,hr4,hc4,hb4⟩;rw [← HL.out] at hr4 ⊢;have HR4:=Lib.hid hr4;have HC4:=Lib.hid (HC3.out.below hb4 HC3.out.lt);have HB4:=Lib.hid hb4;clear hr4 hb4 hc4)
   | (go_at_call 107;refine (contains_breaks1 _ A4 _ c4 L w.heap.size (fun p=>!decide (isOne p nN)) w4 HR4.out rfl (by omega) fun p _=>breaks1_any w.heap.size nN nc no p w4 (HC4.out.cell 7)).mono ?_;rintro ee w5 ⟨rfl,rfl⟩))
  go_ret
  exact ⟨by rw [HD.out];rfl,HB2.out.trans ((HB3.out.trans (HB4.out.mono HB3.out.size)).mono (by simp;omega))⟩

theorem index_nodes (B:Nat) (A:Option Addr) (n c:Nat) (ns:List RN) (cv:Value) (f:Nd→Bool) (w:World) (h:RdNs w B A n ns) (hnb:n≤140737488351232) (hB:B≤w.heap.size)
  (hP:∀ W,Below w.heap.size w W→∀ i ∈ ns,Calls Tryd.prog 85 #[cv,.agg #[.int .u8 i.nd.op,.int .u8 i.nd.bop,.int .i64 i.nd.d,.int .i64 i.nd.e,.int .i64 i.nd.a,.int .i64 i.nd.b,.int .i64 i.nd.f,.int .i64 i.nd.cell,.int .u64 i.nd.imm,.slice i.ao i.nd.args.length i.ac,.int .i64 i.nd.next,.int .i64 i.nd.els]] W fun e w'=>e=.returned (.bool (f i.nd))∧Below W.heap.size W w') :
  Calls Tryd.prog 104 #[.slice A n c,.func (.func 85) #[cv] #[]] w fun e w'=>e=.returned (.int .i64 (ixOf f (nds ns)))∧Below w.heap.size w w':=by
 have H:=Lib.hid h
 have HP:=Lib.hid hP
 clear h hP
 go_enter Tryd.func104,Tryd.ntmps104
 go_wp2
 go_loopw [8] (fun i wr=>∃ k:Nat,k≤n∧i=.int .i64 k∧Hid (∀ y ∈ (nds ns).take k,f y=false)∧Hid (Below w.heap.size w wr)) (fun i _=>n-(intOf i).toNat)
 case atStart=>exact ⟨0,Nat.zero_le _,rfl,Lib.hid (by simp),Below.refl _ _⟩
 case round =>
  obtain ⟨k,hk,rfl,HQ,HW⟩:=hrel
  by_cases hlt:k<n
  ·obtain ⟨b,off,i,rfl,hb,HX,HRN,HWN,x0,x1,x2,x3,x4,x5,x6,x7,x8,x9,x10,x11⟩:=(H.out.below (HW.out.mono hB)).nd hlt
   have HXN:Hid ((nds ns)[k]?=some i.nd):=Lib.hid (by unfold nds;rw [List.getElem?_map,HX.out];rfl)
   have HC:=Lib.hid (HP.out wr HW.out i (List.mem_of_getElem? HX.out))
   have hz:=HW.out.size
   have hbr:b<wr.heap.size:=by omega
   cases hf:f i.nd
   ·have HQ2:=Lib.hid (take_mem_snoc HXN.out hf HQ.out)
    go_wp2_with (first | (go_at_call 85;refine HC.out.mono ?_;rintro e w2 ⟨rfl,hb2⟩;have HB2:=Lib.hid hb2;clear hb2;rw [hf]))
    go_roundw
    case rel=>exact ⟨k+1,by omega,by go_num,HQ2,HW.out.trans (HB2.out.mono hz)⟩
    case measure=>simp [intOf];omega
   ·have HQ2:=Lib.hid (ix_at HXN.out hf HQ.out)
    go_wp2_with (first | (go_at_call 85;refine HC.out.mono ?_;rintro e w2 ⟨rfl,hb2⟩;have HB2:=Lib.hid hb2;clear hb2;rw [hf]))
    go_ret
    exact ⟨by rw [HQ2.out];rfl,HW.out.trans (HB2.out.mono hz)⟩
  ·obtain rfl:n=k:=by omega
   have HQ2:=Lib.hid (ix_none (f:=f) (l:=nds ns) (by have:=HQ.out;rwa [List.take_of_length_le (by rw [length_nds,H.out.len];omega)] at this))
   go_wp2
   go_ret
   exact ⟨by rw [HQ2.out];rfl,HW.out⟩
theorem contains_nodes (B:Nat) (A:Option Addr) (n c:Nat) (ns:List RN) (cv:Value) (f:Nd→Bool) (w:World) (h:RdNs w B A n ns) (hnb:n≤140737488351232) (hB:B≤w.heap.size)
  (hP:∀ W,Below w.heap.size w W→∀ i ∈ ns,Calls Tryd.prog 85 #[cv,.agg #[.int .u8 i.nd.op,.int .u8 i.nd.bop,.int .i64 i.nd.d,.int .i64 i.nd.e,.int .i64 i.nd.a,.int .i64 i.nd.b,.int .i64 i.nd.f,.int .i64 i.nd.cell,.int .u64 i.nd.imm,.slice i.ao i.nd.args.length i.ac,.int .i64 i.nd.next,.int .i64 i.nd.els]] W fun e w'=>e=.returned (.bool (f i.nd))∧Below W.heap.size W w') :
  Calls Tryd.prog 84 #[.slice A n c,.func (.func 85) #[cv] #[]] w fun e w'=>e=.returned (.bool ((nds ns).any f))∧Below w.heap.size w w':=by
 have HI:=Lib.hid (index_nodes B A n c ns cv f w h hnb hB hP)
 have HD:=Lib.hid (ix_nonneg f (nds ns))
 clear h hP
 obtain ⟨z,hz⟩:∃ z,z=ixOf f (nds ns):=⟨_,rfl⟩
 rw [← hz] at HI HD
 clear hz
 go_enter Tryd.func84,Tryd.ntmps84
 go_wp2_with (first | (go_at_call 104;refine HI.out.mono ?_;rintro e w2 ⟨rfl,hb2⟩;have HB2:=Lib.hid hb2;clear hb2))
 go_ret
 exact ⟨by rw [← HD.out];rfl,HB2.out⟩
theorem all_take {α:Type} {Q:α→Prop} {l:List α} {k:Nat} {x:α} (hx:l[k]?=some x) (hq:Q x) (hb:∀ y ∈ l.take k,Q y):∀ y ∈ l.take (k+1),Q y:=by
 intro y hy
 rw [List.take_add_one,hx] at hy
 rcases List.mem_append.1 hy with hy | hy
 ·exact hb y hy
 ·simp at hy;subst hy;exact hq
theorem isValid_any (B:Nat) (fo:Option Addr) (nF cF:Nat) (rs:List RG) (bd:Bool) (w:World) (h:RdP w B fo nF rs) (hB:B≤w.heap.size) :
  Calls Tryd.prog 60 #[.slice fo nF cF,.bool bd] w fun e w'=>e=.returned (.bool (decide (valid (grs rs) bd)))∧Below w.heap.size w w':=by
 have HF:=Lib.hid h
 have HGL:Hid ((grs rs).length=nF):=Lib.hid (by rw [length_grs,h.len])
 clear h
 by_cases c1:nF<1
 ·have HD:Hid (decide (valid (grs rs) bd)=false):=Lib.hid (by rw [decide_eq_false_iff_not];rintro ⟨⟨h,_⟩,_⟩;rw [HGL.out] at h;omega)
  have g:decide ((nF:Int)<1)=true:=by simp;omega
  go_enter Tryd.func60,Tryd.ntmps60
  go_wp2
  go_ret
  exact ⟨by rw [HD.out];rfl,Below.refl _ _⟩
 have g:decide ((nF:Int)<1)=false:=by simp;omega
 by_cases c2:16<nF
 ·have HD:Hid (decide (valid (grs rs) bd)=false):=Lib.hid (by rw [decide_eq_false_iff_not];rintro ⟨⟨_,h⟩,_⟩;rw [HGL.out] at h;omega)
  have g2:decide ((nF:Int) > 16)=true:=by simp;omega
  go_enter Tryd.func60,Tryd.ntmps60
  go_wp2
  go_ret
  exact ⟨by rw [HD.out];rfl,Below.refl _ _⟩
 have g2:decide ((nF:Int) > 16)=false:=by simp;omega
 have hj:0<nF:=by omega
 obtain ⟨b0,off0,r0,hfo,hb0,HX0,HRG0,HWG0,y0,_,_,_,y4,_,_,_⟩:=HF.out.gr hj
 simp only [Nat.zero_mul,Nat.add_zero] at y0 y4
 have HG0:Hid (grAt (grs rs) 0=r0.gr):=Lib.hid (grAt_of HX0.out)
 subst hfo
 have hbr0:b0<w.heap.size:=by omega
 obtain ⟨p0,hp0⟩:∃ x,x=r0.gr.params.length:=⟨_,rfl⟩
 obtain ⟨q0,hq0⟩:∃ x,x=r0.gr.result:=⟨_,rfl⟩
 rw [← hp0] at y0
 rw [← hq0] at y4
 have HP0:=Lib.hid hp0
 have HQ0:=Lib.hid hq0
 clear hp0 hq0
 by_cases c3:p0=0
 rotate_left
 ·have HD:Hid (decide (valid (grs rs) bd)=false):=Lib.hid (by rw [decide_eq_false_iff_not];rintro ⟨_,⟨h,_⟩,_⟩;rw [HG0.out,← HP0.out] at h;exact c3 h)
  have g3:decide ((p0:Int) > 0)=true:=by simp;omega
  have g3':decide (0<p0)=true:=by simp;omega
  clear c3
  go_enter Tryd.func60,Tryd.ntmps60
  go_wp2
  go_ret
  exact ⟨by rw [HD.out];rfl,Below.refl _ _⟩
 have g3:decide ((p0:Int) > 0)=false:=by simp;omega
 have g3':decide (0<p0)=false:=by simp;omega
 cases q0
 rotate_left
 ·have HD:Hid (decide (valid (grs rs) bd)=false):=Lib.hid (by rw [decide_eq_false_iff_not];rintro ⟨_,⟨_,h⟩,_⟩;rw [HG0.out,← HQ0.out] at h;cases h)
  clear c3
  go_enter Tryd.func60,Tryd.ntmps60
  go_wp2
  go_ret
  exact ⟨by rw [HD.out];rfl,Below.refl _ _⟩
 have HV:Hid (valid (grs rs) bd↔(∀ g ∈ grs rs,headHolds g bd)∧∀ g ∈ grs rs,∀ n ∈ g.nodes,nodeHolds (grs rs) g bd n):=Lib.hid (by
  unfold valid
  rw [HG0.out,← HP0.out,← HQ0.out,HGL.out]
  exact ⟨fun h=>h.2.2,fun h=>⟨⟨by omega,by omega⟩,⟨c3,rfl⟩,h⟩⟩)
 obtain ⟨fo,hfo⟩:∃ x,x=(some ⟨b0,off0,none⟩:Option Addr):=⟨_,rfl⟩
 have HFO:=Lib.hid hfo
 have hn16:nF≤16:=by omega
 clear c1 c2
 go_enter Tryd.func60,Tryd.ntmps60
 go_wp2
 clear y0 y4
 go_loopw [32] (fun i wr=>∃ k:Nat,k≤nF∧i=.int .i64 k∧Hid (∀ g ∈ (grs rs).take k,headHolds g bd)∧Hid (Below w.heap.size w wr)) (fun i _=>nF-(intOf i).toNat)
 case atStart=>exact ⟨0,Nat.zero_le _,rfl,Lib.hid (by simp),Below.refl _ _⟩
 case round =>
  obtain ⟨k,hk,rfl,HA,HW⟩:=hrel
  by_cases hlt:k<nF
  ·obtain ⟨b,off,r,hfe,hb,HX,HRG,HWG,x0,x1,x2,x3,x4,x5,x6,x7⟩:=(HF.out.below (HW.out.mono hB)).gr hlt
   obtain ⟨rfl,rfl⟩:b0=b∧off0=off:=by injection hfe with hfe;injection hfe with h1 h2;exact ⟨h1,h2⟩
   clear hfe
   have hz:=HW.out.size
   have hbr:b0<wr.heap.size:=by omega
   have HBA:Hid (Below wr.heap.size wr (wr.alloc (.cells #[.slice r.po r.gr.params.length r.pc,.slice r.ko r.gr.kinds.length r.kc,.int .i64 r.gr.cells,.slice r.io r.gr.init.length r.ic,.bool r.gr.result,.int .i64 r.gr.keep,.slice r.no r.gr.nodes.length r.nc,.int .i64 r.gr.entry] 38))):=(Below.refl _ _).alloc (Nat.le_refl _) _
   have HRA:=Lib.hid (HRG.out.below (HBA.out.mono (by omega)))
   have hBa:B≤(wr.alloc (.cells #[.slice r.po r.gr.params.length r.pc,.slice r.ko r.gr.kinds.length r.kc,.int .i64 r.gr.cells,.slice r.io r.gr.init.length r.ic,.bool r.gr.result,.int .i64 r.gr.keep,.slice r.no r.gr.nodes.length r.nc,.int .i64 r.gr.entry] 38)).heap.size:=by simp;omega
   have HMM:Hid (r.gr ∈ grs rs):=Lib.hid (List.mem_map_of_mem (List.mem_of_getElem? HX.out))
   have HXG:Hid ((grs rs)[k]?=some r.gr):=Lib.hid (by unfold grs;rw [List.getElem?_map,HX.out];rfl)
   by_cases c4:headHolds r.gr bd
   ·have H1:Hid (decide (headHolds ⟨r.gr.params,r.gr.kinds,r.gr.cells,r.gr.init,r.gr.result,r.gr.keep,r.gr.nodes,r.gr.entry⟩ bd)=true):=Lib.hid (decide_eq_true c4)
    have HA2:=Lib.hid (all_take (Q:=fun g=>headHolds g bd) HXG.out c4 HA.out)
    clear c4
    go_wp2_with (first | (go_at_call 83;refine (headHolds_any B r.gr.params r.gr.kinds r.gr.init r.gr.nodes bd _ _ _ _ _ _ _ _ _ _ _ _ _ _ _ _ _ HRA.out.params rfl HRA.out.pcap (by have:=HWG.out.pl;omega) HRA.out.kinds rfl (by have:=HWG.out.kl;omega) HRA.out.init rfl (by have:=HWG.out.il;omega) rfl hBa).mono ?_;rintro e w2 ⟨rfl,hb2⟩;have HB2:=Lib.hid (HBA.out.trans (hb2.mono HBA.out.size));clear hb2;rw [H1.out]))
    go_roundw
    case rel=>exact ⟨k+1,by omega,by go_num,HA2,HW.out.trans (HB2.out.mono hz)⟩
    case measure=>simp [intOf];omega
   ·have H1:Hid (decide (headHolds ⟨r.gr.params,r.gr.kinds,r.gr.cells,r.gr.init,r.gr.result,r.gr.keep,r.gr.nodes,r.gr.entry⟩ bd)=false):=Lib.hid (decide_eq_false c4)
    have HD:Hid (decide (valid (grs rs) bd)=false):=Lib.hid (by rw [decide_eq_false_iff_not,HV.out];rintro ⟨h,_⟩;exact c4 (h _ HMM.out))
    clear c4
    go_wp2_with (first | (go_at_call 83;refine (headHolds_any B r.gr.params r.gr.kinds r.gr.init r.gr.nodes bd _ _ _ _ _ _ _ _ _ _ _ _ _ _ _ _ _ HRA.out.params rfl HRA.out.pcap (by have:=HWG.out.pl;omega) HRA.out.kinds rfl (by have:=HWG.out.kl;omega) HRA.out.init rfl (by have:=HWG.out.il;omega) rfl hBa).mono ?_;rintro e w2 ⟨rfl,hb2⟩;have HB2:=Lib.hid (HBA.out.trans (hb2.mono HBA.out.size));clear hb2;rw [H1.out]))
    go_ret
    exact ⟨by rw [HD.out];rfl,HW.out.trans (HB2.out.mono hz)⟩
  ·obtain rfl:nF=k:=by omega
   have HHA:Hid (∀ g ∈ grs rs,headHolds g bd):=Lib.hid (by have:=HA.out;rwa [List.take_of_length_le (by rw [HGL.out];omega)] at this)
   clear hlt hk
   obtain ⟨wo,rfl⟩:∃ wo,wo=wr:=⟨_,rfl⟩
   go_wp2
   go_loopw [43] (fun i wr=>∃ k:Nat,k≤nF∧i=.int .i64 k∧Hid (∀ g ∈ (grs rs).take k,∀ n ∈ g.nodes,nodeHolds (grs rs) g bd n)∧Hid (Below w.heap.size w wr)) (fun i _=>nF-(intOf i).toNat)
   case atStart=>exact ⟨0,Nat.zero_le _,rfl,Lib.hid (by simp),HW⟩
   case round =>
    clear HW
    obtain ⟨k,hk,rfl,HA,HW⟩:=hrel
    by_cases hlt:k<nF
    ·obtain ⟨b,off,r,hfe,hb,HX,HRG,HWG,x0,x1,x2,x3,x4,x5,x6,x7⟩:=(HF.out.below (HW.out.mono hB)).gr hlt
     obtain ⟨rfl,rfl⟩:b0=b∧off0=off:=by injection hfe with hfe;injection hfe with h1 h2;exact ⟨h1,h2⟩
     clear hfe
     have hz:=HW.out.size
     have hbr:b0<wr.heap.size:=by omega
     have HB2:Hid (Below wr.heap.size wr ((wr.alloc (.cells #[.slice r.po r.gr.params.length r.pc,.slice r.ko r.gr.kinds.length r.kc,.int .i64 r.gr.cells,.slice r.io r.gr.init.length r.ic,.bool r.gr.result,.int .i64 r.gr.keep,.slice r.no r.gr.nodes.length r.nc,.int .i64 r.gr.entry] 38)).alloc (.cells #[.slice (some ⟨b0,off0,none⟩) nF cF,.slice r.po r.gr.params.length r.pc,.slice r.ko r.gr.kinds.length r.kc,.int .i64 r.gr.cells,.slice r.io r.gr.init.length r.ic,.bool r.gr.result,.int .i64 r.gr.keep,.slice r.no r.gr.nodes.length r.nc,.int .i64 r.gr.entry,.bool bd] 151))):=((Below.refl _ _).alloc (Nat.le_refl _) _).alloc (by simp) _
     have HMM:Hid (r.gr ∈ grs rs):=Lib.hid (List.mem_map_of_mem (List.mem_of_getElem? HX.out))
     have HXG:Hid ((grs rs)[k]?=some r.gr):=Lib.hid (by unfold grs;rw [List.getElem?_map,HX.out];rfl)
     have hmf:∀ (fn:Fn) (first cap:Array Value) (w:World),(Instr.makeFunc fn first cap).run Tryd.prog w=.ok (.func fn first cap) w:=fun _ _ _ _=>rfl
     have HNN:=Lib.hid ((HRG.out.nodes.below (HB2.out.mono (by omega))))
     have HC:=Lib.hid (contains_nodes B r.no r.gr.nodes.length r.nc r.ns (.agg #[.slice (some ⟨b0,off0,none⟩) nF cF,.slice r.po r.gr.params.length r.pc,.slice r.ko r.gr.kinds.length r.kc,.int .i64 r.gr.cells,.slice r.io r.gr.init.length r.ic,.bool r.gr.result,.int .i64 r.gr.keep,.slice r.no r.gr.nodes.length r.nc,.int .i64 r.gr.entry,.bool bd]) (fun nd=>!decide (nodeHolds (grs rs) r.gr bd nd)) _ HNN.out (by have:=HWG.out.nl;omega) (by simp;omega) fun W hW i hi=>by
      have hwi:=HNN.out.wf i hi
      have hBW:B≤W.heap.size:=Nat.le_trans (Nat.le_trans hB hz) (Nat.le_trans HB2.out.size hW.size)
      have hbel:Below w.heap.size w W:=HW.out.trans ((HB2.out.trans (hW.mono HB2.out.size)).mono hz)
      have hkr:=(HRG.out.kinds.below ((HB2.out.trans (hW.mono HB2.out.size)).mono (by omega)))
      have har:=((HNN.out.each i hi).below (hW.mono (by simp;omega))).args
      exact breaks_any B rs r.gr.params r.gr.kinds r.gr.init r.gr.nodes (some ⟨b0,off0,none⟩) nF cF r.po r.ko r.io r.no r.gr.params.length r.pc r.gr.kinds.length r.kc r.gr.init.length r.ic r.gr.nodes.length r.nc r.gr.cells r.gr.keep r.gr.entry r.gr.result bd _ _ _ _ _ _ _ _ _ _ _ _ _ _ _ W (HF.out.below (hbel.mono hB)) hkr rfl har rfl hwi.al hBW (fun hb g hg=>by have:=HHA.out g hg;rwa [hb] at this) hwi.o0 hwi.o1 rfl)
     by_cases c4:∀ n ∈ r.gr.nodes,nodeHolds (grs rs) r.gr bd n
     ·have H1:Hid (((nds r.ns).any fun nd=>!decide (nodeHolds (grs rs) r.gr bd nd))=false):=Lib.hid (by rw [HRG.out.nd,List.any_eq_false];intro x hx;simpa using c4 x hx)
      have HA2:=Lib.hid (all_take (Q:=fun g=>∀ n ∈ g.nodes,nodeHolds (grs rs) g bd n) HXG.out c4 HA.out)
      clear c4
      go_wp2_with (first | (go_at_call 84;refine HC.out.mono ?_;rintro e w4 ⟨rfl,hb4⟩;have HB4:=Lib.hid (HB2.out.trans (hb4.mono HB2.out.size));clear hb4;rw [H1.out]))
      go_roundw
      case rel=>exact ⟨k+1,by omega,by go_num,HA2,HW.out.trans (HB4.out.mono hz)⟩
      case measure=>simp [intOf];omega
     ·have H1:Hid (((nds r.ns).any fun nd=>!decide (nodeHolds (grs rs) r.gr bd nd))=true):=Lib.hid (by
       rw [HRG.out.nd,List.any_eq_true]
       obtain ⟨x,hx⟩:=Classical.not_forall.1 c4
       obtain ⟨hx1,hx2⟩:=Classical.not_imp.1 hx
       exact ⟨x,hx1,by simpa using hx2⟩)
      have HD:Hid (decide (valid (grs rs) bd)=false):=Lib.hid (by rw [decide_eq_false_iff_not,HV.out];rintro ⟨_,h⟩;exact c4 (h _ HMM.out))
      clear c4
      go_wp2_with (first | (go_at_call 84;refine HC.out.mono ?_;rintro e w4 ⟨rfl,hb4⟩;have HB4:=Lib.hid (HB2.out.trans (hb4.mono HB2.out.size));clear hb4;rw [H1.out]))
      go_ret
      exact ⟨by rw [HD.out];rfl,HW.out.trans (HB4.out.mono hz)⟩
    ·obtain rfl:nF=k:=by omega
     have HD:Hid (decide (valid (grs rs) bd)=true):=Lib.hid (by
      rw [decide_eq_true_eq,HV.out]
      refine ⟨HHA.out,?_⟩
      have:=HA.out
      rwa [List.take_of_length_le (by rw [HGL.out];omega)] at this)
     go_wp2
     go_ret
     exact ⟨by rw [HD.out];rfl,HW.out⟩
theorem check_any (B:Nat) (fo:Option Addr) (nF cF:Nat) (rs:List RG) (bd:Bool) (w:World) (h:RdP w B fo nF rs) (hB:B≤w.heap.size) :
  Calls Tryd.prog 37 #[.agg #[.slice fo nF cF],.bool bd] w fun e w'=>e=.returned (.int .i64 (if valid (grs rs) bd then 0 else 70))∧Below w.heap.size w w':=by
 have HBL:Hid (Below w.heap.size w (w.alloc (.cells #[.slice fo nF cF] 24))):=(Below.refl _ _).alloc (Nat.le_refl _) _
 have HV:=Lib.hid (isValid_any B fo nF cF rs bd (w.alloc (.cells #[.slice fo nF cF] 24)) (h.below (HBL.out.mono hB)) (by simp;omega))
 clear h
 by_cases hv:valid (grs rs) bd
 ·have H1:Hid (decide (valid (grs rs) bd)=true):=Lib.hid (decide_eq_true hv)
  rw [if_pos hv]
  clear hv
  go_enter Tryd.func37,Tryd.ntmps37
  go_wp2_with (first | (go_at_call 60;refine HV.out.mono ?_;rintro e w2 ⟨rfl,hb2⟩;have HB2:=Lib.hid hb2;clear hb2;rw [H1.out]))
  go_ret
  exact ⟨rfl,HBL.out.trans (HB2.out.mono (by simp))⟩
 ·have H1:Hid (decide (valid (grs rs) bd)=false):=Lib.hid (decide_eq_false hv)
  rw [if_neg hv]
  clear hv
  go_enter Tryd.func37,Tryd.ntmps37
  go_wp2_with (first | (go_at_call 60;refine HV.out.mono ?_;rintro e w2 ⟨rfl,hb2⟩;have HB2:=Lib.hid hb2;clear hb2;rw [H1.out]))
  go_ret
  exact ⟨rfl,HBL.out.trans (HB2.out.mono (by simp))⟩
structure RdL (w:World) (base O n:Nat) (vs:Nat→Value) (f:Nat→List Int):Prop where
 row:Blk w O 34 (rowA n vs)
 own:∀ i,i<n→w.ownsRow base 3 1 (vs i) (f i).length (i64c (f i))
theorem RdL.on {w w':World} {base O n:Nat} {vs:Nat→Value} {f:Nat→List Int} (h:RdL w base O n vs f) (hb:Below w.heap.size w w'):RdL w' base O n vs f :=
 ⟨h.row.below hb h.row.lt,fun i hi=>own_kept (h.own i hi) fun g hg=>hb.block g (own_block_le (h.own i hi) hg).2⟩
theorem RdL.congr {w:World} {base O n:Nat} {vs:Nat→Value} {f g:Nat→List Int} (h:RdL w base O n vs f) (he:∀ i,i<n→f i=g i):RdL w base O n vs g:=⟨h.row,fun i hi=>by rw [← he i hi];exact h.own i hi⟩
structure LiI (W:World) (O n k:Nat) (vs:Nat→Value) (f:Nat→List Int) (wr:World):Prop where
 row:Blk wr O 34 (rowA n vs)
 own:∀ i,i<k→wr.ownsRow W.heap.size 3 1 (vs i) (f i).length (i64c (f i))
 below:Below W.heap.size W wr
 le:W.heap.size≤O
theorem LiI.step {W wr w2:World} {O n k:Nat} {vs:Nat→Value} {f:Nat→List Int} {v:Value} (h:LiI W O n k vs f wr) (hb:Below wr.heap.size wr w2) (ho:w2.ownsRow wr.heap.size 3 1 v (f k).length (i64c (f k))) :
  LiI W O n (k+1) (upd vs k v) f (w2.setCell ⟨O,k,none⟩ v):=by
 have hr:=h.row.below hb h.row.lt
 have hle:=h.le
 refine ⟨?_,fun i hi=>?_,(h.below.trans (hb.mono h.below.size)).setCell (p:=⟨O,k,none⟩) (by show W.heap.size≤O;exact hle) _,hle⟩
 ·have h1:=hr.set_ k v
  rw [rowA_set] at h1
  exact h1
 ·by_cases e:i=k
  ·subst e
   rw [upd_at]
   exact own_far (own_more ho h.below.size) hr (by decide) _ _
  ·rw [upd_ne e]
   exact own_far (own_kept (h.own i (by omega)) fun g hg=>hb.block g (own_block_le (h.own i (by omega)) hg).2) hr (by decide) _ _
theorem lists_any (R n q m:Nat) (wss:List (List Nat)) (w:World) (h:SetsI w R n q m wss) (hn:n≤4096) (hT:TzTab w) :
  Calls Tryd.prog 19 #[.slice (some ⟨R,0,none⟩) n n] w fun e w'=>∃ vs,e=.returned (.slice (some ⟨w.heap.size,0,none⟩) n n)∧RdL w' w.heap.size w.heap.size n vs (fun i=>listK (wss.getD i []) q)∧Below w.heap.size w w':=by
 have hmk:∀ W:World,(Instr.makeSlice 30 (.int .i64 n) (.int .i64 n)).run Tryd.prog W=.ok (.slice (some ⟨W.heap.size,0,none⟩) n n) (W.alloc (.cells (madeCells #[.slice none 0 0] n) 34)):=fun W=>run_make_row' _ _ _ 24 Tryd.underlying30 info_sint rfl .i64 .i64 n (by omega) (by omega) W
 have HS:=Lib.hid h
 have HT:=Lib.hid hT
 have HI0:Hid (LiI w w.heap.size n 0 (fun _=>.slice none 0 0) (fun i=>listK (wss.getD i []) q) (w.alloc (.cells (madeCells #[.slice none 0 0] n) 34))):=Lib.hid ⟨by rw [rowA_made];exact Blk.new _ _ _,fun i hi=>absurd hi (by omega),(Below.refl _ _).alloc (Nat.le_refl _) _,Nat.le_refl _⟩
 clear h hT
 go_enter Tryd.func19,Tryd.ntmps19
 go_wp2
 go_loopw [11] (fun i wr=>∃ (k:Nat) (vs:Nat→Value),k≤n∧i=.int .i64 k∧Hid (LiI w w.heap.size n k vs (fun i=>listK (wss.getD i []) q) wr)) (fun i _=>n-(intOf i).toNat)
 case atStart=>exact ⟨0,_,by omega,rfl,HI0⟩
 case round =>
  clear HI0
  obtain ⟨k,vs,hk,rfl,HI⟩:=hrel
  by_cases hlt:k<n
  ·have HSr:=Lib.hid (HS.out.on (E:=w.heap.size) HI.out.below HS.out.row.lt fun i hi=>(HS.out.box i hi).lt)
   have s0:wr.cell? ⟨R,k,none⟩=some (.pointer (some ⟨R+2+2*k,0,none⟩)):=by rw [HSr.out.row.cell,rowA_at _ hlt]
   have hmem:=getD_mem [] (show k<wss.length by rw [HS.out.wf.len];exact hlt)
   have HLI:=Lib.hid (llist_any (R+2+2*k) (R+1+2*k) q (wss.getD k []) wr ((HSr.out.box k hlt).cell 1) (HSr.out.words k hlt) (HS.out.wf.each _ hmem) (HS.out.wf.lt _ hmem) (by have:=HS.out.qm;have:=HS.out.mb;omega) (HT.out.below HI.out.below))
   clear hmem
   go_wp2_with (go_at_call 38;refine HLI.out.mono ?_;rintro e w2 ⟨A2,c2,rfl,ho2,hb2⟩;have HO2:=Lib.hid ho2;have HB2:=Lib.hid hb2;have f2:w2.frozen? ⟨w.heap.size,k,none⟩=false:=(HI.out.row.below hb2 HI.out.row.lt).frozen k;obtain ⟨y2,hy2⟩:∃ y,w2.cell? ⟨w.heap.size,k,none⟩=some y:=⟨_,((HI.out.row.below hb2 HI.out.row.lt).cell k).trans (rowA_at _ hlt)⟩;clear ho2 hb2)
   go_roundw
   case rel=>exact ⟨k+1,_,by omega,by go_num,Lib.hid (HI.out.step HB2.out HO2.out)⟩
   case measure=>simp [intOf];omega
  ·have hkn:k=n:=by omega
   have HFIN:Hid (RdL wr w.heap.size w.heap.size n vs (fun i=>listK (wss.getD i []) q)):=Lib.hid ⟨HI.out.row,fun i hi=>HI.out.own i (by omega)⟩
   go_wp2
   go_ret
   exact ⟨vs,rfl,HFIN.out,HI.out.below⟩
open Classical in
noncomputable def liveL (ns:List Nd) (m i:Nat):List Int:=((List.range m).filter fun p:Nat=>decide (Live ns (p:Int) i)).map fun (p:Nat)=>(p:Int)
open Classical in
noncomputable def liveOL (ns:List Nd) (m i:Nat):List Int:=((List.range m).filter fun p:Nat=>decide (LiveO ns (p:Int) i)).map fun (p:Nat)=>(p:Int)
open Classical in
theorem liveL_of {wss:List (List Nat)} {ns:List Nd} {n q m i:Nat} (hw:WfS wss n q m) (hq:q=(m+63) / 64) (h:∀ p:Nat,hasS wss i p=true↔Live ns p i):listK (wss.getD i []) q=liveL ns m i:=by
 rw [listK_all (m:=m) (by omega) (fun j hj=>hw.most i j hj)]
 unfold liveL
 congr 1
 refine List.filter_congr fun p _=>?_
 exact Bool.eq_iff_iff.2 ((h p).trans decide_eq_true_iff.symm)
open Classical in
theorem liveOL_of {wss:List (List Nat)} {ns:List Nd} {n q m i:Nat} (hw:WfS wss n q m) (hq:q=(m+63) / 64) (h:∀ p:Nat,hasS wss i p=true↔LiveO ns p i):listK (wss.getD i []) q=liveOL ns m i:=by
 rw [listK_all (m:=m) (by omega) (fun j hj=>hw.most i j hj)]
 unfold liveOL
 congr 1
 refine List.filter_congr fun p _=>?_
 exact Bool.eq_iff_iff.2 ((h p).trans decide_eq_true_iff.symm)
theorem add1_mem {l:List Int} {x y:Int} (h:y ∈ add1 l x):y ∈ l∨(y=x∧0≤x):=by
 unfold add1 at h
 split at h
 ·rename_i hx
  rcases List.mem_append.1 h with h | h
  ·exact .inl h
  ·exact .inr ⟨by simpa using h,hx.1⟩
 ·exact .inl h
theorem addL_mem (more:List Int):∀ {l:List Int} {y:Int},y ∈ addL l more→y ∈ l∨(y ∈ more∧0≤y):=by
 unfold addL
 induction more with
 | nil=>intro l y h;exact .inl h
 | cons x r ih =>
  intro l y h
  rw [List.foldl_cons] at h
  rcases ih h with h | h
  ·rcases add1_mem h with h | ⟨h,h2⟩
   ·exact .inl h
   ·exact .inr ⟨by simp [h],by rw [h];exact h2⟩
  ·exact .inr ⟨by simp [h.1],h.2⟩
theorem reads_in {gs:List Gr} {g:Gr} {n:Nd} (h:uses gs g false n):∀ x ∈ readsOf n,0≤x∧x<(g.kinds.length:Int):=by
 intro x hx
 have hx':x ∈ readF n∧0≤x:=by
  rcases addL_mem _ hx with h1 | h1
  ·cases h1
  ·exact h1
 obtain ⟨h1,h0⟩:=hx'
 refine ⟨h0,?_⟩
 have key:∀ k,fits g.kinds false x k→x<(g.kinds.length:Int):=fun k hf=>hf.1.2
 unfold readF at h1
 unfold uses at h
 split at h1
 ·rename_i ho
  obtain rfl:x=n.a:=by simpa using h1
  rcases ho with e | e | e | e | e | e | e | e
  ·rw [e] at h;simp at h;exact h.1.2
  ·rw [e] at h;simp at h;exact key _ h.2
  ·rw [e] at h;simp at h;exact key _ h.2
  ·rw [e] at h;simp at h;exact key _ h
  ·rw [e] at h
   simp at h
   split at h
   ·exact key _ h
   ·omega
  ·rw [e] at h;simp at h;exact key _ h
  ·rw [e] at h;simp at h;exact key _ h
  ·rw [e] at h;simp at h;exact key _ h
 ·split at h1
  ·rename_i ho
   rcases ho with e | e
   ·rw [e] at h
    simp at h h1
    rcases h1 with rfl | rfl
    ·exact key _ h.2.2.1
    ·exact key _ h.2.2.2
   ·rw [e] at h
    simp at h h1
    rcases h1 with rfl | rfl
    ·exact key _ h.1
    ·exact key _ h.2
  ·split at h1
   ·rename_i ho
    have hh:hands gs g false n.f n.args:=by
     rcases ho with e | e
     ·rw [e] at h;simp at h;exact h.1
     ·rw [e] at h;simp at h;exact h
    have h3:=hh.2.2
    rw [if_neg (by decide)] at h3
    obtain ⟨i,hi,rfl⟩:=List.mem_iff_getElem.1 h1
    have h4:=h3 i hi
    rw [List.getD_eq_getElem?_getD,List.getElem?_eq_getElem hi] at h4
    exact h4.1.2
   ·cases h1
theorem valid_reads {gs:List Gr} {g:Gr} (h:valid gs false) (hg:g ∈ gs):ReadIn g.nodes g.kinds.length:=fun n hn=>reads_in (h.2.2.2 g hg n hn).1
theorem valid_next {gs:List Gr} {g:Gr} (h:valid gs false) (hg:g ∈ gs):NextIn g.nodes:=fun n hn x hx=>(h.2.2.2 g hg n hn).2 x hx
theorem valid_sizes {gs:List Gr} {g:Gr} (h:valid gs false) (hg:g ∈ gs):g.kinds.length≤1024∧g.nodes.length≤4096:=by
 have hh:=h.2.2.1 g hg
 exact ⟨hh.1.1,hh.2.2.2.2.2.2.1⟩
end Go.Proofs.YtepkogfiojkcpaaDoor
