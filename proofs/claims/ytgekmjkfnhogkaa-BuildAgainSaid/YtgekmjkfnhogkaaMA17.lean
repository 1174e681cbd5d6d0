/-
  Texts of one seat, one behind the other: Rf, RwN, Rin, Rr, Ck, Cu, Ch, Cwa, Cwb, Cwc, Cwe, Cwf, Cw, Cx, Cv, Cy, Cz, Cc, Rnz.
-/
import Derived.BigQuiet
import Derived.Deep.RegionLaw
import Derived.Deep.DeepCutAuto
import Derived.Deep.RegionHeld3
import Derived.Test.YtgekmjkfnhogkaaMA41

set_option linter.unusedVariables false
set_option linter.unusedSimpArgs false
set_option maxRecDepth 100000
set_option maxHeartbeats 51200000
namespace Go.Proofs.Ytgekmjkfnhogkaa
open Go.ChangeShapes Go.WideShapes Go.ChangeAt Go.RowKit
theorem rfits_any (B:Nat) (ks:List Int) (po ko io no:Option Addr) (nP pc nK kc nI ic nN nc:Nat) (cells keep entry:Int) (res bd:Bool) (p k:Int) (w:World) (hk:Reads w B 1 ko nK (u8c ks)) (hkl:ks.length=nK) (hnb:nK≤140737488351232) (hB:B≤w.heap.size) :
  Calls Try.prog 42 #[.agg #[.slice po nP pc,.slice ko nK kc,.int .i64 cells,.slice io nI ic,.bool res,.int .i64 keep,.slice no nN nc,.int .i64 entry],.bool bd,.int .i64 p,.int .u8 k] w fun e w'=>e=.returned (.bool (decide (fits ks bd p k)))∧Below w.heap.size w w':=by
 have HBL:Hid (Below w.heap.size w (w.alloc (.cells #[.slice po nP pc,.slice ko nK kc,.int .i64 cells,.slice io nI ic,.bool res,.int .i64 keep,.slice no nN nc,.int .i64 entry] 45))):=(Below.refl _ _).alloc (Nat.le_refl _) _
 have HK:=Lib.hid (hk.below (HBL.out.mono hB))
 have HKL:=Lib.hid hkl
 clear hk hkl
 by_cases h0:0≤p
 rotate_left
 ·have HD:Hid (decide (fits ks bd p k)=false):=Lib.hid (by rw [decide_eq_false_iff_not];rintro ⟨h,_⟩;exact h0 h.1)
  have g0:decide (p≥0)=false:=by simp;omega
  clear h0
  go_enter Try.func42,Try.ntmps42
  go_wp2
  go_ret
  exact ⟨by rw [HD.out];rfl,HBL.out⟩
 have g0:decide (p≥0)=true:=by simp;omega
 by_cases h1:p<nK
 rotate_left
 ·have HD:Hid (decide (fits ks bd p k)=false):=Lib.hid (by rw [decide_eq_false_iff_not];rintro ⟨h,_⟩;have:=h.2;rw [HKL.out] at this;exact h1 this)
  have g1:decide (p<(nK:Int))=false:=by simp;omega
  clear h0 h1
  go_enter Try.func42,Try.ntmps42
  go_wp2
  go_ret
  exact ⟨by rw [HD.out];rfl,HBL.out⟩
 have g1:decide (p<(nK:Int))=true:=by simp;omega
 have HO:Hid (isOne p ks.length):=Lib.hid ⟨h0,by rw [HKL.out];exact h1⟩
 cases bd
 rotate_left
 ·have HD:Hid (decide (fits ks true p k)=true):=Lib.hid (by rw [decide_eq_true_eq];exact ⟨HO.out,.inl rfl⟩)
  clear h0 h1
  go_enter Try.func42,Try.ntmps42
  go_wp2
  go_ret
  exact ⟨by rw [HD.out];rfl,HBL.out⟩
 obtain ⟨j,rfl⟩:∃ j:Nat,p=(j:Int):=⟨p.toNat,by omega⟩
 have hj:j<nK:=by omega
 obtain ⟨bk,off,x,rfl,hbk,HX,x1⟩:=HK.out.byte hj
 have HD:Hid ((x == k)=decide (fits ks false j k)):=Lib.hid (by
  have hx:kindAt ks j=x:=by unfold kindAt;simp [List.getD,HX.out]
  rw [Bool.eq_iff_iff,beq_iff_eq,decide_eq_true_eq]
  unfold fits
  rw [hx]
  exact ⟨fun h=>⟨HO.out,.inr h⟩,fun h=>by rcases h.2 with h2 | h2;cases h2;exact h2⟩)
 have g1n:decide (j<nK)=true:=by simpa using hj
 cases hq:(x == k)
 all_goals
  rw [hq] at HD
  go_enter Try.func42,Try.ntmps42
  go_wp2
  go_ret
  exact ⟨by rw [← HD.out];rfl,HBL.out⟩

theorem rwant_1 (w:World):Calls Try.prog 44 #[.int .u8 1] w fun e w'=>e=.returned (.string { data:=#[110,45,45,45] })∧Below w.heap.size w w':=by
 go_enter Try.func44,Try.ntmps44
 go_wp2
 go_ret
 exact ⟨rfl,(Below.refl _ _).alloc (Nat.le_refl _) _⟩
theorem rwant_2 (w:World):Calls Try.prog 44 #[.int .u8 2] w fun e w'=>e=.returned (.string { data:=#[61,45,61,45] })∧Below w.heap.size w w':=by
 go_enter Try.func44,Try.ntmps44
 go_wp2
 go_ret
 exact ⟨rfl,(Below.refl _ _).alloc (Nat.le_refl _) _⟩
theorem rwant_3 (w:World):Calls Try.prog 44 #[.int .u8 3] w fun e w'=>e=.returned (.string { data:=#[110,45,110,110] })∧Below w.heap.size w w':=by
 go_enter Try.func44,Try.ntmps44
 go_wp2
 go_ret
 exact ⟨rfl,(Below.refl _ _).alloc (Nat.le_refl _) _⟩
theorem rwant_4 (w:World):Calls Try.prog 44 #[.int .u8 4] w fun e w'=>e=.returned (.string { data:=#[110,45,45,45] })∧Below w.heap.size w w':=by
 go_enter Try.func44,Try.ntmps44
 go_wp2
 go_ret
 exact ⟨rfl,(Below.refl _ _).alloc (Nat.le_refl _) _⟩
theorem rwant_5 (w:World):Calls Try.prog 44 #[.int .u8 5] w fun e w'=>e=.returned (.string { data:=#[45,45,110,45] })∧Below w.heap.size w w':=by
 go_enter Try.func44,Try.ntmps44
 go_wp2
 go_ret
 exact ⟨rfl,(Below.refl _ _).alloc (Nat.le_refl _) _⟩
theorem rwant_6 (w:World):Calls Try.prog 44 #[.int .u8 6] w fun e w'=>e=.returned (.string { data:=#[112,45,45,45] })∧Below w.heap.size w w':=by
 go_enter Try.func44,Try.ntmps44
 go_wp2
 go_ret
 exact ⟨rfl,(Below.refl _ _).alloc (Nat.le_refl _) _⟩
theorem rwant_7 (w:World):Calls Try.prog 44 #[.int .u8 7] w fun e w'=>e=.returned (.string { data:=#[110,45,112,45] })∧Below w.heap.size w w':=by
 go_enter Try.func44,Try.ntmps44
 go_wp2
 go_ret
 exact ⟨rfl,(Below.refl _ _).alloc (Nat.le_refl _) _⟩
theorem rwant_8 (w:World):Calls Try.prog 44 #[.int .u8 8] w fun e w'=>e=.returned (.string { data:=#[45,45,112,110] })∧Below w.heap.size w w':=by
 go_enter Try.func44,Try.ntmps44
 go_wp2
 go_ret
 exact ⟨rfl,(Below.refl _ _).alloc (Nat.le_refl _) _⟩
theorem rwant_9 (w:World):Calls Try.prog 44 #[.int .u8 9] w fun e w'=>e=.returned (.string { data:=#[45,45,110,45] })∧Below w.heap.size w w':=by
 go_enter Try.func44,Try.ntmps44
 go_wp2
 go_ret
 exact ⟨rfl,(Below.refl _ _).alloc (Nat.le_refl _) _⟩
theorem rwant_10 (w:World):Calls Try.prog 44 #[.int .u8 10] w fun e w'=>e=.returned (.string { data:=#[45,45,45,45] })∧Below w.heap.size w w':=by
 go_enter Try.func44,Try.ntmps44
 go_wp2
 go_ret
 exact ⟨rfl,(Below.refl _ _).alloc (Nat.le_refl _) _⟩
theorem rwant_11 (w:World):Calls Try.prog 44 #[.int .u8 11] w fun e w'=>e=.returned (.string { data:=#[45,45,45,45] })∧Below w.heap.size w w':=by
 go_enter Try.func44,Try.ntmps44
 go_wp2
 go_ret
 exact ⟨rfl,(Below.refl _ _).alloc (Nat.le_refl _) _⟩
theorem rwant_12 (w:World):Calls Try.prog 44 #[.int .u8 12] w fun e w'=>e=.returned (.string { data:=#[45,45,45,45] })∧Below w.heap.size w w':=by
 go_enter Try.func44,Try.ntmps44
 go_wp2
 go_ret
 exact ⟨rfl,(Below.refl _ _).alloc (Nat.le_refl _) _⟩
theorem rwant_13 (w:World):Calls Try.prog 44 #[.int .u8 13] w fun e w'=>e=.returned (.string { data:=#[45,45,45,45] })∧Below w.heap.size w w':=by
 go_enter Try.func44,Try.ntmps44
 go_wp2
 go_ret
 exact ⟨rfl,(Below.refl _ _).alloc (Nat.le_refl _) _⟩
theorem rwant_14 (w:World):Calls Try.prog 44 #[.int .u8 14] w fun e w'=>e=.returned (.string { data:=#[45,45,110,45] })∧Below w.heap.size w w':=by
 go_enter Try.func44,Try.ntmps44
 go_wp2
 go_ret
 exact ⟨rfl,(Below.refl _ _).alloc (Nat.le_refl _) _⟩
theorem rwant_15 (w:World):Calls Try.prog 44 #[.int .u8 15] w fun e w'=>e=.returned (.string { data:=#[110,110,45,45] })∧Below w.heap.size w w':=by
 go_enter Try.func44,Try.ntmps44
 go_wp2
 go_ret
 exact ⟨rfl,(Below.refl _ _).alloc (Nat.le_refl _) _⟩
theorem rwant_16 (w:World):Calls Try.prog 44 #[.int .u8 16] w fun e w'=>e=.returned (.string { data:=#[110,45,45,45] })∧Below w.heap.size w w':=by
 go_enter Try.func44,Try.ntmps44
 go_wp2
 go_ret
 exact ⟨rfl,(Below.refl _ _).alloc (Nat.le_refl _) _⟩
theorem rwant_17 (w:World):Calls Try.prog 44 #[.int .u8 17] w fun e w'=>e=.returned (.string { data:=#[45,45,110,45] })∧Below w.heap.size w w':=by
 go_enter Try.func44,Try.ntmps44
 go_wp2
 go_ret
 exact ⟨rfl,(Below.refl _ _).alloc (Nat.le_refl _) _⟩
theorem rwant_18 (w:World):Calls Try.prog 44 #[.int .u8 18] w fun e w'=>e=.returned (.string { data:=#[45,45,110,45] })∧Below w.heap.size w w':=by
 go_enter Try.func44,Try.ntmps44
 go_wp2
 go_ret
 exact ⟨rfl,(Below.refl _ _).alloc (Nat.le_refl _) _⟩
theorem rnext_any (op bop d e a b f cell imm:Int) (args:List Int) (nx el:Int) (ao:Option Addr) (nA ac:Nat) (w:World) (ho0:0≤op) (ho1:op≤255) :
  Calls Try.prog 43 #[.agg #[.int .u8 op,.int .u8 bop,.int .i64 d,.int .i64 e,.int .i64 a,.int .i64 b,.int .i64 f,.int .i64 cell,.int .u64 imm,.slice ao nA ac,.int .i64 nx,.int .i64 el]] w (NewI w (nextsOf ⟨op,bop,d,e,a,b,f,cell,imm,args,nx,el⟩)):=by
 have HW1:Hid (Below w.heap.size w (w.alloc (.cells #[.int .u8 op,.int .u8 bop,.int .i64 d,.int .i64 e,.int .i64 a,.int .i64 b,.int .i64 f,.int .i64 cell,.int .u64 imm,.slice ao nA ac,.int .i64 nx,.int .i64 el] 70))):=(Below.refl _ _).alloc (Nat.le_refl _) _
 have hz1:(w.alloc (.cells #[.int .u8 op,.int .u8 bop,.int .i64 d,.int .i64 e,.int .i64 a,.int .i64 b,.int .i64 f,.int .i64 cell,.int .u64 imm,.slice ao nA ac,.int .i64 nx,.int .i64 el] 70)).heap.size=w.heap.size+1:=by simp
 rcases op_cases ho0 ho1 with rfl | rfl | rfl | rfl | rfl | rfl | rfl | rfl | rfl | rfl | rfl | rfl | rfl | rfl | rfl | rfl | rfl | rfl | hop
 ·have HLR:=Lib.hid (lit_reads (w.alloc (.cells #[.int .u8 1,.int .u8 bop,.int .i64 d,.int .i64 e,.int .i64 a,.int .i64 b,.int .i64 f,.int .i64 cell,.int .u64 imm,.slice ao nA ac,.int .i64 nx,.int .i64 el] 70)) 3 (i64c [nx]) 1 rfl)
  have HW2:Hid (Below w.heap.size w ((w.alloc (.cells #[.int .u8 1,.int .u8 bop,.int .i64 d,.int .i64 e,.int .i64 a,.int .i64 b,.int .i64 f,.int .i64 cell,.int .u64 imm,.slice ao nA ac,.int .i64 nx,.int .i64 el] 70)).alloc (.cells #[.int .i64 nx] 3))):=HW1.out.alloc (by simp) _
  rw [hz1] at HLR
  go_enter Try.func43,Try.ntmps43
  go_wp2
  go_ret
  exact NewI.mk' (l:=[nx]) rfl rfl (HLR.out.more (by simp)) (Nat.le_refl _) (Below.refl _ _) HW2.out
 ·have HLR:=Lib.hid (lit_reads (w.alloc (.cells #[.int .u8 2,.int .u8 bop,.int .i64 d,.int .i64 e,.int .i64 a,.int .i64 b,.int .i64 f,.int .i64 cell,.int .u64 imm,.slice ao nA ac,.int .i64 nx,.int .i64 el] 70)) 3 (i64c [nx]) 1 rfl)
  have HW2:Hid (Below w.heap.size w ((w.alloc (.cells #[.int .u8 2,.int .u8 bop,.int .i64 d,.int .i64 e,.int .i64 a,.int .i64 b,.int .i64 f,.int .i64 cell,.int .u64 imm,.slice ao nA ac,.int .i64 nx,.int .i64 el] 70)).alloc (.cells #[.int .i64 nx] 3))):=HW1.out.alloc (by simp) _
  rw [hz1] at HLR
  go_enter Try.func43,Try.ntmps43
  go_wp2
  go_ret
  exact NewI.mk' (l:=[nx]) rfl rfl (HLR.out.more (by simp)) (Nat.le_refl _) (Below.refl _ _) HW2.out
 ·have HLR:=Lib.hid (lit_reads (w.alloc (.cells #[.int .u8 3,.int .u8 bop,.int .i64 d,.int .i64 e,.int .i64 a,.int .i64 b,.int .i64 f,.int .i64 cell,.int .u64 imm,.slice ao nA ac,.int .i64 nx,.int .i64 el] 70)) 3 (i64c [nx]) 1 rfl)
  have HW2:Hid (Below w.heap.size w ((w.alloc (.cells #[.int .u8 3,.int .u8 bop,.int .i64 d,.int .i64 e,.int .i64 a,.int .i64 b,.int .i64 f,.int .i64 cell,.int .u64 imm,.slice ao nA ac,.int .i64 nx,.int .i64 el] 70)).alloc (.cells #[.int .i64 nx] 3))):=HW1.out.alloc (by simp) _
  rw [hz1] at HLR
  go_enter Try.func43,Try.ntmps43
  go_wp2
  go_ret
  exact NewI.mk' (l:=[nx]) rfl rfl (HLR.out.more (by simp)) (Nat.le_refl _) (Below.refl _ _) HW2.out
 ·have HLR:=Lib.hid (lit_reads (w.alloc (.cells #[.int .u8 4,.int .u8 bop,.int .i64 d,.int .i64 e,.int .i64 a,.int .i64 b,.int .i64 f,.int .i64 cell,.int .u64 imm,.slice ao nA ac,.int .i64 nx,.int .i64 el] 70)) 3 (i64c [nx]) 1 rfl)
  have HW2:Hid (Below w.heap.size w ((w.alloc (.cells #[.int .u8 4,.int .u8 bop,.int .i64 d,.int .i64 e,.int .i64 a,.int .i64 b,.int .i64 f,.int .i64 cell,.int .u64 imm,.slice ao nA ac,.int .i64 nx,.int .i64 el] 70)).alloc (.cells #[.int .i64 nx] 3))):=HW1.out.alloc (by simp) _
  rw [hz1] at HLR
  go_enter Try.func43,Try.ntmps43
  go_wp2
  go_ret
  exact NewI.mk' (l:=[nx]) rfl rfl (HLR.out.more (by simp)) (Nat.le_refl _) (Below.refl _ _) HW2.out
 ·have HLR:=Lib.hid (lit_reads (w.alloc (.cells #[.int .u8 5,.int .u8 bop,.int .i64 d,.int .i64 e,.int .i64 a,.int .i64 b,.int .i64 f,.int .i64 cell,.int .u64 imm,.slice ao nA ac,.int .i64 nx,.int .i64 el] 70)) 3 (i64c [nx]) 1 rfl)
  have HW2:Hid (Below w.heap.size w ((w.alloc (.cells #[.int .u8 5,.int .u8 bop,.int .i64 d,.int .i64 e,.int .i64 a,.int .i64 b,.int .i64 f,.int .i64 cell,.int .u64 imm,.slice ao nA ac,.int .i64 nx,.int .i64 el] 70)).alloc (.cells #[.int .i64 nx] 3))):=HW1.out.alloc (by simp) _
  rw [hz1] at HLR
  go_enter Try.func43,Try.ntmps43
  go_wp2
  go_ret
  exact NewI.mk' (l:=[nx]) rfl rfl (HLR.out.more (by simp)) (Nat.le_refl _) (Below.refl _ _) HW2.out
 ·have HLR:=Lib.hid (lit_reads (w.alloc (.cells #[.int .u8 6,.int .u8 bop,.int .i64 d,.int .i64 e,.int .i64 a,.int .i64 b,.int .i64 f,.int .i64 cell,.int .u64 imm,.slice ao nA ac,.int .i64 nx,.int .i64 el] 70)) 3 (i64c [nx]) 1 rfl)
  have HW2:Hid (Below w.heap.size w ((w.alloc (.cells #[.int .u8 6,.int .u8 bop,.int .i64 d,.int .i64 e,.int .i64 a,.int .i64 b,.int .i64 f,.int .i64 cell,.int .u64 imm,.slice ao nA ac,.int .i64 nx,.int .i64 el] 70)).alloc (.cells #[.int .i64 nx] 3))):=HW1.out.alloc (by simp) _
  rw [hz1] at HLR
  go_enter Try.func43,Try.ntmps43
  go_wp2
  go_ret
  exact NewI.mk' (l:=[nx]) rfl rfl (HLR.out.more (by simp)) (Nat.le_refl _) (Below.refl _ _) HW2.out
 ·have HLR:=Lib.hid (lit_reads (w.alloc (.cells #[.int .u8 7,.int .u8 bop,.int .i64 d,.int .i64 e,.int .i64 a,.int .i64 b,.int .i64 f,.int .i64 cell,.int .u64 imm,.slice ao nA ac,.int .i64 nx,.int .i64 el] 70)) 3 (i64c [nx]) 1 rfl)
  have HW2:Hid (Below w.heap.size w ((w.alloc (.cells #[.int .u8 7,.int .u8 bop,.int .i64 d,.int .i64 e,.int .i64 a,.int .i64 b,.int .i64 f,.int .i64 cell,.int .u64 imm,.slice ao nA ac,.int .i64 nx,.int .i64 el] 70)).alloc (.cells #[.int .i64 nx] 3))):=HW1.out.alloc (by simp) _
  rw [hz1] at HLR
  go_enter Try.func43,Try.ntmps43
  go_wp2
  go_ret
  exact NewI.mk' (l:=[nx]) rfl rfl (HLR.out.more (by simp)) (Nat.le_refl _) (Below.refl _ _) HW2.out
 ·have HLR:=Lib.hid (lit_reads (w.alloc (.cells #[.int .u8 8,.int .u8 bop,.int .i64 d,.int .i64 e,.int .i64 a,.int .i64 b,.int .i64 f,.int .i64 cell,.int .u64 imm,.slice ao nA ac,.int .i64 nx,.int .i64 el] 70)) 3 (i64c [nx]) 1 rfl)
  have HW2:Hid (Below w.heap.size w ((w.alloc (.cells #[.int .u8 8,.int .u8 bop,.int .i64 d,.int .i64 e,.int .i64 a,.int .i64 b,.int .i64 f,.int .i64 cell,.int .u64 imm,.slice ao nA ac,.int .i64 nx,.int .i64 el] 70)).alloc (.cells #[.int .i64 nx] 3))):=HW1.out.alloc (by simp) _
  rw [hz1] at HLR
  go_enter Try.func43,Try.ntmps43
  go_wp2
  go_ret
  exact NewI.mk' (l:=[nx]) rfl rfl (HLR.out.more (by simp)) (Nat.le_refl _) (Below.refl _ _) HW2.out
 ·by_cases hne:el=nx
  ·have hg:(el != nx)=false:=by simpa using hne
   have HE:=Lib.hid hne
   clear hne
   have HLR:=Lib.hid (lit_reads (w.alloc (.cells #[.int .u8 9,.int .u8 bop,.int .i64 d,.int .i64 e,.int .i64 a,.int .i64 b,.int .i64 f,.int .i64 cell,.int .u64 imm,.slice ao nA ac,.int .i64 nx,.int .i64 el] 70)) 3 (i64c [nx]) 1 rfl)
   have HW2:Hid (Below w.heap.size w ((w.alloc (.cells #[.int .u8 9,.int .u8 bop,.int .i64 d,.int .i64 e,.int .i64 a,.int .i64 b,.int .i64 f,.int .i64 cell,.int .u64 imm,.slice ao nA ac,.int .i64 nx,.int .i64 el] 70)).alloc (.cells #[.int .i64 nx] 3))):=HW1.out.alloc (by simp) _
   rw [hz1] at HLR
   go_enter Try.func43,Try.ntmps43
   go_wp2
   go_ret
   exact NewI.mk' (l:=[nx]) (by unfold nextsOf;simp [HE.out]) rfl (HLR.out.more (by simp)) (Nat.le_refl _) (Below.refl _ _) HW2.out
  ·have hg:(el != nx)=true:=by simpa using hne
   have HE:=Lib.hid hne
   clear hne
   have HLR:=Lib.hid (lit_reads (w.alloc (.cells #[.int .u8 9,.int .u8 bop,.int .i64 d,.int .i64 e,.int .i64 a,.int .i64 b,.int .i64 f,.int .i64 cell,.int .u64 imm,.slice ao nA ac,.int .i64 nx,.int .i64 el] 70)) 3 (i64c [nx,el]) 2 rfl)
   have HW2:Hid (Below w.heap.size w ((w.alloc (.cells #[.int .u8 9,.int .u8 bop,.int .i64 d,.int .i64 e,.int .i64 a,.int .i64 b,.int .i64 f,.int .i64 cell,.int .u64 imm,.slice ao nA ac,.int .i64 nx,.int .i64 el] 70)).alloc (.cells #[.int .i64 nx,.int .i64 el] 3))):=HW1.out.alloc (by simp) _
   rw [hz1] at HLR
   go_enter Try.func43,Try.ntmps43
   go_wp2
   go_ret
   exact NewI.mk' (l:=[nx,el]) (by unfold nextsOf;simp [HE.out]) rfl (HLR.out.more (by simp)) (Nat.le_refl _) (Below.refl _ _) HW2.out
 ·have HLR:=Lib.hid (lit_reads (w.alloc (.cells #[.int .u8 10,.int .u8 bop,.int .i64 d,.int .i64 e,.int .i64 a,.int .i64 b,.int .i64 f,.int .i64 cell,.int .u64 imm,.slice ao nA ac,.int .i64 nx,.int .i64 el] 70)) 3 (i64c [nx]) 1 rfl)
  have HW2:Hid (Below w.heap.size w ((w.alloc (.cells #[.int .u8 10,.int .u8 bop,.int .i64 d,.int .i64 e,.int .i64 a,.int .i64 b,.int .i64 f,.int .i64 cell,.int .u64 imm,.slice ao nA ac,.int .i64 nx,.int .i64 el] 70)).alloc (.cells #[.int .i64 nx] 3))):=HW1.out.alloc (by simp) _
  rw [hz1] at HLR
  go_enter Try.func43,Try.ntmps43
  go_wp2
  go_ret
  exact NewI.mk' (l:=[nx]) rfl rfl (HLR.out.more (by simp)) (Nat.le_refl _) (Below.refl _ _) HW2.out
 ·have HLR:=Lib.hid (lit_reads (w.alloc (.cells #[.int .u8 11,.int .u8 bop,.int .i64 d,.int .i64 e,.int .i64 a,.int .i64 b,.int .i64 f,.int .i64 cell,.int .u64 imm,.slice ao nA ac,.int .i64 nx,.int .i64 el] 70)) 3 (i64c [nx]) 1 rfl)
  have HW2:Hid (Below w.heap.size w ((w.alloc (.cells #[.int .u8 11,.int .u8 bop,.int .i64 d,.int .i64 e,.int .i64 a,.int .i64 b,.int .i64 f,.int .i64 cell,.int .u64 imm,.slice ao nA ac,.int .i64 nx,.int .i64 el] 70)).alloc (.cells #[.int .i64 nx] 3))):=HW1.out.alloc (by simp) _
  rw [hz1] at HLR
  go_enter Try.func43,Try.ntmps43
  go_wp2
  go_ret
  exact NewI.mk' (l:=[nx]) rfl rfl (HLR.out.more (by simp)) (Nat.le_refl _) (Below.refl _ _) HW2.out
 ·go_enter Try.func43,Try.ntmps43
  go_wp2
  go_ret
  exact NewI.mk' (l:=[]) rfl rfl Reads.none_ (Nat.le_refl _) (Below.refl _ _) HW1.out
 ·have HLR:=Lib.hid (lit_reads (w.alloc (.cells #[.int .u8 13,.int .u8 bop,.int .i64 d,.int .i64 e,.int .i64 a,.int .i64 b,.int .i64 f,.int .i64 cell,.int .u64 imm,.slice ao nA ac,.int .i64 nx,.int .i64 el] 70)) 3 (i64c [nx]) 1 rfl)
  have HW2:Hid (Below w.heap.size w ((w.alloc (.cells #[.int .u8 13,.int .u8 bop,.int .i64 d,.int .i64 e,.int .i64 a,.int .i64 b,.int .i64 f,.int .i64 cell,.int .u64 imm,.slice ao nA ac,.int .i64 nx,.int .i64 el] 70)).alloc (.cells #[.int .i64 nx] 3))):=HW1.out.alloc (by simp) _
  rw [hz1] at HLR
  go_enter Try.func43,Try.ntmps43
  go_wp2
  go_ret
  exact NewI.mk' (l:=[nx]) rfl rfl (HLR.out.more (by simp)) (Nat.le_refl _) (Below.refl _ _) HW2.out
 ·go_enter Try.func43,Try.ntmps43
  go_wp2
  go_ret
  exact NewI.mk' (l:=[]) rfl rfl Reads.none_ (Nat.le_refl _) (Below.refl _ _) HW1.out
 ·have HLR:=Lib.hid (lit_reads (w.alloc (.cells #[.int .u8 15,.int .u8 bop,.int .i64 d,.int .i64 e,.int .i64 a,.int .i64 b,.int .i64 f,.int .i64 cell,.int .u64 imm,.slice ao nA ac,.int .i64 nx,.int .i64 el] 70)) 3 (i64c [nx]) 1 rfl)
  have HW2:Hid (Below w.heap.size w ((w.alloc (.cells #[.int .u8 15,.int .u8 bop,.int .i64 d,.int .i64 e,.int .i64 a,.int .i64 b,.int .i64 f,.int .i64 cell,.int .u64 imm,.slice ao nA ac,.int .i64 nx,.int .i64 el] 70)).alloc (.cells #[.int .i64 nx] 3))):=HW1.out.alloc (by simp) _
  rw [hz1] at HLR
  go_enter Try.func43,Try.ntmps43
  go_wp2
  go_ret
  exact NewI.mk' (l:=[nx]) rfl rfl (HLR.out.more (by simp)) (Nat.le_refl _) (Below.refl _ _) HW2.out
 ·have HLR:=Lib.hid (lit_reads (w.alloc (.cells #[.int .u8 16,.int .u8 bop,.int .i64 d,.int .i64 e,.int .i64 a,.int .i64 b,.int .i64 f,.int .i64 cell,.int .u64 imm,.slice ao nA ac,.int .i64 nx,.int .i64 el] 70)) 3 (i64c [nx]) 1 rfl)
  have HW2:Hid (Below w.heap.size w ((w.alloc (.cells #[.int .u8 16,.int .u8 bop,.int .i64 d,.int .i64 e,.int .i64 a,.int .i64 b,.int .i64 f,.int .i64 cell,.int .u64 imm,.slice ao nA ac,.int .i64 nx,.int .i64 el] 70)).alloc (.cells #[.int .i64 nx] 3))):=HW1.out.alloc (by simp) _
  rw [hz1] at HLR
  go_enter Try.func43,Try.ntmps43
  go_wp2
  go_ret
  exact NewI.mk' (l:=[nx]) rfl rfl (HLR.out.more (by simp)) (Nat.le_refl _) (Below.refl _ _) HW2.out
 ·have HLR:=Lib.hid (lit_reads (w.alloc (.cells #[.int .u8 17,.int .u8 bop,.int .i64 d,.int .i64 e,.int .i64 a,.int .i64 b,.int .i64 f,.int .i64 cell,.int .u64 imm,.slice ao nA ac,.int .i64 nx,.int .i64 el] 70)) 3 (i64c [nx]) 1 rfl)
  have HW2:Hid (Below w.heap.size w ((w.alloc (.cells #[.int .u8 17,.int .u8 bop,.int .i64 d,.int .i64 e,.int .i64 a,.int .i64 b,.int .i64 f,.int .i64 cell,.int .u64 imm,.slice ao nA ac,.int .i64 nx,.int .i64 el] 70)).alloc (.cells #[.int .i64 nx] 3))):=HW1.out.alloc (by simp) _
  rw [hz1] at HLR
  go_enter Try.func43,Try.ntmps43
  go_wp2
  go_ret
  exact NewI.mk' (l:=[nx]) rfl rfl (HLR.out.more (by simp)) (Nat.le_refl _) (Below.refl _ _) HW2.out
 ·go_enter Try.func43,Try.ntmps43
  go_wp2
  go_ret
  exact NewI.mk' (l:=[]) rfl rfl Reads.none_ (Nat.le_refl _) (Below.refl _ _) HW1.out
 ·have HLL:Hid (nextsOf ⟨op,bop,d,e,a,b,f,cell,imm,args,nx,el⟩=[]):=Lib.hid (by unfold nextsOf;rw [if_pos];show op<1∨18<op∨op=12∨op=14∨op=18;omega)
  have g12:(op == 12)=false:=by simp;omega
  have g14:(op == 14)=false:=by simp;omega
  have g18:(op == 18)=false:=by simp;omega
  have g9:(op == 9)=false:=by simp;omega
  have q1:decide (op≥1)=true∧decide (op≤18)=false∨decide (op≥1)=false:=by simp;omega
  have q2:decide (op<1)=true∨decide (op<1)=false∧decide (op > 18)=true:=by simp;omega
  rcases q1 with ⟨q1,q1'⟩ | q1 <;> rcases q2 with q2 | ⟨q2,q2'⟩
  all_goals
   go_enter Try.func43,Try.ntmps43
   go_wp2
   go_ret
   exact NewI.mk' HLL.out.symm rfl Reads.none_ (Nat.le_refl _) (Below.refl _ _) HW1.out
theorem in_any (B:Nat) (A:Option Addr) (n c:Nat) (l:List Int) (x:Int) (w:World) (h:Reads w B 1 A n (i64c l)) (hn:l.length=n) (hnb:n≤140737488351232) :
  Calls Try.prog 41 #[.slice A n c,.int .i64 x] w fun e w'=>e=.returned (.bool (decide (x ∈ l)))∧w'=w:=by
 have H:=Lib.hid h
 have HN:=Lib.hid hn
 clear h hn
 go_enter Try.func41,Try.ntmps41
 go_wp2
 go_loopw [9] (fun i wr=>∃ k:Nat,k≤n∧i=.int .i64 k∧Hid (x ∉ l.take k)∧wr=w) (fun i _=>n-(intOf i).toNat)
 case atStart=>exact ⟨0,Nat.zero_le _,rfl,Lib.hid (by simp),rfl⟩
 case round =>
  obtain ⟨k,hk,rfl,HP,rfl⟩:=hrel
  by_cases hlt:k<n
  ·obtain ⟨b,off,y,rfl,hb,HX,x1⟩:=H.out.int hlt
   by_cases hxy:y=x
   ·have hd:(y == x)=true:=by simpa using hxy
    have HR:Hid (decide (x ∈ l)=true):=Lib.hid (by rw [decide_eq_true_eq,← hxy];exact List.mem_of_getElem? HX.out)
    clear hxy
    go_wp2
    go_ret
    exact ⟨by rw [HR.out];rfl,rfl⟩
   ·have hd:(y == x)=false:=by simpa using hxy
    have HQ:Hid (x ∉ l.take (k+1)):=Lib.hid (by
     rw [take_at HX.out]
     simp only [List.mem_append,List.mem_singleton,not_or]
     exact ⟨HP.out,fun e=>hxy e.symm⟩)
    clear hxy
    go_wp2
    go_roundw
    case rel=>exact ⟨k+1,by omega,by go_num,HQ,by first | rfl | trivial⟩
    case measure=>simp [intOf];omega
  ·obtain rfl:n=k:=by omega
   have HR:Hid (decide (x ∈ l)=false):=Lib.hid (by
    have h:=HP.out
    rw [List.take_of_length_le (by rw [HN.out];omega)] at h
    simpa using h)
   go_wp2
   go_ret
   exact ⟨by rw [HR.out];rfl,rfl⟩

def retHolds (ks:List Int) (bd res:Bool) (a:Int):Prop:=if res=true then fits ks bd a 0 else a=-1
instance (ks:List Int) (bd res:Bool) (a:Int):Decidable (retHolds ks bd res a):=by unfold retHolds;infer_instance
theorem grAt_of {rs:List RG} {j:Nat} {r:RG} (h:rs[j]?=some r):grAt (grs rs) j=r.gr:=by
 unfold grAt grs
 simp [List.getD,h]
theorem Reads.upto {w:World} {B n k:Nat} {A:Option Addr} {l:List Int} (h:Reads w B 1 A n (i64c l)) (hk:k≤n):Reads w B 1 A k (i64c (l.take k)):=by
 refine ⟨by rw [length_i64c,List.length_take];have:=h.1;rw [length_i64c] at this;omega,fun hn=>?_⟩
 obtain ⟨ad,rfl,hb,hc⟩:=h.2 (by omega)
 refine ⟨ad,rfl,hb,fun j u hu=>hc j u ?_⟩
 unfold i64c at hu ⊢
 rw [List.map_take,List.getElem?_take] at hu
 split at hu
 ·exact hu
 ·cases hu

theorem nexts_lenC (n:Nd):(nextsOf n).length≤2:=by
 unfold nextsOf
 split
 ·simp
 ·split <;> simp

theorem all_take {α:Type} {Q:α→Prop} {l:List α} {k:Nat} {x:α} (hx:l[k]?=some x) (hq:Q x) (hb:∀ y ∈ l.take k,Q y):∀ y ∈ l.take (k+1),Q y:=by
 intro y hy
 rw [List.take_add_one,hx] at hy
 rcases List.mem_append.1 hy with hy | hy
 ·exact hb y hy
 ·simp at hy;subst hy;exact hq
theorem holds_split {gs:List Gr} {g:Gr} {bd:Bool} {n:Nd} (hk:∀ k ∈ g.kinds,k=0∨k=1) (h1:1≤n.op) (h2:n.op≤18) :
  nodeHolds gs g bd n↔(∀ x ∈ nextsOf n,isOne x g.nodes.length)∧(∀ i,i<4→asked g.kinds bd ((wantOf n.op).getD i 45) ([n.d,n.e,n.a,n.b].getD i 0))∧restOf gs g bd n:=by
 rw [← rnode_eq hk (by omega) (by omega)]
 unfold rnode
 exact ⟨fun h=>h.2,fun h=>⟨⟨h1,h2⟩,h⟩⟩
theorem upto_snoc {Q:Nat→Prop} {k:Nat} (h:∀ i,i<k→Q i) (hk:Q k):∀ i,i<k+1→Q i:=fun i hi=>by
 rcases Nat.lt_or_ge i k with h1 | h1
 ·exact h i h1
 ·obtain rfl:i=k:=by omega
  exact hk
theorem asked_no {ks:List Int} {bd:Bool} {c p:Int} (h1:c≠110) (h2:c≠112):asked ks bd c p:=⟨fun h=>absurd h h1,fun h=>absurd h h2⟩
theorem asked_n {ks:List Int} {bd:Bool} {p:Int}:asked ks bd 110 p↔fits ks bd p 0:=⟨fun h=>h.1 rfl,fun h=>⟨fun _=>h,fun h=>by cases h⟩⟩
theorem asked_p {ks:List Int} {bd:Bool} {p:Int}:asked ks bd 112 p↔fits ks bd p 1:=⟨fun h=>h.2 rfl,fun h=>⟨(fun h=>by cases h),fun _=>h⟩⟩
end Go.Proofs.Ytgekmjkfnhogkaa
