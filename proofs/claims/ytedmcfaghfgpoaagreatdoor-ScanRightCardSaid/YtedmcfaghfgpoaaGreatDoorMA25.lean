/-
  Texts of one seat, one behind the other: Rf, Rnz.
-/
import Derived.Test.YtedmcfaghfgpoaaGreatDoorMA24
import Derived.Test.YtedmcfaghfgpoaaGreatDoorMA21
import Derived.Test.YtedmcfaghfgpoaaGreatDoorMA12

set_option linter.unusedVariables false
set_option linter.unusedSimpArgs false
set_option maxRecDepth 100000
set_option maxHeartbeats 51200000
namespace Go.Proofs.YtedmcfaghfgpoaaGreatDoor
open Go.ChangeShapes Go.WideShapes Go.ChangeAt Go.RowKit
theorem rfits_any (B:Nat) (ks:List Int) (po ko io no:Option Addr) (nP pc nK kc nI ic nN nc:Nat) (cells keep entry:Int) (res bd:Bool) (p k:Int) (w:World) (hk:Reads w B 1 ko nK (u8c ks)) (hkl:ks.length=nK) (hnb:nK≤140737488351232) (hB:B≤w.heap.size) :
  Calls Tryz.prog 32 #[.agg #[.slice po nP pc,.slice ko nK kc,.int .i64 cells,.slice io nI ic,.bool res,.int .i64 keep,.slice no nN nc,.int .i64 entry],.bool bd,.int .i64 p,.int .u8 k] w fun e w'=>e=.returned (.bool (decide (fits ks bd p k)))∧Below w.heap.size w w':=by
 have HBL:Hid (Below w.heap.size w (w.alloc (.cells #[.slice po nP pc,.slice ko nK kc,.int .i64 cells,.slice io nI ic,.bool res,.int .i64 keep,.slice no nN nc,.int .i64 entry] 35))):=(Below.refl _ _).alloc (Nat.le_refl _) _
 have HK:=lh (hk.below (HBL.out.mono hB))
 have HKL:=lh hkl
 clear hk hkl
 by_cases h0:0≤p
 rotate_left
 ·have HD:Hid (decide (fits ks bd p k)=false):=lh (by rw [dfi];rintro ⟨h,_⟩;exact h0 h.1)
  have g0:decide (p≥0)=false:=by simp;omega
  clear h0
  go_enter Tryz.func32,Tryz.ntmps32
  go_wp2
  go_ret
  exact ⟨by rw [HD.out];rfl,HBL.out⟩
 have g0:decide (p≥0)=true:=by simp;omega
 by_cases h1:p<nK
 rotate_left
 ·have HD:Hid (decide (fits ks bd p k)=false):=lh (by rw [dfi];rintro ⟨h,_⟩;have:=h.2;rw [HKL.out] at this;exact h1 this)
  have g1:decide (p<(nK:Int))=false:=by simp;omega
  clear h0 h1
  go_enter Tryz.func32,Tryz.ntmps32
  go_wp2
  go_ret
  exact ⟨by rw [HD.out];rfl,HBL.out⟩
 have g1:decide (p<(nK:Int))=true:=by simp;omega
 have HO:Hid (isOne p ks.length):=lh ⟨h0,by rw [HKL.out];exact h1⟩
 cases bd
 rotate_left
 ·have HD:Hid (decide (fits ks true p k)=true):=lh (by rw [decide_eq_true_eq];exact ⟨HO.out,.inl rfl⟩)
  clear h0 h1
  go_enter Tryz.func32,Tryz.ntmps32
  go_wp2
  go_ret
  exact ⟨by rw [HD.out];rfl,HBL.out⟩
 obtain ⟨j,rfl⟩:∃ j:Nat,p=(j:Int):=⟨p.toNat,by omega⟩
 have hj:j<nK:=by omega
 obtain ⟨bk,off,x,rfl,hbk,HX,x1⟩:=HK.out.byte hj
 have HD:Hid ((x == k)=decide (fits ks false j k)):=lh (by
  have hx:kindAt ks j=x:=by unfold kindAt;simp [List.getD,HX.out]
  rw [Bool.eq_iff_iff,beq_iff_eq,decide_eq_true_eq]
  unfold fits
  rw [hx]
  exact ⟨fun h=>⟨HO.out,.inr h⟩,fun h=>by rcases h.2 with h2 | h2;cases h2;exact h2⟩)
 have g1n:decide (j<nK)=true:=by simpa using hj
 cases hq:(x == k)
 all_goals
  rw [hq] at HD
  go_enter Tryz.func32,Tryz.ntmps32
  go_wp2
  go_ret
  exact ⟨by rw [← HD.out];rfl,HBL.out⟩

theorem rwant_1 (w:World):Calls Tryz.prog 34 #[.int .u8 1] w fun e w'=>e=.returned (.string { data:=#[110,45,45,45] })∧Below w.heap.size w w':=by
 go_enter Tryz.func34,Tryz.ntmps34
 go_wp2
 go_ret
 exact ⟨rfl,(Below.refl _ _).alloc (Nat.le_refl _) _⟩
theorem rwant_2 (w:World):Calls Tryz.prog 34 #[.int .u8 2] w fun e w'=>e=.returned (.string { data:=#[61,45,61,45] })∧Below w.heap.size w w':=by
 go_enter Tryz.func34,Tryz.ntmps34
 go_wp2
 go_ret
 exact ⟨rfl,(Below.refl _ _).alloc (Nat.le_refl _) _⟩
theorem rwant_3 (w:World):Calls Tryz.prog 34 #[.int .u8 3] w fun e w'=>e=.returned (.string { data:=#[110,45,110,110] })∧Below w.heap.size w w':=by
 go_enter Tryz.func34,Tryz.ntmps34
 go_wp2
 go_ret
 exact ⟨rfl,(Below.refl _ _).alloc (Nat.le_refl _) _⟩
theorem rwant_4 (w:World):Calls Tryz.prog 34 #[.int .u8 4] w fun e w'=>e=.returned (.string { data:=#[110,45,45,45] })∧Below w.heap.size w w':=by
 go_enter Tryz.func34,Tryz.ntmps34
 go_wp2
 go_ret
 exact ⟨rfl,(Below.refl _ _).alloc (Nat.le_refl _) _⟩
theorem rwant_5 (w:World):Calls Tryz.prog 34 #[.int .u8 5] w fun e w'=>e=.returned (.string { data:=#[45,45,110,45] })∧Below w.heap.size w w':=by
 go_enter Tryz.func34,Tryz.ntmps34
 go_wp2
 go_ret
 exact ⟨rfl,(Below.refl _ _).alloc (Nat.le_refl _) _⟩
theorem rwant_6 (w:World):Calls Tryz.prog 34 #[.int .u8 6] w fun e w'=>e=.returned (.string { data:=#[112,45,45,45] })∧Below w.heap.size w w':=by
 go_enter Tryz.func34,Tryz.ntmps34
 go_wp2
 go_ret
 exact ⟨rfl,(Below.refl _ _).alloc (Nat.le_refl _) _⟩
theorem rwant_7 (w:World):Calls Tryz.prog 34 #[.int .u8 7] w fun e w'=>e=.returned (.string { data:=#[110,45,112,45] })∧Below w.heap.size w w':=by
 go_enter Tryz.func34,Tryz.ntmps34
 go_wp2
 go_ret
 exact ⟨rfl,(Below.refl _ _).alloc (Nat.le_refl _) _⟩
theorem rwant_8 (w:World):Calls Tryz.prog 34 #[.int .u8 8] w fun e w'=>e=.returned (.string { data:=#[45,45,112,110] })∧Below w.heap.size w w':=by
 go_enter Tryz.func34,Tryz.ntmps34
 go_wp2
 go_ret
 exact ⟨rfl,(Below.refl _ _).alloc (Nat.le_refl _) _⟩
theorem rwant_9 (w:World):Calls Tryz.prog 34 #[.int .u8 9] w fun e w'=>e=.returned (.string { data:=#[45,45,110,45] })∧Below w.heap.size w w':=by
 go_enter Tryz.func34,Tryz.ntmps34
 go_wp2
 go_ret
 exact ⟨rfl,(Below.refl _ _).alloc (Nat.le_refl _) _⟩
theorem rwant_10 (w:World):Calls Tryz.prog 34 #[.int .u8 10] w fun e w'=>e=.returned (.string { data:=#[45,45,45,45] })∧Below w.heap.size w w':=by
 go_enter Tryz.func34,Tryz.ntmps34
 go_wp2
 go_ret
 exact ⟨rfl,(Below.refl _ _).alloc (Nat.le_refl _) _⟩
theorem rwant_11 (w:World):Calls Tryz.prog 34 #[.int .u8 11] w fun e w'=>e=.returned (.string { data:=#[45,45,45,45] })∧Below w.heap.size w w':=by
 go_enter Tryz.func34,Tryz.ntmps34
 go_wp2
 go_ret
 exact ⟨rfl,(Below.refl _ _).alloc (Nat.le_refl _) _⟩
theorem rwant_12 (w:World):Calls Tryz.prog 34 #[.int .u8 12] w fun e w'=>e=.returned (.string { data:=#[45,45,45,45] })∧Below w.heap.size w w':=by
 go_enter Tryz.func34,Tryz.ntmps34
 go_wp2
 go_ret
 exact ⟨rfl,(Below.refl _ _).alloc (Nat.le_refl _) _⟩
theorem rwant_13 (w:World):Calls Tryz.prog 34 #[.int .u8 13] w fun e w'=>e=.returned (.string { data:=#[45,45,45,45] })∧Below w.heap.size w w':=by
 go_enter Tryz.func34,Tryz.ntmps34
 go_wp2
 go_ret
 exact ⟨rfl,(Below.refl _ _).alloc (Nat.le_refl _) _⟩
theorem rwant_14 (w:World):Calls Tryz.prog 34 #[.int .u8 14] w fun e w'=>e=.returned (.string { data:=#[45,45,110,45] })∧Below w.heap.size w w':=by
 go_enter Tryz.func34,Tryz.ntmps34
 go_wp2
 go_ret
 exact ⟨rfl,(Below.refl _ _).alloc (Nat.le_refl _) _⟩
theorem rwant_15 (w:World):Calls Tryz.prog 34 #[.int .u8 15] w fun e w'=>e=.returned (.string { data:=#[110,110,45,45] })∧Below w.heap.size w w':=by
 go_enter Tryz.func34,Tryz.ntmps34
 go_wp2
 go_ret
 exact ⟨rfl,(Below.refl _ _).alloc (Nat.le_refl _) _⟩
theorem rwant_16 (w:World):Calls Tryz.prog 34 #[.int .u8 16] w fun e w'=>e=.returned (.string { data:=#[110,45,45,45] })∧Below w.heap.size w w':=by
 go_enter Tryz.func34,Tryz.ntmps34
 go_wp2
 go_ret
 exact ⟨rfl,(Below.refl _ _).alloc (Nat.le_refl _) _⟩
theorem rwant_17 (w:World):Calls Tryz.prog 34 #[.int .u8 17] w fun e w'=>e=.returned (.string { data:=#[45,45,110,45] })∧Below w.heap.size w w':=by
 go_enter Tryz.func34,Tryz.ntmps34
 go_wp2
 go_ret
 exact ⟨rfl,(Below.refl _ _).alloc (Nat.le_refl _) _⟩
theorem rwant_18 (w:World):Calls Tryz.prog 34 #[.int .u8 18] w fun e w'=>e=.returned (.string { data:=#[45,45,110,45] })∧Below w.heap.size w w':=by
 go_enter Tryz.func34,Tryz.ntmps34
 go_wp2
 go_ret
 exact ⟨rfl,(Below.refl _ _).alloc (Nat.le_refl _) _⟩
theorem holds_split {gs:List Gr} {g:Gr} {bd:Bool} {n:Nd} (hk:∀ k ∈ g.kinds,k=0∨k=1) (h1:1≤n.op) (h2:n.op≤18) :
  nodeHolds gs g bd n↔(∀ x ∈ nextsOf n,isOne x g.nodes.length)∧(∀ i,i<4→asked g.kinds bd ((wantOf n.op).getD i 45) ([n.d,n.e,n.a,n.b].getD i 0))∧restOf gs g bd n:=by
 rw [← rnode_eq hk (by omega) (by omega)]
 unfold rnode
 exact ⟨fun h=>h.2,fun h=>⟨⟨h1,h2⟩,h⟩⟩
theorem upto_snoc {Q:Nat→Prop} {k:Nat} (h:∀ i,i<k→Q i) (hk:Q k):∀ i,i<k+1→Q i:=fun i hi=>by
 rcases Nat.lt_or_ge i k with h1 | h1
 ·exact h i h1
 ·obtain rfl:i=k:=by omega
  exact hk
theorem asked_no {ks:List Int} {bd:Bool} {c p:Int} (h1:c≠110) (h2:c≠112):asked ks bd c p:=⟨fun h=>absurd h h1,fun h=>absurd h h2⟩
theorem asked_n {ks:List Int} {bd:Bool} {p:Int}:asked ks bd 110 p↔fits ks bd p 0:=⟨fun h=>h.1 rfl,fun h=>⟨fun _=>h,fun h=>by cases h⟩⟩
theorem asked_p {ks:List Int} {bd:Bool} {p:Int}:asked ks bd 112 p↔fits ks bd p 1:=⟨fun h=>h.2 rfl,fun h=>⟨(fun h=>by cases h),fun _=>h⟩⟩
end Go.Proofs.YtedmcfaghfgpoaaGreatDoor
