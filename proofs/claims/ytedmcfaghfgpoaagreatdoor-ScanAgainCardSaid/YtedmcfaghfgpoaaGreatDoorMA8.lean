/-
  Texts of one seat, one behind the other: Cu, Cv, LSp0.
-/
import Derived.BigQuiet
import Derived.Test.YtedmcfaghfgpoaaGreatDoorMA7

set_option linter.unusedVariables false
set_option linter.unusedSimpArgs false
set_option maxRecDepth 100000
set_option maxHeartbeats 51200000
namespace Go.Proofs.YtedmcfaghfgpoaaGreatDoor
open Go.ChangeShapes Go.WideShapes Go.ChangeAt Go.RowKit
theorem inOrder_any (B:Nat) (A:Option Addr) (n c:Nat) (l:List Int) (w:World) (h:Reads w B 1 A n (i64c l)) (hn:l.length=n) (hnb:n≤140737488351232) :
  Calls Tryz.prog 107 #[.slice A n c] w fun e w'=>e=.returned (.bool (decide (inOrder l)))∧w'=w:=by
 have H:=Lib.hid h
 have HN:=Lib.hid hn
 clear h hn
 go_enter Tryz.func107,Tryz.ntmps107
 go_wp2
 go_loopw [7] (fun i wr=>∃ k:Nat,k≤n∧i=.int .i64 k∧Hid (∀ j,j<k→l.getD j 0=(j:Int))∧wr=w) (fun i _=>n-(intOf i).toNat)
 case atStart=>exact ⟨0,Nat.zero_le _,rfl,Lib.hid (by intro j hj;omega),rfl⟩
 case round =>
  obtain ⟨k,hk,rfl,HP,rfl⟩:=hrel
  by_cases hlt:k<n
  ·obtain ⟨b,off,y,rfl,hb,HX,x1⟩:=H.out.int hlt
   have HG:Hid (l.getD k 0=y):=Lib.hid (by simp [List.getD,HX.out])
   by_cases hxy:y=k
   ·have hd:(y != (k:Int))=false:=by simpa using hxy
    have HQ:Hid (∀ j,j<k+1→l.getD j 0=(j:Int)):=Lib.hid (by
     intro j hj
     by_cases hjk:j<k
     ·exact HP.out j hjk
     ·obtain rfl:j=k:=by omega
      rw [HG.out,hxy])
    clear hxy
    go_wp2
    go_roundw
    case rel=>exact ⟨k+1,by omega,by go_num,HQ,by first | rfl | trivial⟩
    case measure=>simp [intOf];omega
   ·have hd:(y != (k:Int))=true:=by simpa using hxy
    have HR:Hid (decide (inOrder l)=false):=Lib.hid (by
     rw [decide_eq_false_iff_not]
     intro hh
     exact hxy (by rw [← HG.out];exact hh k (by rw [HN.out];exact hlt)))
    clear hxy
    go_wp2
    go_ret
    exact ⟨by rw [HR.out];rfl,by first | rfl | trivial⟩
  ·obtain rfl:n=k:=by omega
   have HR:Hid (decide (inOrder l)=true):=Lib.hid (by rw [decide_eq_true_eq];intro j hj;exact HP.out j (by rw [← HN.out];exact hj))
   go_wp2
   go_ret
   exact ⟨by rw [HR.out];rfl,by first | rfl | trivial⟩

theorem are_lit (B p:Nat) (l:List Int) (n:Nat) (ks:List Int) (k:Int) (fo:Option Addr) (nF cF:Nat) (po ko io no:Option Addr) (nP pc nK kc nI ic nN nc:Nat) (cells keep entry:Int) (res bd:Bool) (w1 W:World) (hn:l.length=n) (hn4:n≤4) (hk:Reads w1 B 1 ko nK (u8c ks)) (hkl:ks.length=nK) (hB:B≤w1.heap.size) (hp:p=w1.heap.size)
  (hW:W=w1.alloc (.cells (i64c l).toArray 3)∨W=(w1.alloc (.cells (i64c l).toArray 3)).drew) :
  Calls Tryz.prog 108 #[.agg #[.slice fo nF cF,.slice po nP pc,.slice ko nK kc,.int .i64 cells,.slice io nI ic,.bool res,.int .i64 keep,.slice no nN nc,.int .i64 entry,.bool bd],.int .u8 k,.slice (some ⟨p,0,none⟩) n n] W fun e w'=>e=.returned (.bool (decide (∀ p ∈ l,fits ks bd p k)))∧Below w1.heap.size w1 w':=by
 subst hp
 have hr:=lit_reads w1 3 (i64c l) n (by rw [length_i64c,hn])
 have h2:Below w1.heap.size w1 (w1.alloc (.cells (i64c l).toArray 3)):=(Below.refl _ _).alloc (Nat.le_refl _) _
 rcases hW with rfl | rfl
 ·refine (are_any (w1.heap.size+1) _ n n l ks k fo nF cF po ko io no nP pc nK kc nI ic nN nc cells keep entry res bd _ hr hn (by omega) ((hk.below (h2.mono hB)).more (by omega)) hkl (by simp)).mono ?_
  rintro e w' ⟨rfl,h3⟩
  exact ⟨rfl,h2.trans (h3.mono (by simp))⟩
 ·refine (are_any (w1.heap.size+1) _ n n l ks k fo nF cF po ko io no nP pc nK kc nI ic nN nc cells keep entry res bd _ hr.drew hn (by omega) ((hk.below (h2.mono hB)).more (by omega)).drew hkl (by simp)).mono ?_
  rintro e w' ⟨rfl,h3⟩
  exact ⟨rfl,(below_drewN h2 1).trans (h3.mono (by simp))⟩
theorem exist_lit (p:Nat) (l:List Int) (n:Nat) (fo:Option Addr) (nF cF:Nat) (po ko io no:Option Addr) (nP pc nK kc nI ic nN nc:Nat) (cells keep entry:Int) (res bd:Bool) (w1 W:World) (hn:l.length=n) (hn4:n≤4) (hp:p=w1.heap.size)
  (hW:W=w1.alloc (.cells (i64c l).toArray 3)∨W=(w1.alloc (.cells (i64c l).toArray 3)).drew) :
  Calls Tryz.prog 109 #[.agg #[.slice fo nF cF,.slice po nP pc,.slice ko nK kc,.int .i64 cells,.slice io nI ic,.bool res,.int .i64 keep,.slice no nN nc,.int .i64 entry,.bool bd],.slice (some ⟨p,0,none⟩) n n] W fun e w'=>e=.returned (.bool (decide (∀ p ∈ l,isOne p nK)))∧Below w1.heap.size w1 w':=by
 subst hp
 have hr:=lit_reads w1 3 (i64c l) n (by rw [length_i64c,hn])
 have h2:Below w1.heap.size w1 (w1.alloc (.cells (i64c l).toArray 3)):=(Below.refl _ _).alloc (Nat.le_refl _) _
 rcases hW with rfl | rfl
 ·refine (exist_any (w1.heap.size+1) _ n n l fo nF cF po ko io no nP pc nK kc nI ic nN nc cells keep entry res bd _ hr hn (by omega) (by simp)).mono ?_
  rintro e w' ⟨rfl,h3⟩
  exact ⟨rfl,h2.trans (h3.mono (by simp))⟩
 ·refine (exist_any (w1.heap.size+1) _ n n l fo nF cF po ko io no nP pc nK kc nI ic nN nc cells keep entry res bd _ hr.drew hn (by omega) (by simp)).mono ?_
  rintro e w' ⟨rfl,h3⟩
  exact ⟨rfl,(below_drewN h2 1).trans (h3.mono (by simp))⟩
theorem all_one (Q:Int→Prop) [DecidablePred Q] (x:Int):decide (∀ p ∈ [x],Q p)=decide (Q x):=by rw [decide_eq_decide];simp
def retHolds (ks:List Int) (bd res:Bool) (a:Int):Prop:=if res=true then fits ks bd a 0 else a=-1
instance (ks:List Int) (bd res:Bool) (a:Int):Decidable (retHolds ks bd res a):=by unfold retHolds;infer_instance
theorem hasCell_any (fo:Option Addr) (nF cF:Nat) (po ko io no:Option Addr) (nP pc nK kc nI ic nN nc:Nat) (cells keep entry:Int) (res bd:Bool) (op bop d e a b f cell imm:Int) (args:List Int) (nx el:Int) (ao:Option Addr) (nA ac:Nat) (w:World) :
  Calls Tryz.prog 110 #[.agg #[.slice fo nF cF,.slice po nP pc,.slice ko nK kc,.int .i64 cells,.slice io nI ic,.bool res,.int .i64 keep,.slice no nN nc,.int .i64 entry,.bool bd],.agg #[.int .u8 op,.int .u8 bop,.int .i64 d,.int .i64 e,.int .i64 a,.int .i64 b,.int .i64 f,.int .i64 cell,.int .u64 imm,.slice ao nA ac,.int .i64 nx,.int .i64 el]] w fun e w'=>e=.returned (.bool (decide (isOne cell cells)))∧Below w.heap.size w w':=by
 have HB2:Hid (Below w.heap.size w ((w.alloc (.cells #[.slice fo nF cF,.slice po nP pc,.slice ko nK kc,.int .i64 cells,.slice io nI ic,.bool res,.int .i64 keep,.slice no nN nc,.int .i64 entry,.bool bd] 142)).alloc (.cells #[.int .u8 op,.int .u8 bop,.int .i64 d,.int .i64 e,.int .i64 a,.int .i64 b,.int .i64 f,.int .i64 cell,.int .u64 imm,.slice ao nA ac,.int .i64 nx,.int .i64 el] 47))):=((Below.refl _ _).alloc (Nat.le_refl _) _).alloc (by simp) _
 have HCB:Hid (Blk ((w.alloc (.cells #[.slice fo nF cF,.slice po nP pc,.slice ko nK kc,.int .i64 cells,.slice io nI ic,.bool res,.int .i64 keep,.slice no nN nc,.int .i64 entry,.bool bd] 142)).alloc (.cells #[.int .u8 op,.int .u8 bop,.int .i64 d,.int .i64 e,.int .i64 a,.int .i64 b,.int .i64 f,.int .i64 cell,.int .u64 imm,.slice ao nA ac,.int .i64 nx,.int .i64 el] 47)) w.heap.size 142 #[.slice fo nF cF,.slice po nP pc,.slice ko nK kc,.int .i64 cells,.slice io nI ic,.bool res,.int .i64 keep,.slice no nN nc,.int .i64 entry,.bool bd]):=Lib.hid ((Blk.new w 142 #[.slice fo nF cF,.slice po nP pc,.slice ko nK kc,.int .i64 cells,.slice io nI ic,.bool res,.int .i64 keep,.slice no nN nc,.int .i64 entry,.bool bd]).alloc _)
 have HNB:Hid (Blk ((w.alloc (.cells #[.slice fo nF cF,.slice po nP pc,.slice ko nK kc,.int .i64 cells,.slice io nI ic,.bool res,.int .i64 keep,.slice no nN nc,.int .i64 entry,.bool bd] 142)).alloc (.cells #[.int .u8 op,.int .u8 bop,.int .i64 d,.int .i64 e,.int .i64 a,.int .i64 b,.int .i64 f,.int .i64 cell,.int .u64 imm,.slice ao nA ac,.int .i64 nx,.int .i64 el] 47)) (w.heap.size+1) 47 #[.int .u8 op,.int .u8 bop,.int .i64 d,.int .i64 e,.int .i64 a,.int .i64 b,.int .i64 f,.int .i64 cell,.int .u64 imm,.slice ao nA ac,.int .i64 nx,.int .i64 el]):=Lib.hid (by
  have:=Blk.new (w.alloc (.cells #[.slice fo nF cF,.slice po nP pc,.slice ko nK kc,.int .i64 cells,.slice io nI ic,.bool res,.int .i64 keep,.slice no nN nc,.int .i64 entry,.bool bd] 142)) 47 #[.int .u8 op,.int .u8 bop,.int .i64 d,.int .i64 e,.int .i64 a,.int .i64 b,.int .i64 f,.int .i64 cell,.int .u64 imm,.slice ao nA ac,.int .i64 nx,.int .i64 el]
  rwa [show (w.alloc (.cells #[.slice fo nF cF,.slice po nP pc,.slice ko nK kc,.int .i64 cells,.slice io nI ic,.bool res,.int .i64 keep,.slice no nN nc,.int .i64 entry,.bool bd] 142)).heap.size=w.heap.size+1 by simp] at this)
 go_enter Tryz.func110,Tryz.ntmps110
 go_wp2_with (first | (go_at_call 95;refine (isOne_any _ _ _).mono ?_;rintro e w2 ⟨rfl,rfl⟩))
 go_ret
 exact ⟨rfl,HB2.out⟩

theorem returns_any (B:Nat) (ks:List Int) (fo:Option Addr) (nF cF:Nat) (po ko io no:Option Addr) (nP pc nK kc nI ic nN nc:Nat) (cells keep entry:Int) (res bd:Bool) (op bop d e a b f cell imm:Int) (args:List Int) (nx el:Int) (ao:Option Addr) (nA ac:Nat) (w:World) (hk:Reads w B 1 ko nK (u8c ks)) (hkl:ks.length=nK) (hB:B≤w.heap.size) :
  Calls Tryz.prog 113 #[.agg #[.slice fo nF cF,.slice po nP pc,.slice ko nK kc,.int .i64 cells,.slice io nI ic,.bool res,.int .i64 keep,.slice no nN nc,.int .i64 entry,.bool bd],.agg #[.int .u8 op,.int .u8 bop,.int .i64 d,.int .i64 e,.int .i64 a,.int .i64 b,.int .i64 f,.int .i64 cell,.int .u64 imm,.slice ao nA ac,.int .i64 nx,.int .i64 el]] w fun e w'=>e=.returned (.bool (decide (retHolds ks bd res a)))∧Below w.heap.size w w':=by
 have HB2:Hid (Below w.heap.size w ((w.alloc (.cells #[.slice fo nF cF,.slice po nP pc,.slice ko nK kc,.int .i64 cells,.slice io nI ic,.bool res,.int .i64 keep,.slice no nN nc,.int .i64 entry,.bool bd] 142)).alloc (.cells #[.int .u8 op,.int .u8 bop,.int .i64 d,.int .i64 e,.int .i64 a,.int .i64 b,.int .i64 f,.int .i64 cell,.int .u64 imm,.slice ao nA ac,.int .i64 nx,.int .i64 el] 47))):=((Below.refl _ _).alloc (Nat.le_refl _) _).alloc (by simp) _
 have HCB:Hid (Blk ((w.alloc (.cells #[.slice fo nF cF,.slice po nP pc,.slice ko nK kc,.int .i64 cells,.slice io nI ic,.bool res,.int .i64 keep,.slice no nN nc,.int .i64 entry,.bool bd] 142)).alloc (.cells #[.int .u8 op,.int .u8 bop,.int .i64 d,.int .i64 e,.int .i64 a,.int .i64 b,.int .i64 f,.int .i64 cell,.int .u64 imm,.slice ao nA ac,.int .i64 nx,.int .i64 el] 47)) w.heap.size 142 #[.slice fo nF cF,.slice po nP pc,.slice ko nK kc,.int .i64 cells,.slice io nI ic,.bool res,.int .i64 keep,.slice no nN nc,.int .i64 entry,.bool bd]):=Lib.hid ((Blk.new w 142 #[.slice fo nF cF,.slice po nP pc,.slice ko nK kc,.int .i64 cells,.slice io nI ic,.bool res,.int .i64 keep,.slice no nN nc,.int .i64 entry,.bool bd]).alloc _)
 have HNB:Hid (Blk ((w.alloc (.cells #[.slice fo nF cF,.slice po nP pc,.slice ko nK kc,.int .i64 cells,.slice io nI ic,.bool res,.int .i64 keep,.slice no nN nc,.int .i64 entry,.bool bd] 142)).alloc (.cells #[.int .u8 op,.int .u8 bop,.int .i64 d,.int .i64 e,.int .i64 a,.int .i64 b,.int .i64 f,.int .i64 cell,.int .u64 imm,.slice ao nA ac,.int .i64 nx,.int .i64 el] 47)) (w.heap.size+1) 47 #[.int .u8 op,.int .u8 bop,.int .i64 d,.int .i64 e,.int .i64 a,.int .i64 b,.int .i64 f,.int .i64 cell,.int .u64 imm,.slice ao nA ac,.int .i64 nx,.int .i64 el]):=Lib.hid (by
  have:=Blk.new (w.alloc (.cells #[.slice fo nF cF,.slice po nP pc,.slice ko nK kc,.int .i64 cells,.slice io nI ic,.bool res,.int .i64 keep,.slice no nN nc,.int .i64 entry,.bool bd] 142)) 47 #[.int .u8 op,.int .u8 bop,.int .i64 d,.int .i64 e,.int .i64 a,.int .i64 b,.int .i64 f,.int .i64 cell,.int .u64 imm,.slice ao nA ac,.int .i64 nx,.int .i64 el]
  rwa [show (w.alloc (.cells #[.slice fo nF cF,.slice po nP pc,.slice ko nK kc,.int .i64 cells,.slice io nI ic,.bool res,.int .i64 keep,.slice no nN nc,.int .i64 entry,.bool bd] 142)).heap.size=w.heap.size+1 by simp] at this)
 have HK:=Lib.hid (hk.below (HB2.out.mono hB))
 have HKL:=Lib.hid hkl
 clear hk hkl
 have HZ2:Hid (w.heap.size+1+1=((w.alloc (.cells #[.slice fo nF cF,.slice po nP pc,.slice ko nK kc,.int .i64 cells,.slice io nI ic,.bool res,.int .i64 keep,.slice no nN nc,.int .i64 entry,.bool bd] 142)).alloc (.cells #[.int .u8 op,.int .u8 bop,.int .i64 d,.int .i64 e,.int .i64 a,.int .i64 b,.int .i64 f,.int .i64 cell,.int .u64 imm,.slice ao nA ac,.int .i64 nx,.int .i64 el] 47)).heap.size):=Lib.hid (by simp)
 have hB2:B≤((w.alloc (.cells #[.slice fo nF cF,.slice po nP pc,.slice ko nK kc,.int .i64 cells,.slice io nI ic,.bool res,.int .i64 keep,.slice no nN nc,.int .i64 entry,.bool bd] 142)).alloc (.cells #[.int .u8 op,.int .u8 bop,.int .i64 d,.int .i64 e,.int .i64 a,.int .i64 b,.int .i64 f,.int .i64 cell,.int .u64 imm,.slice ao nA ac,.int .i64 nx,.int .i64 el] 47)).heap.size:=by simp;omega
 cases res
 ·have HD:Hid (decide (retHolds ks bd false a)=(a == -1)):=Lib.hid (by rw [Bool.eq_iff_iff,decide_eq_true_eq];unfold retHolds;simp)
  go_enter Tryz.func113,Tryz.ntmps113
  go_wp2
  go_ret
  exact ⟨by rw [HD.out];rfl,HB2.out⟩
 ·have HD:Hid (decide (∀ p ∈ [a],fits ks bd p 0)=decide (retHolds ks bd true a)):=Lib.hid (by rw [all_one (fun p=>fits ks bd p 0),decide_eq_decide];unfold retHolds;simp)
  go_enter Tryz.func113,Tryz.ntmps113
  go_wp2_with (first | (go_at_call 108;refine (are_lit B _ [a] 1 ks 0 _ _ _ _ _ _ _ _ _ _ _ _ _ _ _ _ _ _ _ _ _ _ rfl (by omega) HK.out HKL.out hB2 HZ2.out (by first | exact .inl rfl | exact .inr rfl)).mono ?_;rintro ee w3 ⟨rfl,hb3⟩;have HB3:=Lib.hid hb3;clear hb3;rw [HD.out]))
  go_ret
  exact ⟨rfl,HB2.out.trans (HB3.out.mono (by simp;omega))⟩

theorem grAt_of {rs:List RG} {j:Nat} {r:RG} (h:rs[j]?=some r):grAt (grs rs) j=r.gr:=by
 unfold grAt grs
 simp [List.getD,h]
theorem gets_any (B:Nat) (rs:List RG) (ps ks is:List Int) (nodes:List Nd) (fo:Option Addr) (nF cF:Nat) (po ko io no:Option Addr) (nP pc nK kc nI ic nN nc:Nat) (cells keep entry:Int) (res bd:Bool) (op bop d e a b f cell imm:Int) (args:List Int) (nx el:Int) (ao:Option Addr) (nA ac:Nat) (w:World) (HF0:RdP w B fo nF rs) (hf:isOne f nF) (hk:Reads w B 1 ko nK (u8c ks)) (hkl:ks.length=nK) (hB:B≤w.heap.size) :
  Calls Tryz.prog 112 #[.agg #[.slice fo nF cF,.slice po nP pc,.slice ko nK kc,.int .i64 cells,.slice io nI ic,.bool res,.int .i64 keep,.slice no nN nc,.int .i64 entry,.bool bd],.agg #[.int .u8 op,.int .u8 bop,.int .i64 d,.int .i64 e,.int .i64 a,.int .i64 b,.int .i64 f,.int .i64 cell,.int .u64 imm,.slice ao nA ac,.int .i64 nx,.int .i64 el]] w fun e w'=>e=.returned (.bool (decide (gets (grs rs) ⟨ps,ks,cells,is,res,keep,nodes,entry⟩ bd f d)))∧Below w.heap.size w w':=by
 have HB2:Hid (Below w.heap.size w ((w.alloc (.cells #[.slice fo nF cF,.slice po nP pc,.slice ko nK kc,.int .i64 cells,.slice io nI ic,.bool res,.int .i64 keep,.slice no nN nc,.int .i64 entry,.bool bd] 142)).alloc (.cells #[.int .u8 op,.int .u8 bop,.int .i64 d,.int .i64 e,.int .i64 a,.int .i64 b,.int .i64 f,.int .i64 cell,.int .u64 imm,.slice ao nA ac,.int .i64 nx,.int .i64 el] 47))):=((Below.refl _ _).alloc (Nat.le_refl _) _).alloc (by simp) _
 have HCB:Hid (Blk ((w.alloc (.cells #[.slice fo nF cF,.slice po nP pc,.slice ko nK kc,.int .i64 cells,.slice io nI ic,.bool res,.int .i64 keep,.slice no nN nc,.int .i64 entry,.bool bd] 142)).alloc (.cells #[.int .u8 op,.int .u8 bop,.int .i64 d,.int .i64 e,.int .i64 a,.int .i64 b,.int .i64 f,.int .i64 cell,.int .u64 imm,.slice ao nA ac,.int .i64 nx,.int .i64 el] 47)) w.heap.size 142 #[.slice fo nF cF,.slice po nP pc,.slice ko nK kc,.int .i64 cells,.slice io nI ic,.bool res,.int .i64 keep,.slice no nN nc,.int .i64 entry,.bool bd]):=Lib.hid ((Blk.new w 142 #[.slice fo nF cF,.slice po nP pc,.slice ko nK kc,.int .i64 cells,.slice io nI ic,.bool res,.int .i64 keep,.slice no nN nc,.int .i64 entry,.bool bd]).alloc _)
 have HNB:Hid (Blk ((w.alloc (.cells #[.slice fo nF cF,.slice po nP pc,.slice ko nK kc,.int .i64 cells,.slice io nI ic,.bool res,.int .i64 keep,.slice no nN nc,.int .i64 entry,.bool bd] 142)).alloc (.cells #[.int .u8 op,.int .u8 bop,.int .i64 d,.int .i64 e,.int .i64 a,.int .i64 b,.int .i64 f,.int .i64 cell,.int .u64 imm,.slice ao nA ac,.int .i64 nx,.int .i64 el] 47)) (w.heap.size+1) 47 #[.int .u8 op,.int .u8 bop,.int .i64 d,.int .i64 e,.int .i64 a,.int .i64 b,.int .i64 f,.int .i64 cell,.int .u64 imm,.slice ao nA ac,.int .i64 nx,.int .i64 el]):=Lib.hid (by
  have:=Blk.new (w.alloc (.cells #[.slice fo nF cF,.slice po nP pc,.slice ko nK kc,.int .i64 cells,.slice io nI ic,.bool res,.int .i64 keep,.slice no nN nc,.int .i64 entry,.bool bd] 142)) 47 #[.int .u8 op,.int .u8 bop,.int .i64 d,.int .i64 e,.int .i64 a,.int .i64 b,.int .i64 f,.int .i64 cell,.int .u64 imm,.slice ao nA ac,.int .i64 nx,.int .i64 el]
  rwa [show (w.alloc (.cells #[.slice fo nF cF,.slice po nP pc,.slice ko nK kc,.int .i64 cells,.slice io nI ic,.bool res,.int .i64 keep,.slice no nN nc,.int .i64 entry,.bool bd] 142)).heap.size=w.heap.size+1 by simp] at this)
 have HF:=Lib.hid HF0
 have HK:=Lib.hid (hk.below (HB2.out.mono hB))
 have hB2:B≤((w.alloc (.cells #[.slice fo nF cF,.slice po nP pc,.slice ko nK kc,.int .i64 cells,.slice io nI ic,.bool res,.int .i64 keep,.slice no nN nc,.int .i64 entry,.bool bd] 142)).alloc (.cells #[.int .u8 op,.int .u8 bop,.int .i64 d,.int .i64 e,.int .i64 a,.int .i64 b,.int .i64 f,.int .i64 cell,.int .u64 imm,.slice ao nA ac,.int .i64 nx,.int .i64 el] 47)).heap.size:=by simp;omega
 have HKL:=Lib.hid hkl
 clear hk hkl HF0
 have HZ2:Hid (w.heap.size+1+1=((w.alloc (.cells #[.slice fo nF cF,.slice po nP pc,.slice ko nK kc,.int .i64 cells,.slice io nI ic,.bool res,.int .i64 keep,.slice no nN nc,.int .i64 entry,.bool bd] 142)).alloc (.cells #[.int .u8 op,.int .u8 bop,.int .i64 d,.int .i64 e,.int .i64 a,.int .i64 b,.int .i64 f,.int .i64 cell,.int .u64 imm,.slice ao nA ac,.int .i64 nx,.int .i64 el] 47)).heap.size):=Lib.hid (by simp)
 obtain ⟨j,rfl⟩:∃ j:Nat,f=(j:Int):=⟨f.toNat,by have:=hf.1;omega⟩
 have hj:j<nF:=by have:=hf.2;omega
 obtain ⟨bf,off,r,rfl,hbf,HX,HRG,HWG,x0,x1,x2,x3,x4,x5,x6,x7⟩:=HF.out.gr hj
 clear x0 x1 x2 x3 x5 x6 x7 hf
 have hgr:=grAt_of HX.out
 have HGR:=Lib.hid hgr
 clear hgr
 obtain ⟨rr,hrr⟩:∃ rr,rr=r.gr.result:=⟨_,rfl⟩
 rw [← hrr] at x4
 have HRR:Hid ((grAt (grs rs) j).result=rr):=Lib.hid (by rw [HGR.out,hrr])
 clear hrr
 have hbr:bf<w.heap.size:=by omega
 by_cases hd:d=-1
 ·have HD:Hid (decide (gets (grs rs) ⟨ps,ks,cells,is,res,keep,nodes,entry⟩ bd j d)=true):=Lib.hid (by rw [decide_eq_true_eq];exact .inl hd)
  have g:(d == -1)=true:=by simpa using hd
  clear hd
  go_enter Tryz.func112,Tryz.ntmps112
  go_wp2
  go_ret
  exact ⟨by rw [HD.out];rfl,HB2.out⟩
 ·have g:(d == -1)=false:=by simpa using hd
  cases rr
  ·have HD:Hid (decide (gets (grs rs) ⟨ps,ks,cells,is,res,keep,nodes,entry⟩ bd j d)=false):=Lib.hid (by
    rw [decide_eq_false_iff_not]
    rintro (h | ⟨h,_⟩)
    ·exact hd h
    ·rw [HRR.out] at h;cases h)
   clear hd
   go_enter Tryz.func112,Tryz.ntmps112
   go_wp2
   go_ret
   exact ⟨by rw [HD.out];rfl,HB2.out⟩
  ·by_cases hft:fits ks bd d 0
   rotate_left
   ·have HD:Hid (decide (gets (grs rs) ⟨ps,ks,cells,is,res,keep,nodes,entry⟩ bd j d)=false):=Lib.hid (by
     rw [decide_eq_false_iff_not]
     rintro (h | ⟨_,h,_⟩)
     ·exact hd h
     ·exact hft h)
    have HA:Hid (decide (∀ p ∈ [d],fits ks bd p 0)=false):=Lib.hid (by rw [all_one (fun p=>fits ks bd p 0)];exact decide_eq_false hft)
    clear hd hft
    go_enter Tryz.func112,Tryz.ntmps112
    go_wp2_with (first | (go_at_call 108;refine (are_lit B _ [d] 1 ks 0 _ _ _ _ _ _ _ _ _ _ _ _ _ _ _ _ _ _ _ _ _ _ rfl (by omega) HK.out HKL.out hB2 HZ2.out (by first | exact .inl rfl | exact .inr rfl)).mono ?_;rintro ee w3 ⟨rfl,hb3⟩;have HB3:=Lib.hid hb3;clear hb3;rw [HA.out]))
    go_ret
    exact ⟨by rw [HD.out];rfl,HB2.out.trans (HB3.out.mono (by simp;omega))⟩
   ·have HA:Hid (decide (∀ p ∈ [d],fits ks bd p 0)=true):=Lib.hid (by rw [all_one (fun p=>fits ks bd p 0)];exact decide_eq_true hft)
    have HD:Hid (decide (gets (grs rs) ⟨ps,ks,cells,is,res,keep,nodes,entry⟩ bd j d)=(!bd || (d == 0))):=Lib.hid (by
     rw [Bool.eq_iff_iff,decide_eq_true_eq]
     constructor
     ·rintro (h | ⟨_,_,h | h⟩)
      ·exact absurd h hd
      ·simp [h]
      ·simp [h]
     ·intro h
      refine .inr ⟨HRR.out,hft,?_⟩
      cases bd
      ·exact .inl rfl
      ·right;simpa using h)
    clear hd hft
    cases bd
    all_goals
     go_enter Tryz.func112,Tryz.ntmps112
     go_wp2_with (first | (go_at_call 108;refine (are_lit B _ [d] 1 ks 0 _ _ _ _ _ _ _ _ _ _ _ _ _ _ _ _ _ _ _ _ _ _ rfl (by omega) HK.out HKL.out hB2 HZ2.out (by first | exact .inl rfl | exact .inr rfl)).mono ?_;rintro ee w3 ⟨rfl,hb3⟩;have b9:w3.cell? ⟨w.heap.size,9,none⟩=some (.bool _):=(HCB.out.below hb3 HCB.out.lt).cell 9;have n2:w3.cell? ⟨w.heap.size+1,2,none⟩=some (.int .i64 d):=(HNB.out.below hb3 HNB.out.lt).cell 2;have HB3:=Lib.hid hb3;clear hb3;rw [HA.out]))
     go_ret
     exact ⟨by rw [HD.out];rfl,HB2.out.trans (HB3.out.mono (by simp;omega))⟩
theorem index_eq (B:Nat) (A:Option Addr) (n c:Nat) (l:List Int) (v:Int) (w:World) (h:Reads w B 1 A n (i64c l)) (hn:l.length=n) (hnb:n≤140737488351232) :
  Calls Tryz.prog 72 #[.slice A n c,.int .i64 v] w fun e w'=>e=.returned (.int .i64 (ixOf (fun y=>v == y) l))∧w'=w:=by
 have H:=Lib.hid h
 have HN:=Lib.hid hn
 clear h hn
 go_enter Tryz.func72,Tryz.ntmps72
 go_wp2
 go_loopw [8] (fun i wr=>∃ k:Nat,k≤n∧i=.int .i64 k∧Hid (∀ y ∈ l.take k,(v == y)=false)∧wr=w) (fun i _=>n-(intOf i).toNat)
 case atStart=>exact ⟨0,Nat.zero_le _,rfl,Lib.hid (by simp),rfl⟩
 case round =>
  obtain ⟨k,hk,rfl,HB,rfl⟩:=hrel
  by_cases hlt:k<n
  ·obtain ⟨b,off,x,rfl,hb,HX,x1⟩:=H.out.int hlt
   cases hf:(v == x)
   ·have HQ:=Lib.hid (take_mem_snoc (f:=fun y=>v == y) HX.out hf HB.out)
    go_wp2
    go_roundw
    case rel=>exact ⟨k+1,by omega,by go_num,HQ,by first | rfl | trivial⟩
    case measure=>simp [intOf];omega
   ·have HQ:=Lib.hid (ix_at (f:=fun y=>v == y) HX.out hf HB.out)
    go_wp2
    go_ret
    exact ⟨by rw [HQ.out];rfl,by first | rfl | trivial⟩
  ·obtain rfl:n=k:=by omega
   have HQ:=Lib.hid (ix_none (f:=fun y=>v == y) (l:=l) (by have:=HB.out;rwa [List.take_of_length_le (by rw [HN.out];omega)] at this))
   go_wp2
   go_ret
   exact ⟨by rw [HQ.out];rfl,by first | rfl | trivial⟩
theorem contains_eq (B:Nat) (A:Option Addr) (n c:Nat) (l:List Int) (v:Int) (w:World) (h:Reads w B 1 A n (i64c l)) (hn:l.length=n) (hnb:n≤140737488351232) :
  Calls Tryz.prog 48 #[.slice A n c,.int .i64 v] w fun e w'=>e=.returned (.bool (decide (v ∈ l)))∧w'=w:=by
 have HI:=Lib.hid (index_eq B A n c l v w h hn hnb)
 have HD:Hid (decide (ixOf (fun y=>v == y) l≥0)=decide (v ∈ l)):=Lib.hid (by
  rw [ix_nonneg,Bool.eq_iff_iff,List.any_eq_true,decide_eq_true_eq]
  constructor
  ·rintro ⟨x,hx,he⟩
   have:v=x:=by simpa using he
   rw [this];exact hx
  ·intro hv
   exact ⟨v,hv,by simp⟩)
 clear h hn
 obtain ⟨z,hz⟩:∃ z,z=ixOf (fun y=>v == y) l:=⟨_,rfl⟩
 rw [← hz] at HI HD
 clear hz
 go_enter Tryz.func48,Tryz.ntmps48
 go_wp2_with (first | (go_at_call 72;refine HI.out.mono ?_;rintro e w2 ⟨rfl,rfl⟩))
 go_ret
 exact ⟨by rw [← HD.out];rfl,by first | rfl | trivial⟩

theorem kindsHold_any (B:Nat) (A:Option Addr) (n c:Nat) (ks:List Int) (bd:Bool) (w:World) (h:Reads w B 1 A n (u8c ks)) (hn:ks.length=n) (hnb:n≤140737488351232) :
  Calls Tryz.prog 92 #[.slice A n c,.bool bd] w fun e w'=>e=.returned (.bool (decide (kindsHold ks bd)))∧w'=w:=by
 have HC:=Lib.hid (contains_kinds B A n c ks (fun k=>k != 0 && k != 1) w h hn hnb fun p _=>kinds1_any p w)
 have HN:=Lib.hid hn
 clear h hn
 by_cases c1:n≤1024
 rotate_left
 ·have HD:Hid (decide (kindsHold ks bd)=false):=Lib.hid (by rw [decide_eq_false_iff_not];rintro ⟨h,_⟩;rw [HN.out] at h;exact c1 h)
  have g:decide ((n:Int) > 1024)=true:=by simp;omega
  clear c1
  go_enter Tryz.func92,Tryz.ntmps92
  go_wp2
  go_ret
  exact ⟨by rw [HD.out];rfl,by first | rfl | trivial⟩
 have g:decide ((n:Int) > 1024)=false:=by simp;omega
 have HE:(bd=true→16≤n)→Hid ((!(ks.any fun k=>k != 0 && k != 1))=decide (kindsHold ks bd)):=fun hb=>Lib.hid (by
  rw [Bool.eq_iff_iff,decide_eq_true_eq]
  unfold kindsHold
  rw [HN.out]
  simp only [Bool.not_eq_true',List.any_eq_false,Bool.and_eq_true,bne_iff_ne,not_and]
  constructor
  ·intro h
   refine ⟨c1,hb,fun k hk=>?_⟩
   by_cases h0:k=0
   ·exact .inl h0
   ·exact .inr (by simpa using h k hk h0)
  ·rintro ⟨_,_,h⟩ k hk h0
   rcases h k hk with h1 | h1
   ·exact absurd h1 h0
   ·simpa using h1)
 cases bd
 ·have HD:=HE (by intro h;cases h)
  clear HE c1
  go_enter Tryz.func92,Tryz.ntmps92
  go_wp2_with (first | (go_at_call 105;refine HC.out.mono ?_;rintro e w2 ⟨rfl,rfl⟩))
  go_ret
  exact ⟨by rw [← HD.out];rfl,by first | rfl | trivial⟩
 ·by_cases c2:16≤n
  rotate_left
  ·have HD:Hid (decide (kindsHold ks true)=false):=Lib.hid (by rw [decide_eq_false_iff_not];rintro ⟨_,h,_⟩;rw [HN.out] at h;exact c2 (h rfl))
   have g2:decide ((n:Int)<16)=true:=by simp;omega
   clear c1 c2 HE
   go_enter Tryz.func92,Tryz.ntmps92
   go_wp2
   go_ret
   exact ⟨by rw [HD.out];rfl,by first | rfl | trivial⟩
  ·have HD:=HE fun _=>c2
   have g2:decide ((n:Int)<16)=false:=by simp;omega
   clear HE c1 c2
   go_enter Tryz.func92,Tryz.ntmps92
   go_wp2_with (first | (go_at_call 105;refine HC.out.mono ?_;rintro e w2 ⟨rfl,rfl⟩))
   go_ret
   exact ⟨by rw [← HD.out];rfl,by first | rfl | trivial⟩

theorem Reads.upto {w:World} {B n k:Nat} {A:Option Addr} {l:List Int} (h:Reads w B 1 A n (i64c l)) (hk:k≤n):Reads w B 1 A k (i64c (l.take k)):=by
 refine ⟨by rw [length_i64c,List.length_take];have:=h.1;rw [length_i64c] at this;omega,fun hn=>?_⟩
 obtain ⟨ad,rfl,hb,hc⟩:=h.2 (by omega)
 refine ⟨ad,rfl,hb,fun j u hu=>hc j u ?_⟩
 unfold i64c at hu ⊢
 rw [List.map_take,List.getElem?_take] at hu
 split at hu
 ·exact hu
 ·cases hu
theorem paramsHold_any (B:Nat) (ps ks:List Int) (bd:Bool) (po ko io no:Option Addr) (nP pc nK kc nI ic nN nc:Nat) (cells keep entry:Int) (res:Bool) (w:World) (hp:Reads w B 1 po nP (i64c ps)) (hpl:ps.length=nP) (hpc:nP≤pc) (hnb:nP≤140737488351232) (hkl:ks.length=nK) (hB:B≤w.heap.size) :
  Calls Tryz.prog 93 #[.agg #[.slice po nP pc,.slice ko nK kc,.int .i64 cells,.slice io nI ic,.bool res,.int .i64 keep,.slice no nN nc,.int .i64 entry],.bool bd] w fun e w'=>e=.returned (.bool (decide (paramsHold ps ks bd)))∧Below w.heap.size w w':=by
 have HBL:Hid (Below w.heap.size w (w.alloc (.cells #[.slice po nP pc,.slice ko nK kc,.int .i64 cells,.slice io nI ic,.bool res,.int .i64 keep,.slice no nN nc,.int .i64 entry] 35))):=(Below.refl _ _).alloc (Nat.le_refl _) _
 have HBX:Hid (Blk (w.alloc (.cells #[.slice po nP pc,.slice ko nK kc,.int .i64 cells,.slice io nI ic,.bool res,.int .i64 keep,.slice no nN nc,.int .i64 entry] 35)) w.heap.size 35 #[.slice po nP pc,.slice ko nK kc,.int .i64 cells,.slice io nI ic,.bool res,.int .i64 keep,.slice no nN nc,.int .i64 entry]):=Blk.new w _ _
 have HP:=Lib.hid (hp.below (HBL.out.mono hB))
 have HPL:=Lib.hid hpl
 have HKL:=Lib.hid hkl
 clear hp hpl hkl
 by_cases c1:nP≤4
 rotate_left
 ·have HD:Hid (decide (paramsHold ps ks bd)=false):=Lib.hid (by rw [decide_eq_false_iff_not];rintro ⟨h,_⟩;rw [HPL.out] at h;exact c1 h)
  have g:decide ((nP:Int) > 4)=true:=by simp;omega
  clear c1
  go_enter Tryz.func93,Tryz.ntmps93
  go_wp2
  go_ret
  exact ⟨by rw [HD.out];rfl,HBL.out⟩
 have g:decide ((nP:Int) > 4)=false:=by simp;omega
 cases bd
 rotate_left
 ·have HD:Hid (decide (inOrder ps)=decide (paramsHold ps ks true)):=Lib.hid (by
   rw [decide_eq_decide]
   unfold paramsHold
   rw [HPL.out,if_pos rfl]
   exact ⟨fun h=>⟨c1,h⟩,fun h=>h.2⟩)
  clear c1
  go_enter Tryz.func93,Tryz.ntmps93
  go_wp2_with (first | (go_at_call 107;refine (inOrder_any B _ _ _ ps _ HP.out HPL.out (by omega)).mono ?_;rintro e w2 ⟨rfl,rfl⟩;rw [HD.out]))
  go_ret
  exact ⟨rfl,HBL.out⟩
 have HC1:=Lib.hid c1
 clear c1
 go_enter Tryz.func93,Tryz.ntmps93
 go_wp2
 go_loopw [18] (fun i wr=>∃ k:Nat,k≤nP∧i=.int .i64 k∧Hid (∀ j,j<k→isOne (ps.getD j 0) nK∧ps.getD j 0 ∉ ps.take j)∧wr=(w.alloc (.cells #[.slice po nP pc,.slice ko nK kc,.int .i64 cells,.slice io nI ic,.bool res,.int .i64 keep,.slice no nN nc,.int .i64 entry] 35))) (fun i _=>nP-(intOf i).toNat)
 case atStart=>exact ⟨0,Nat.zero_le _,rfl,Lib.hid (by intro j hj;omega),rfl⟩
 case round =>
  obtain ⟨k,hk,rfl,HI,rfl⟩:=hrel
  by_cases hlt:k<nP
  ·obtain ⟨b,off,x,rfl,hb,HX,x1⟩:=HP.out.int hlt
   have HG:Hid (ps.getD k 0=x):=Lib.hid (by simp [List.getD,HX.out])
   have HU:=Lib.hid (HP.out.upto (k:=k) (by omega))
   have HUL:Hid ((ps.take k).length=k):=Lib.hid (by rw [List.length_take,HPL.out];omega)
   by_cases c1:isOne x nK
   rotate_left
   ·have H1:Hid (decide (isOne x nK)=false):=Lib.hid (decide_eq_false c1)
    have HD:Hid (decide (paramsHold ps ks false)=false):=Lib.hid (by
     rw [decide_eq_false_iff_not]
     rintro ⟨_,h⟩
     rw [if_neg (by simp)] at h
     have:=(h k (by rw [HPL.out];exact hlt)).1
     rw [HG.out,HKL.out] at this
     exact c1 this)
    clear c1
    go_wp2_with (first | (go_at_call 95;refine (isOne_any _ _ _).mono ?_;rintro e w2 ⟨rfl,rfl⟩;rw [H1.out]))
    go_ret
    exact ⟨by rw [HD.out];rfl,HBL.out⟩
   have H1:Hid (decide (isOne x nK)=true):=Lib.hid (decide_eq_true c1)
   by_cases c2:x ∈ ps.take k
   ·have H2:Hid (decide (x ∈ ps.take k)=true):=Lib.hid (decide_eq_true c2)
    have HD:Hid (decide (paramsHold ps ks false)=false):=Lib.hid (by
     rw [decide_eq_false_iff_not]
     rintro ⟨_,h⟩
     rw [if_neg (by simp)] at h
     have:=(h k (by rw [HPL.out];exact hlt)).2
     rw [HG.out] at this
     exact this c2)
    clear c1 c2
    go_wp2_with (first
     | (go_at_call 95;refine (isOne_any _ _ _).mono ?_;rintro e w2 ⟨rfl,rfl⟩;rw [H1.out])
     | (go_at_call 48;refine (contains_eq B _ _ _ (ps.take k) x _ HU.out HUL.out (by omega)).mono ?_;rintro e w3 ⟨rfl,rfl⟩;rw [H2.out]))
    go_ret
    exact ⟨by rw [HD.out];rfl,HBL.out⟩
   ·have H2:Hid (decide (x ∈ ps.take k)=false):=Lib.hid (decide_eq_false c2)
    have HI2:Hid (∀ j,j<k+1→isOne (ps.getD j 0) nK∧ps.getD j 0 ∉ ps.take j):=Lib.hid (by
     intro j hj
     by_cases hjk:j<k
     ·exact HI.out j hjk
     ·obtain rfl:j=k:=by omega
      rw [HG.out]
      exact ⟨c1,c2⟩)
    clear c1 c2
    go_wp2_with (first
     | (go_at_call 95;refine (isOne_any _ _ _).mono ?_;rintro e w2 ⟨rfl,rfl⟩;rw [H1.out])
     | (go_at_call 48;refine (contains_eq B _ _ _ (ps.take k) x _ HU.out HUL.out (by omega)).mono ?_;rintro e w3 ⟨rfl,rfl⟩;rw [H2.out]))
    go_roundw
    case rel=>exact ⟨k+1,by omega,by go_num,HI2,by first | rfl | trivial⟩
    case measure=>simp [intOf];omega
  ·obtain rfl:nP=k:=by omega
   have HD:Hid (decide (paramsHold ps ks false)=true):=Lib.hid (by
    rw [decide_eq_true_eq]
    refine ⟨by rw [HPL.out];exact HC1.out,?_⟩
    rw [if_neg (by simp),HPL.out,HKL.out]
    exact HI.out)
   go_wp2
   go_ret
   exact ⟨by rw [HD.out];rfl,HBL.out⟩

theorem initHolds_any (B:Nat) (ps ks is:List Int) (bd:Bool) (po ko io no:Option Addr) (nP pc nK kc nI ic nN nc:Nat) (cells keep entry:Int) (res:Bool) (w:World) (hp:Reads w B 1 po nP (i64c ps)) (hpl:ps.length=nP) (hk:Reads w B 1 ko nK (u8c ks)) (hkl:ks.length=nK) (hi:Reads w B 1 io nI (i64c is)) (hil:is.length=nI) (hnb:nI≤140737488351232) (hB:B≤w.heap.size)
  (hph:paramsHold ps ks bd) :
  Calls Tryz.prog 94 #[.agg #[.slice po nP pc,.slice ko nK kc,.int .i64 cells,.slice io nI ic,.bool res,.int .i64 keep,.slice no nN nc,.int .i64 entry],.bool bd] w fun e w'=>e=.returned (.bool (decide (initHolds ps ks is cells bd)))∧Below w.heap.size w w':=by
 have HBL:Hid (Below w.heap.size w (w.alloc (.cells #[.slice po nP pc,.slice ko nK kc,.int .i64 cells,.slice io nI ic,.bool res,.int .i64 keep,.slice no nN nc,.int .i64 entry] 35))):=(Below.refl _ _).alloc (Nat.le_refl _) _
 have HBX:Hid (Blk (w.alloc (.cells #[.slice po nP pc,.slice ko nK kc,.int .i64 cells,.slice io nI ic,.bool res,.int .i64 keep,.slice no nN nc,.int .i64 entry] 35)) w.heap.size 35 #[.slice po nP pc,.slice ko nK kc,.int .i64 cells,.slice io nI ic,.bool res,.int .i64 keep,.slice no nN nc,.int .i64 entry]):=Blk.new w _ _
 have HP:=Lib.hid (hp.below (HBL.out.mono hB))
 have HK:=Lib.hid (hk.below (HBL.out.mono hB))
 have HIN:=Lib.hid (hi.below (HBL.out.mono hB))
 have HPL:=Lib.hid hpl
 have HKL:=Lib.hid hkl
 have HIL:=Lib.hid hil
 have HPH:=Lib.hid hph
 clear hp hpl hk hkl hi hil hph
 by_cases c1:nI=nP
 rotate_left
 ·have HD:Hid (decide (initHolds ps ks is cells bd)=false):=Lib.hid (by rw [decide_eq_false_iff_not];rintro ⟨h,_⟩;rw [HPL.out,HIL.out] at h;exact c1 h)
  have g:((nI:Int) != (nP:Int))=true:=by rw [bne_iff_ne];omega
  clear c1
  go_enter Tryz.func94,Tryz.ntmps94
  go_wp2
  go_ret
  exact ⟨by rw [HD.out];rfl,HBL.out⟩
 subst c1
 have g:((nI:Int) != (nI:Int))=false:=by simp
 have HBX2:Hid (Blk (w.alloc (.cells #[.slice po nI pc,.slice ko nK kc,.int .i64 cells,.slice io nI ic,.bool res,.int .i64 keep,.slice no nN nc,.int .i64 entry] 35)) w.heap.size 35 #[.slice po nI pc,.slice ko nK kc,.int .i64 cells,.slice io nI ic,.bool res,.int .i64 keep,.slice no nN nc,.int .i64 entry]):=HBX
 obtain ⟨W1,HW1⟩:∃ W,Hid (W=(w.alloc (.cells #[.slice po nI pc,.slice ko nK kc,.int .i64 cells,.slice io nI ic,.bool res,.int .i64 keep,.slice no nN nc,.int .i64 entry] 35))):=⟨_,rfl⟩
 go_enter Tryz.func94,Tryz.ntmps94
 go_wp2
 rw [← HW1.out] at HBX HBX2 HBL HP HK HIN ⊢
 go_loopw [17] (fun i wr=>∃ k q:Nat,k≤nI∧i=.int .i64 k∧Hid (∀ j,j<k→is.getD j 0=-1∨isOne (is.getD j 0) cells∧(bd=true∨kindAt ks (ps.getD j 0)=0))∧wr=W1.drewN q) (fun i _=>nI-(intOf i).toNat)
 case atStart=>exact ⟨0,0,Nat.zero_le _,rfl,Lib.hid (by intro j hj;omega),rfl⟩
 case round =>
  obtain ⟨k,q,hkk,rfl,HI,hwr⟩:=hrel
  have HWR:=Lib.hid hwr
  have HBXr:Hid (Blk wr w.heap.size 35 #[.slice po nI pc,.slice ko nK kc,.int .i64 cells,.slice io nI ic,.bool res,.int .i64 keep,.slice no nN nc,.int .i64 entry]):=Lib.hid (by rw [hwr];exact HBX.out.drewN q)
  have HINr:Hid (Reads wr B 1 io nI (i64c is)):=Lib.hid (by rw [hwr];exact HIN.out.drewN q)
  have HPr:Hid (Reads wr B 1 po nI (i64c ps)):=Lib.hid (by rw [hwr];exact HP.out.drewN q)
  have HKr:Hid (Reads wr B 1 ko nK (u8c ks)):=Lib.hid (by rw [hwr];exact HK.out.drewN q)
  have HBLr:Hid (Below w.heap.size w wr):=Lib.hid (by rw [hwr];exact below_drewN HBL.out q)
  clear hwr
  have d0:wr.cell? ⟨w.heap.size,0,none⟩=some (.slice po nI pc):=HBXr.out.cell 0
  have d1:wr.cell? ⟨w.heap.size,1,none⟩=some (.slice ko nK kc):=HBXr.out.cell 1
  have d2:wr.cell? ⟨w.heap.size,2,none⟩=some (.int .i64 cells):=HBXr.out.cell 2
  by_cases hlt:k<nI
  ·obtain ⟨b,off,x,rfl,hb,HX,x1⟩:=HINr.out.int hlt
   have HG:Hid (is.getD k 0=x):=Lib.hid (by simp [List.getD,HX.out])
   have hfalse:¬ (x=-1∨isOne x cells∧(bd=true∨kindAt ks (ps.getD k 0)=0))→Hid (decide (initHolds ps ks is cells bd)=false):=fun hn=>Lib.hid (by
    rw [decide_eq_false_iff_not]
    rintro ⟨_,h⟩
    have:=h k (by rw [HIL.out];exact hlt)
    rw [HG.out] at this
    exact hn this)
   have htrue:(x=-1∨isOne x cells∧(bd=true∨kindAt ks (ps.getD k 0)=0))→Hid (∀ j,j<k+1→is.getD j 0=-1∨isOne (is.getD j 0) cells∧(bd=true∨kindAt ks (ps.getD j 0)=0)):=fun hy=>Lib.hid (by
    intro j hj
    by_cases hjk:j<k
    ·exact HI.out j hjk
    ·obtain rfl:j=k:=by omega
     rw [HG.out]
     exact hy)
   by_cases c1:x=-1
   ·have g1:(x == -1)=true:=by simpa using c1
    have HI2:=htrue (.inl c1)
    clear hfalse htrue c1
    go_wp2
    go_roundw
    case rel=>exact ⟨k+1,q,by omega,by go_num,HI2,HWR.out⟩
    case measure=>simp [intOf];omega
   have g1:(x == -1)=false:=by simpa using c1
   by_cases c2:isOne x cells
   rotate_left
   ·have HC:∀ W,Calls Tryz.prog 95 #[.int .i64 x,.int .i64 cells] W fun e w'=>e=.returned (.bool false)∧w'=W:=fun W=>(isOne_any x cells W).mono fun e w' ⟨h1,h2⟩=>⟨by rw [h1,decide_eq_false c2],h2⟩
    have HD:=hfalse (by rintro (h | ⟨h,_⟩);exact c1 h;exact c2 h)
    clear hfalse htrue c1 c2
    go_wp2
    go_quiet ((go_at_call 95;exact Calls.quiet_of_same (HC _)))
    go_wp2
    go_ret
    exact ⟨by rw [HD.out];rfl,below_drewN HBLr.out _⟩
   have HC:∀ W,Calls Tryz.prog 95 #[.int .i64 x,.int .i64 cells] W fun e w'=>e=.returned (.bool true)∧w'=W:=fun W=>(isOne_any x cells W).mono fun e w' ⟨h1,h2⟩=>⟨by rw [h1,decide_eq_true c2],h2⟩
   cases bd
   rotate_left
   ·have HI2:=htrue (.inr ⟨c2,.inl rfl⟩)
    clear hfalse htrue c1 c2
    go_wp2
    go_quiet ((go_at_call 95;exact Calls.quiet_of_same (HC _)))
    go_wp2
    go_roundw
    case rel=>exact ⟨k+1,q+nq,by omega,by go_num,HI2,by rw [HWR.out,World.drewN_drewN]⟩
    case measure=>simp [intOf];omega
   ·obtain ⟨bp,op2,z,rfl,hbp,HXP,p1⟩:=HPr.out.int hlt
    have hzo:isOne z nK:=by
     have h1:=HPH.out.2
     rw [if_neg (by simp)] at h1
     have h2:=(h1 k (by rw [HPL.out];exact hlt)).1
     rwa [show ps.getD k 0=z by simp [List.getD,HXP.out],HKL.out] at h2
    obtain ⟨m,rfl⟩:∃ m:Nat,z=(m:Int):=⟨z.toNat,by have:=hzo.1;omega⟩
    have hm:m<nK:=by have:=hzo.2;omega
    obtain ⟨bk,ok,y,rfl,hbk,HXK,k1⟩:=HKr.out.byte hm
    have hka:kindAt ks (ps.getD k 0)=y:=by
     rw [show ps.getD k 0=(m:Int) by simp [List.getD,HXP.out]]
     simp [kindAt,List.getD,HXK.out]
    rw [hka] at hfalse htrue
    by_cases c3:y=0
    ·have g3:(y != 0)=false:=by simpa using c3
     have HI2:=htrue (.inr ⟨c2,.inr c3⟩)
     clear hfalse htrue c1 c2 c3 hka hzo
     go_wp2
     go_quiet ((go_at_call 95;exact Calls.quiet_of_same (HC _)))
     go_wp2
     go_roundw
     case rel=>exact ⟨k+1,q+nq,by omega,by go_num,HI2,by rw [HWR.out,World.drewN_drewN]⟩
     case measure=>simp [intOf];omega
    ·have g3:(y != 0)=true:=by simpa using c3
     have HD:=hfalse (by
      rintro (h | ⟨_,h | h⟩)
      ·exact c1 h
      ·cases h
      ·exact c3 h)
     clear hfalse htrue c1 c2 c3 hka hzo
     go_wp2
     go_quiet ((go_at_call 95;exact Calls.quiet_of_same (HC _)))
     go_wp2
     go_ret
     exact ⟨by rw [HD.out];rfl,below_drewN HBLr.out _⟩
  ·obtain rfl:nI=k:=by omega
   have HD:Hid (decide (initHolds ps ks is cells bd)=true):=Lib.hid (by
    rw [decide_eq_true_eq]
    refine ⟨by rw [HPL.out,HIL.out],?_⟩
    rw [HIL.out]
    exact HI.out)
   go_wp2
   go_ret
   exact ⟨by rw [HD.out];rfl,HBLr.out⟩
structure BwI (w:World) (E base bb R1 R2 R n q m:Nat) (vs:Nat→Value) (ls:Nat→List Int) (wss:List (List Nat)):Prop where
 box:Blk w bb 123 #[.slice (some ⟨R1,0,none⟩) n n,.slice (some ⟨R2,0,none⟩) n n,.slice (some ⟨R,0,none⟩) n n]
 r1:Blk w R1 26 (rowA n fun i=>vs (2*i))
 r2:Blk w R2 26 (rowA n fun i=>vs (2*i+1))
 fam:Fam w base (2*n) vs ls
 sets:SetsI w R n q m wss
 eb:bb<E
 e1:R1<E
 e2:R2<E
 eR:R<E
 es:∀ i,i<n→R+2+2*i<E
 ef:∀ k,k<2*n→∀ g,(vs k).ownBlock=some g→g<E
 eE:E≤w.heap.size
section
variable {w w':World} {E base bb R1 R2 R n q m:Nat} {vs:Nat→Value} {ls:Nat→List Int} {wss:List (List Nat)}
theorem NbI.bw {W:World} {cs:Array Value} (h:NbI W bb R1 R2 R n q m vs ls cs w):BwI w w.heap.size W.heap.size bb R1 R2 R n q m vs ls (List.replicate n (List.replicate q 0)) :=
 ⟨h.box,h.r1,h.r2,h.fam,h.sets,h.box.lt,h.r1.lt,h.r2.lt,h.sets.row.lt,fun i hi=>(h.sets.box i hi).lt,fun k hk g hg=>(own_block_le (h.fam.own k hk) hg).2,Nat.le_refl _⟩
theorem SetsI.on (h:SetsI w R n q m wss) (hb:Below E w w') (hR:R<E) (hs:∀ i,i<n→R+2+2*i<E):SetsI w' R n q m wss :=
 ⟨h.row.below hb hR,fun i hi=>(h.box i hi).below hb (hs i hi),fun i hi=>(h.words i hi).below hb (by have:=hs i hi;omega),h.wf,h.qm,h.mb⟩
theorem BwI.on (h:BwI w E base bb R1 R2 R n q m vs ls wss) (hb:Below E w w'):BwI w' E base bb R1 R2 R n q m vs ls wss :=
 ⟨h.box.below hb h.eb,h.r1.below hb h.e1,h.r2.below hb h.e2,h.fam.kept fun i hi g hg=>hb.block g (h.ef i hi g hg),h.sets.on hb h.eR h.es,h.eb,h.e1,h.e2,h.eR,h.es,h.ef,Nat.le_trans h.eE hb.size⟩
theorem BwI.alloc (h:BwI w E base bb R1 R2 R n q m vs ls wss) (o:Obj):BwI (w.alloc o) E base bb R1 R2 R n q m vs ls wss:=h.on ((Below.refl _ _).alloc h.eE _)
theorem BwI.drewN (h:BwI w E base bb R1 R2 R n q m vs ls wss) (k:Nat):BwI (w.drewN k) E base bb R1 R2 R n q m vs ls wss:=h.on (below_drewN (Below.refl _ _) k)
theorem BwI.add (h:BwI w E base bb R1 R2 R n q m vs ls wss) {i j:Nat} (hi:i<n) (hj:j<m) :
  BwI (w.setCell ⟨R+1+2*i,j / 64,none⟩ (.int .u64 (((addW (wss.getD i []) j).getD (j / 64) 0:Nat):Int))) E base bb R1 R2 R n q m vs ls (addS wss i j):=by
 have hw:=h.sets.words i hi
 exact ⟨h.box.far (p:=⟨R+1+2*i,j / 64,none⟩) (Blk.ne_ h.box hw (by decide)) _,h.r1.far (p:=⟨R+1+2*i,j / 64,none⟩) (Blk.ne_ h.r1 hw (by decide)) _,h.r2.far (p:=⟨R+1+2*i,j / 64,none⟩) (Blk.ne_ h.r2 hw (by decide)) _,h.fam.far hw (by decide) _ _,h.sets.add hi hj,h.eb,h.e1,h.e2,h.eR,h.es,h.ef,by simpa [World.setCell] using h.eE⟩
end
theorem keepB_len (ns:List Nd) (p:Nat) (l:List Int):(keepB ns p l).length≤l.length:=List.length_filter_le _ _
theorem keepB_snoc (ns:List Nd) (p:Nat) (l:List Int) (x:Int):keepB ns p (l ++ [x])=keepB ns p l ++ keepB ns p [x]:=List.filter_append _ _
theorem keepB_one {ns:List Nd} {p i:Nat} {nd:Nd} (h:ns[i]?=some nd):keepB ns p [(i:Int)]=if (p:Int) ∈ writesOf nd then [] else [(i:Int)]:=by
 unfold keepB
 by_cases h2:(p:Int) ∈ writesOf nd
 ·simp [h,h2]
 ·simp [h,h2]
def owes (n:Nat) (wss:List (List Nat)) (p:Nat) (l:Nat):Nat:=l+2*n*(n-cntS wss n p)
theorem owes_step {wss:List (List Nat)} {n q m i p l b:Nat} (h:WfS wss n q m) (hi:i<n) (hp:p / 64<q) (hn:hasS wss i p=false) (hb:b≤2*n):owes n (addS wss i p) p (l+b)<owes n wss p (l+1):=by
 unfold owes
 rw [cntS_add h hi hp hn]
 have hc:cntS wss n p+1≤n:=by
  have:=cntS_le (addS wss i p) n p
  rwa [cntS_add h hi hp hn] at this
 obtain ⟨d,hd⟩:∃ d,n-cntS wss n p=d+1:=⟨n-cntS wss n p-1,by omega⟩
 have hd':n-(cntS wss n p+1)=d:=by omega
 rw [hd,hd',Nat.mul_add,Nat.mul_one]
 omega
theorem owes_skip (n:Nat) (wss:List (List Nat)) (p l:Nat):owes n wss p l<owes n wss p (l+1):=by
 unfold owes
 omega
theorem owes_le (n:Nat) (wss:List (List Nat)) (p l:Nat):l≤owes n wss p l:=by
 unfold owes
 omega
theorem owes_start {n:Nat} (hn:n≤4096) (wss:List (List Nat)) (p:Nat):owes n wss p 1≤33554433:=by
 unfold owes
 have h1:2*n*(n-cntS wss n p)≤8192*4096:=Nat.mul_le_mul (by omega) (by omega)
 omega
theorem list_last {l:List Int} (h:0<l.length):∃ init x,l=init ++ [x]:=by
 rcases List.eq_nil_or_concat l with rfl | ⟨i,x,rfl⟩
 ·simp at h
 ·exact ⟨i,x,by simp⟩
end Go.Proofs.YtedmcfaghfgpoaaGreatDoor
