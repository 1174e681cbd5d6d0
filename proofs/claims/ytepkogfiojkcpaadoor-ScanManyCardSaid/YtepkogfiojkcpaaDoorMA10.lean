/-
  Texts of one seat, one behind the other: Cwc, Cwe, Cwf, Cw.
-/
import Derived.Test.YtepkogfiojkcpaaDoorMA9

set_option linter.unusedVariables false
set_option linter.unusedSimpArgs false
set_option maxRecDepth 100000
set_option maxHeartbeats 51200000
namespace Go.Proofs.YtepkogfiojkcpaaDoor
open Go.ChangeShapes Go.WideShapes Go.ChangeAt Go.RowKit
theorem uses_c (B:Nat) (rs:List RG) (ps ks is:List Int) (nodes:List Nd) (fo:Option Addr) (nF cF:Nat) (po ko io no:Option Addr) (nP pc nK kc nI ic nN nc:Nat) (cells keep entry:Int) (res bd:Bool) (op bop d e a b f cell imm:Int) (args:List Int) (nx el:Int) (ao:Option Addr) (nA ac:Nat) (w:World) (HF0:RdP w B fo nF rs) (hk:Reads w B 1 ko nK (u8c ks)) (hkl:ks.length=nK) (ha:Reads w B 1 ao nA (i64c args)) (hal:args.length=nA) (hnA:nA*8≤140737488351232) (hB:B≤w.heap.size)
  (hh:bd=false→∀ g ∈ grs rs,headHolds g false) (hop:op=7∨op=8) :
  Calls Tryd.prog 106 #[.agg #[.slice fo nF cF,.slice po nP pc,.slice ko nK kc,.int .i64 cells,.slice io nI ic,.bool res,.int .i64 keep,.slice no nN nc,.int .i64 entry,.bool bd],.agg #[.int .u8 op,.int .u8 bop,.int .i64 d,.int .i64 e,.int .i64 a,.int .i64 b,.int .i64 f,.int .i64 cell,.int .u64 imm,.slice ao nA ac,.int .i64 nx,.int .i64 el]] w fun ee w'=>ee=.returned (.bool (decide (uses (grs rs) ⟨ps,ks,cells,is,res,keep,nodes,entry⟩ bd ⟨op,bop,d,e,a,b,f,cell,imm,args,nx,el⟩)))∧Below w.heap.size w w':=by
 have HB2:Hid (Below w.heap.size w ((w.alloc (.cells #[.slice fo nF cF,.slice po nP pc,.slice ko nK kc,.int .i64 cells,.slice io nI ic,.bool res,.int .i64 keep,.slice no nN nc,.int .i64 entry,.bool bd] 151)).alloc (.cells #[.int .u8 op,.int .u8 bop,.int .i64 d,.int .i64 e,.int .i64 a,.int .i64 b,.int .i64 f,.int .i64 cell,.int .u64 imm,.slice ao nA ac,.int .i64 nx,.int .i64 el] 60))):=((Below.refl _ _).alloc (Nat.le_refl _) _).alloc (by simp) _
 have HCB:Hid (Blk ((w.alloc (.cells #[.slice fo nF cF,.slice po nP pc,.slice ko nK kc,.int .i64 cells,.slice io nI ic,.bool res,.int .i64 keep,.slice no nN nc,.int .i64 entry,.bool bd] 151)).alloc (.cells #[.int .u8 op,.int .u8 bop,.int .i64 d,.int .i64 e,.int .i64 a,.int .i64 b,.int .i64 f,.int .i64 cell,.int .u64 imm,.slice ao nA ac,.int .i64 nx,.int .i64 el] 60)) w.heap.size 151 #[.slice fo nF cF,.slice po nP pc,.slice ko nK kc,.int .i64 cells,.slice io nI ic,.bool res,.int .i64 keep,.slice no nN nc,.int .i64 entry,.bool bd]):=Lib.hid ((Blk.new w 151 #[.slice fo nF cF,.slice po nP pc,.slice ko nK kc,.int .i64 cells,.slice io nI ic,.bool res,.int .i64 keep,.slice no nN nc,.int .i64 entry,.bool bd]).alloc _)
 have HNB:Hid (Blk ((w.alloc (.cells #[.slice fo nF cF,.slice po nP pc,.slice ko nK kc,.int .i64 cells,.slice io nI ic,.bool res,.int .i64 keep,.slice no nN nc,.int .i64 entry,.bool bd] 151)).alloc (.cells #[.int .u8 op,.int .u8 bop,.int .i64 d,.int .i64 e,.int .i64 a,.int .i64 b,.int .i64 f,.int .i64 cell,.int .u64 imm,.slice ao nA ac,.int .i64 nx,.int .i64 el] 60)) (w.heap.size+1) 60 #[.int .u8 op,.int .u8 bop,.int .i64 d,.int .i64 e,.int .i64 a,.int .i64 b,.int .i64 f,.int .i64 cell,.int .u64 imm,.slice ao nA ac,.int .i64 nx,.int .i64 el]):=Lib.hid (by
  have:=Blk.new (w.alloc (.cells #[.slice fo nF cF,.slice po nP pc,.slice ko nK kc,.int .i64 cells,.slice io nI ic,.bool res,.int .i64 keep,.slice no nN nc,.int .i64 entry,.bool bd] 151)) 60 #[.int .u8 op,.int .u8 bop,.int .i64 d,.int .i64 e,.int .i64 a,.int .i64 b,.int .i64 f,.int .i64 cell,.int .u64 imm,.slice ao nA ac,.int .i64 nx,.int .i64 el]
  rwa [show (w.alloc (.cells #[.slice fo nF cF,.slice po nP pc,.slice ko nK kc,.int .i64 cells,.slice io nI ic,.bool res,.int .i64 keep,.slice no nN nc,.int .i64 entry,.bool bd] 151)).heap.size=w.heap.size+1 by simp] at this)
 have HF:=Lib.hid (HF0.below (HB2.out.mono hB))
 have HK:=Lib.hid (hk.below (HB2.out.mono hB))
 have HKL:=Lib.hid hkl
 have HA:=Lib.hid (ha.below (HB2.out.mono hB))
 have HAL:=Lib.hid hal
 have HH:=Lib.hid hh
 have HGL:Hid ((grs rs).length=nF):=Lib.hid (by rw [length_grs,HF0.len])
 have hB2:B≤((w.alloc (.cells #[.slice fo nF cF,.slice po nP pc,.slice ko nK kc,.int .i64 cells,.slice io nI ic,.bool res,.int .i64 keep,.slice no nN nc,.int .i64 entry,.bool bd] 151)).alloc (.cells #[.int .u8 op,.int .u8 bop,.int .i64 d,.int .i64 e,.int .i64 a,.int .i64 b,.int .i64 f,.int .i64 cell,.int .u64 imm,.slice ao nA ac,.int .i64 nx,.int .i64 el] 60)).heap.size:=by simp;omega
 have HZ2:Hid (w.heap.size+1+1=((w.alloc (.cells #[.slice fo nF cF,.slice po nP pc,.slice ko nK kc,.int .i64 cells,.slice io nI ic,.bool res,.int .i64 keep,.slice no nN nc,.int .i64 entry,.bool bd] 151)).alloc (.cells #[.int .u8 op,.int .u8 bop,.int .i64 d,.int .i64 e,.int .i64 a,.int .i64 b,.int .i64 f,.int .i64 cell,.int .u64 imm,.slice ao nA ac,.int .i64 nx,.int .i64 el] 60)).heap.size):=Lib.hid (by simp)
 clear hk hkl HF0 ha hal hh
 rcases hop with rfl | rfl
 ·-- 7
  have HU:Hid (uses (grs rs) ⟨ps,ks,cells,is,res,keep,nodes,entry⟩ bd ⟨7,bop,d,e,a,b,f,cell,imm,args,nx,el⟩↔fits ks bd d 0∧fits ks bd a 1):=Lib.hid (by unfold uses;rw [if_neg (by simp)];rw [if_neg (by simp)];rw [if_neg (by simp)];rw [if_neg (by simp)];rw [if_neg (by simp)];rw [if_neg (by simp)];rw [if_pos (by simp)];all_goals exact Iff.rfl)
  by_cases h1:fits ks bd d 0
  rotate_left
  ·have H1:Hid (decide (∀ p ∈ [d],fits ks bd p 0)=false):=Lib.hid (decide_eq_false (by simpa using h1))
   have HD:Hid (decide (uses (grs rs) ⟨ps,ks,cells,is,res,keep,nodes,entry⟩ bd ⟨7,bop,d,e,a,b,f,cell,imm,args,nx,el⟩)=false):=Lib.hid (by rw [decide_eq_false_iff_not,HU.out];rintro ⟨h,_⟩;exact h1 h)
   clear h1
   go_enter Tryd.func106,Tryd.ntmps106
   go_wp2_with (first | (go_at_call 112;refine (are_lit B _ [d] 1 ks 0 _ _ _ _ _ _ _ _ _ _ _ _ _ _ _ _ _ _ _ _ _ _ rfl (by omega) HK.out HKL.out hB2 HZ2.out (by first | exact .inl rfl | exact .inr rfl)).mono ?_;rintro ee w3 ⟨rfl,hb3⟩;have HB3:=Lib.hid hb3;clear hb3;rw [H1.out]))
   go_ret
   exact ⟨by rw [HD.out];rfl,HB2.out.trans (HB3.out.mono (by simp;omega))⟩
  ·have H1:Hid (decide (∀ p ∈ [d],fits ks bd p 0)=true):=Lib.hid (decide_eq_true (by simpa using h1))
   have HF1:=Lib.hid h1
   have HD:Hid (decide (∀ p ∈ [a],fits ks bd p 1)=decide (uses (grs rs) ⟨ps,ks,cells,is,res,keep,nodes,entry⟩ bd ⟨7,bop,d,e,a,b,f,cell,imm,args,nx,el⟩)):=Lib.hid (by rw [decide_eq_decide,HU.out];exact ⟨fun h=>⟨h1,by simpa using h⟩,fun h=>by simpa using h.2⟩)
   clear h1
   go_enter Tryd.func106,Tryd.ntmps106
   go_wp2_with (first | (go_at_call 112;refine (are_lit B _ [a] 1 ks 1 _ _ _ _ _ _ _ _ _ _ _ _ _ _ _ _ _ _ _ _ w3 _ rfl (by omega) HK3.out HKL.out hB3 (by first | rfl | simp) (by first | exact .inl rfl | exact .inr rfl)).mono ?_;rintro ee w4 ⟨rfl,hb4⟩;have HB4:=Lib.hid hb4;clear hb4;rw [HD.out]) | (go_at_call 112;refine (are_lit B _ [d] 1 ks 0 _ _ _ _ _ _ _ _ _ _ _ _ _ _ _ _ _ _ _ _ _ _ rfl (by omega) HK.out HKL.out hB2 HZ2.out (by first | exact .inl rfl | exact .inr rfl)).mono ?_;rintro ee w3 ⟨rfl,hb3⟩;have HC3:=HCB.out.below hb3 HCB.out.lt;have HN3:=HNB.out.below hb3 HNB.out.lt;have c0:w3.cell? ⟨w.heap.size,0,none⟩=some (.slice fo nF cF):=HC3.cell 0;have c1:w3.cell? ⟨w.heap.size,1,none⟩=some (.slice po nP pc):=HC3.cell 1;have c2:w3.cell? ⟨w.heap.size,2,none⟩=some (.slice ko nK kc):=HC3.cell 2;have c3:w3.cell? ⟨w.heap.size,3,none⟩=some (.int .i64 cells):=HC3.cell 3;have c4:w3.cell? ⟨w.heap.size,4,none⟩=some (.slice io nI ic):=HC3.cell 4;have c5:w3.cell? ⟨w.heap.size,5,none⟩=some (.bool res):=HC3.cell 5;have c6:w3.cell? ⟨w.heap.size,6,none⟩=some (.int .i64 keep):=HC3.cell 6;have c7:w3.cell? ⟨w.heap.size,7,none⟩=some (.slice no nN nc):=HC3.cell 7;have c8:w3.cell? ⟨w.heap.size,8,none⟩=some (.int .i64 entry):=HC3.cell 8;have c9:w3.cell? ⟨w.heap.size,9,none⟩=some (.bool bd):=HC3.cell 9;have n2:w3.cell? ⟨w.heap.size+1,2,none⟩=some (.int .i64 d):=HN3.cell 2;have n4:w3.cell? ⟨w.heap.size+1,4,none⟩=some (.int .i64 a):=HN3.cell 4;have n5:w3.cell? ⟨w.heap.size+1,5,none⟩=some (.int .i64 b):=HN3.cell 5;have HK3:=Lib.hid (HK.out.below (hb3.mono hB2));have hB3:B≤w3.heap.size:=Nat.le_trans hB2 hb3.size;have hz3:w.heap.size+1<w3.heap.size:=Nat.lt_of_lt_of_le (by simp) hb3.size;have HB3:=Lib.hid hb3;clear hb3 HC3 HN3;rw [H1.out]))
   go_ret
   exact ⟨rfl,HB2.out.trans ((HB3.out.trans (HB4.out.mono HB3.out.size)).mono (by simp;omega))⟩
 ·-- 8
  have HU:Hid (uses (grs rs) ⟨ps,ks,cells,is,res,keep,nodes,entry⟩ bd ⟨8,bop,d,e,a,b,f,cell,imm,args,nx,el⟩↔fits ks bd a 1∧fits ks bd b 0):=Lib.hid (by unfold uses;rw [if_neg (by simp)];rw [if_neg (by simp)];rw [if_neg (by simp)];rw [if_neg (by simp)];rw [if_neg (by simp)];rw [if_neg (by simp)];rw [if_neg (by simp)];rw [if_pos (by simp)];all_goals exact Iff.rfl)
  by_cases h1:fits ks bd a 1
  rotate_left
  ·have H1:Hid (decide (∀ p ∈ [a],fits ks bd p 1)=false):=Lib.hid (decide_eq_false (by simpa using h1))
   have HD:Hid (decide (uses (grs rs) ⟨ps,ks,cells,is,res,keep,nodes,entry⟩ bd ⟨8,bop,d,e,a,b,f,cell,imm,args,nx,el⟩)=false):=Lib.hid (by rw [decide_eq_false_iff_not,HU.out];rintro ⟨h,_⟩;exact h1 h)
   clear h1
   go_enter Tryd.func106,Tryd.ntmps106
   go_wp2_with (first | (go_at_call 112;refine (are_lit B _ [a] 1 ks 1 _ _ _ _ _ _ _ _ _ _ _ _ _ _ _ _ _ _ _ _ _ _ rfl (by omega) HK.out HKL.out hB2 HZ2.out (by first | exact .inl rfl | exact .inr rfl)).mono ?_;rintro ee w3 ⟨rfl,hb3⟩;have HB3:=Lib.hid hb3;clear hb3;rw [H1.out]))
   go_ret
   exact ⟨by rw [HD.out];rfl,HB2.out.trans (HB3.out.mono (by simp;omega))⟩
  ·have H1:Hid (decide (∀ p ∈ [a],fits ks bd p 1)=true):=Lib.hid (decide_eq_true (by simpa using h1))
   have HF1:=Lib.hid h1
   have HD:Hid (decide (∀ p ∈ [b],fits ks bd p 0)=decide (uses (grs rs) ⟨ps,ks,cells,is,res,keep,nodes,entry⟩ bd ⟨8,bop,d,e,a,b,f,cell,imm,args,nx,el⟩)):=Lib.hid (by rw [decide_eq_decide,HU.out];exact ⟨fun h=>⟨h1,by simpa using h⟩,fun h=>by simpa using h.2⟩)
   clear h1
   go_enter Tryd.func106,Tryd.ntmps106
   go_wp2_with (first | (go_at_call 112;refine (are_lit B _ [b] 1 ks 0 _ _ _ _ _ _ _ _ _ _ _ _ _ _ _ _ _ _ _ _ w3 _ rfl (by omega) HK3.out HKL.out hB3 (by first | rfl | simp) (by first | exact .inl rfl | exact .inr rfl)).mono ?_;rintro ee w4 ⟨rfl,hb4⟩;have HB4:=Lib.hid hb4;clear hb4;rw [HD.out]) | (go_at_call 112;refine (are_lit B _ [a] 1 ks 1 _ _ _ _ _ _ _ _ _ _ _ _ _ _ _ _ _ _ _ _ _ _ rfl (by omega) HK.out HKL.out hB2 HZ2.out (by first | exact .inl rfl | exact .inr rfl)).mono ?_;rintro ee w3 ⟨rfl,hb3⟩;have HC3:=HCB.out.below hb3 HCB.out.lt;have HN3:=HNB.out.below hb3 HNB.out.lt;have c0:w3.cell? ⟨w.heap.size,0,none⟩=some (.slice fo nF cF):=HC3.cell 0;have c1:w3.cell? ⟨w.heap.size,1,none⟩=some (.slice po nP pc):=HC3.cell 1;have c2:w3.cell? ⟨w.heap.size,2,none⟩=some (.slice ko nK kc):=HC3.cell 2;have c3:w3.cell? ⟨w.heap.size,3,none⟩=some (.int .i64 cells):=HC3.cell 3;have c4:w3.cell? ⟨w.heap.size,4,none⟩=some (.slice io nI ic):=HC3.cell 4;have c5:w3.cell? ⟨w.heap.size,5,none⟩=some (.bool res):=HC3.cell 5;have c6:w3.cell? ⟨w.heap.size,6,none⟩=some (.int .i64 keep):=HC3.cell 6;have c7:w3.cell? ⟨w.heap.size,7,none⟩=some (.slice no nN nc):=HC3.cell 7;have c8:w3.cell? ⟨w.heap.size,8,none⟩=some (.int .i64 entry):=HC3.cell 8;have c9:w3.cell? ⟨w.heap.size,9,none⟩=some (.bool bd):=HC3.cell 9;have n2:w3.cell? ⟨w.heap.size+1,2,none⟩=some (.int .i64 d):=HN3.cell 2;have n4:w3.cell? ⟨w.heap.size+1,4,none⟩=some (.int .i64 a):=HN3.cell 4;have n5:w3.cell? ⟨w.heap.size+1,5,none⟩=some (.int .i64 b):=HN3.cell 5;have HK3:=Lib.hid (HK.out.below (hb3.mono hB2));have hB3:B≤w3.heap.size:=Nat.le_trans hB2 hb3.size;have hz3:w.heap.size+1<w3.heap.size:=Nat.lt_of_lt_of_le (by simp) hb3.size;have HB3:=Lib.hid hb3;clear hb3 HC3 HN3;rw [H1.out]))
   go_ret
   exact ⟨rfl,HB2.out.trans ((HB3.out.trans (HB4.out.mono HB3.out.size)).mono (by simp;omega))⟩
theorem uses_e (B:Nat) (rs:List RG) (ps ks is:List Int) (nodes:List Nd) (fo:Option Addr) (nF cF:Nat) (po ko io no:Option Addr) (nP pc nK kc nI ic nN nc:Nat) (cells keep entry:Int) (res bd:Bool) (op bop d e a b f cell imm:Int) (args:List Int) (nx el:Int) (ao:Option Addr) (nA ac:Nat) (w:World) (HF0:RdP w B fo nF rs) (hk:Reads w B 1 ko nK (u8c ks)) (hkl:ks.length=nK) (ha:Reads w B 1 ao nA (i64c args)) (hal:args.length=nA) (hnA:nA*8≤140737488351232) (hB:B≤w.heap.size)
  (hh:bd=false→∀ g ∈ grs rs,headHolds g false) (hop:op=12∨op=13) :
  Calls Tryd.prog 106 #[.agg #[.slice fo nF cF,.slice po nP pc,.slice ko nK kc,.int .i64 cells,.slice io nI ic,.bool res,.int .i64 keep,.slice no nN nc,.int .i64 entry,.bool bd],.agg #[.int .u8 op,.int .u8 bop,.int .i64 d,.int .i64 e,.int .i64 a,.int .i64 b,.int .i64 f,.int .i64 cell,.int .u64 imm,.slice ao nA ac,.int .i64 nx,.int .i64 el]] w fun ee w'=>ee=.returned (.bool (decide (uses (grs rs) ⟨ps,ks,cells,is,res,keep,nodes,entry⟩ bd ⟨op,bop,d,e,a,b,f,cell,imm,args,nx,el⟩)))∧Below w.heap.size w w':=by
 have HB2:Hid (Below w.heap.size w ((w.alloc (.cells #[.slice fo nF cF,.slice po nP pc,.slice ko nK kc,.int .i64 cells,.slice io nI ic,.bool res,.int .i64 keep,.slice no nN nc,.int .i64 entry,.bool bd] 151)).alloc (.cells #[.int .u8 op,.int .u8 bop,.int .i64 d,.int .i64 e,.int .i64 a,.int .i64 b,.int .i64 f,.int .i64 cell,.int .u64 imm,.slice ao nA ac,.int .i64 nx,.int .i64 el] 60))):=((Below.refl _ _).alloc (Nat.le_refl _) _).alloc (by simp) _
 have HCB:Hid (Blk ((w.alloc (.cells #[.slice fo nF cF,.slice po nP pc,.slice ko nK kc,.int .i64 cells,.slice io nI ic,.bool res,.int .i64 keep,.slice no nN nc,.int .i64 entry,.bool bd] 151)).alloc (.cells #[.int .u8 op,.int .u8 bop,.int .i64 d,.int .i64 e,.int .i64 a,.int .i64 b,.int .i64 f,.int .i64 cell,.int .u64 imm,.slice ao nA ac,.int .i64 nx,.int .i64 el] 60)) w.heap.size 151 #[.slice fo nF cF,.slice po nP pc,.slice ko nK kc,.int .i64 cells,.slice io nI ic,.bool res,.int .i64 keep,.slice no nN nc,.int .i64 entry,.bool bd]):=Lib.hid ((Blk.new w 151 #[.slice fo nF cF,.slice po nP pc,.slice ko nK kc,.int .i64 cells,.slice io nI ic,.bool res,.int .i64 keep,.slice no nN nc,.int .i64 entry,.bool bd]).alloc _)
 have HNB:Hid (Blk ((w.alloc (.cells #[.slice fo nF cF,.slice po nP pc,.slice ko nK kc,.int .i64 cells,.slice io nI ic,.bool res,.int .i64 keep,.slice no nN nc,.int .i64 entry,.bool bd] 151)).alloc (.cells #[.int .u8 op,.int .u8 bop,.int .i64 d,.int .i64 e,.int .i64 a,.int .i64 b,.int .i64 f,.int .i64 cell,.int .u64 imm,.slice ao nA ac,.int .i64 nx,.int .i64 el] 60)) (w.heap.size+1) 60 #[.int .u8 op,.int .u8 bop,.int .i64 d,.int .i64 e,.int .i64 a,.int .i64 b,.int .i64 f,.int .i64 cell,.int .u64 imm,.slice ao nA ac,.int .i64 nx,.int .i64 el]):=Lib.hid (by
  have:=Blk.new (w.alloc (.cells #[.slice fo nF cF,.slice po nP pc,.slice ko nK kc,.int .i64 cells,.slice io nI ic,.bool res,.int .i64 keep,.slice no nN nc,.int .i64 entry,.bool bd] 151)) 60 #[.int .u8 op,.int .u8 bop,.int .i64 d,.int .i64 e,.int .i64 a,.int .i64 b,.int .i64 f,.int .i64 cell,.int .u64 imm,.slice ao nA ac,.int .i64 nx,.int .i64 el]
  rwa [show (w.alloc (.cells #[.slice fo nF cF,.slice po nP pc,.slice ko nK kc,.int .i64 cells,.slice io nI ic,.bool res,.int .i64 keep,.slice no nN nc,.int .i64 entry,.bool bd] 151)).heap.size=w.heap.size+1 by simp] at this)
 have HF:=Lib.hid (HF0.below (HB2.out.mono hB))
 have HK:=Lib.hid (hk.below (HB2.out.mono hB))
 have HKL:=Lib.hid hkl
 have HA:=Lib.hid (ha.below (HB2.out.mono hB))
 have HAL:=Lib.hid hal
 have HH:=Lib.hid hh
 have HGL:Hid ((grs rs).length=nF):=Lib.hid (by rw [length_grs,HF0.len])
 have hB2:B≤((w.alloc (.cells #[.slice fo nF cF,.slice po nP pc,.slice ko nK kc,.int .i64 cells,.slice io nI ic,.bool res,.int .i64 keep,.slice no nN nc,.int .i64 entry,.bool bd] 151)).alloc (.cells #[.int .u8 op,.int .u8 bop,.int .i64 d,.int .i64 e,.int .i64 a,.int .i64 b,.int .i64 f,.int .i64 cell,.int .u64 imm,.slice ao nA ac,.int .i64 nx,.int .i64 el] 60)).heap.size:=by simp;omega
 have HZ2:Hid (w.heap.size+1+1=((w.alloc (.cells #[.slice fo nF cF,.slice po nP pc,.slice ko nK kc,.int .i64 cells,.slice io nI ic,.bool res,.int .i64 keep,.slice no nN nc,.int .i64 entry,.bool bd] 151)).alloc (.cells #[.int .u8 op,.int .u8 bop,.int .i64 d,.int .i64 e,.int .i64 a,.int .i64 b,.int .i64 f,.int .i64 cell,.int .u64 imm,.slice ao nA ac,.int .i64 nx,.int .i64 el] 60)).heap.size):=Lib.hid (by simp)
 clear hk hkl HF0 ha hal hh
 rcases hop with rfl | rfl
 ·-- 12
  have HD:Hid (decide (retHolds ks bd res a)=decide (uses (grs rs) ⟨ps,ks,cells,is,res,keep,nodes,entry⟩ bd ⟨12,bop,d,e,a,b,f,cell,imm,args,nx,el⟩)):=Lib.hid (by rw [decide_eq_decide];unfold uses;rw [if_neg (by simp)];rw [if_neg (by simp)];rw [if_neg (by simp)];rw [if_neg (by simp)];rw [if_neg (by simp)];rw [if_neg (by simp)];rw [if_neg (by simp)];rw [if_neg (by simp)];rw [if_neg (by simp)];rw [if_neg (by simp)];rw [if_neg (by simp)];rw [if_pos (by simp)];all_goals exact Iff.rfl)
  go_enter Tryd.func106,Tryd.ntmps106
  go_wp2_with (first | (go_at_call 117;refine (returns_any B ks _ _ _ _ _ _ _ _ _ _ _ _ _ _ _ _ _ _ _ _ _ _ _ _ _ _ _ _ _ args _ _ _ _ _ _ HK.out HKL.out hB2).mono ?_;rintro ee w3 ⟨rfl,hb3⟩;have HB3:=Lib.hid hb3;clear hb3;rw [HD.out]))
  go_ret
  exact ⟨rfl,HB2.out.trans (HB3.out.mono (by simp;omega))⟩
 ·-- 13
  have HD:Hid (decide (hands (grs rs) ⟨ps,ks,cells,is,res,keep,nodes,entry⟩ bd f args)=decide (uses (grs rs) ⟨ps,ks,cells,is,res,keep,nodes,entry⟩ bd ⟨13,bop,d,e,a,b,f,cell,imm,args,nx,el⟩)):=Lib.hid (by rw [decide_eq_decide];unfold uses;rw [if_neg (by simp)];rw [if_neg (by simp)];rw [if_neg (by simp)];rw [if_neg (by simp)];rw [if_neg (by simp)];rw [if_neg (by simp)];rw [if_neg (by simp)];rw [if_neg (by simp)];rw [if_neg (by simp)];rw [if_neg (by simp)];rw [if_neg (by simp)];rw [if_neg (by simp)];rw [if_pos (by simp)];all_goals exact Iff.rfl)
  go_enter Tryd.func106,Tryd.ntmps106
  go_wp2_with (first | (go_at_call 115;refine (hands_any B rs ps ks is nodes _ _ _ _ _ _ _ _ _ _ _ _ _ _ _ _ _ _ _ _ _ _ _ _ _ _ _ _ _ args _ _ _ _ _ _ HF.out HK.out HKL.out HA.out HAL.out hnA hB2 HH.out).mono ?_;rintro ee w3 ⟨rfl,hb3⟩;have HB3:=Lib.hid hb3;clear hb3;rw [HD.out]))
  go_ret
  exact ⟨rfl,HB2.out.trans (HB3.out.mono (by simp;omega))⟩
theorem uses_f (B:Nat) (rs:List RG) (ps ks is:List Int) (nodes:List Nd) (fo:Option Addr) (nF cF:Nat) (po ko io no:Option Addr) (nP pc nK kc nI ic nN nc:Nat) (cells keep entry:Int) (res bd:Bool) (op bop d e a b f cell imm:Int) (args:List Int) (nx el:Int) (ao:Option Addr) (nA ac:Nat) (w:World) (HF0:RdP w B fo nF rs) (hk:Reads w B 1 ko nK (u8c ks)) (hkl:ks.length=nK) (ha:Reads w B 1 ao nA (i64c args)) (hal:args.length=nA) (hnA:nA*8≤140737488351232) (hB:B≤w.heap.size)
  (hh:bd=false→∀ g ∈ grs rs,headHolds g false) (hop:op=11) :
  Calls Tryd.prog 106 #[.agg #[.slice fo nF cF,.slice po nP pc,.slice ko nK kc,.int .i64 cells,.slice io nI ic,.bool res,.int .i64 keep,.slice no nN nc,.int .i64 entry,.bool bd],.agg #[.int .u8 op,.int .u8 bop,.int .i64 d,.int .i64 e,.int .i64 a,.int .i64 b,.int .i64 f,.int .i64 cell,.int .u64 imm,.slice ao nA ac,.int .i64 nx,.int .i64 el]] w fun ee w'=>ee=.returned (.bool (decide (uses (grs rs) ⟨ps,ks,cells,is,res,keep,nodes,entry⟩ bd ⟨op,bop,d,e,a,b,f,cell,imm,args,nx,el⟩)))∧Below w.heap.size w w':=by
 have HB2:Hid (Below w.heap.size w ((w.alloc (.cells #[.slice fo nF cF,.slice po nP pc,.slice ko nK kc,.int .i64 cells,.slice io nI ic,.bool res,.int .i64 keep,.slice no nN nc,.int .i64 entry,.bool bd] 151)).alloc (.cells #[.int .u8 op,.int .u8 bop,.int .i64 d,.int .i64 e,.int .i64 a,.int .i64 b,.int .i64 f,.int .i64 cell,.int .u64 imm,.slice ao nA ac,.int .i64 nx,.int .i64 el] 60))):=((Below.refl _ _).alloc (Nat.le_refl _) _).alloc (by simp) _
 have HCB:Hid (Blk ((w.alloc (.cells #[.slice fo nF cF,.slice po nP pc,.slice ko nK kc,.int .i64 cells,.slice io nI ic,.bool res,.int .i64 keep,.slice no nN nc,.int .i64 entry,.bool bd] 151)).alloc (.cells #[.int .u8 op,.int .u8 bop,.int .i64 d,.int .i64 e,.int .i64 a,.int .i64 b,.int .i64 f,.int .i64 cell,.int .u64 imm,.slice ao nA ac,.int .i64 nx,.int .i64 el] 60)) w.heap.size 151 #[.slice fo nF cF,.slice po nP pc,.slice ko nK kc,.int .i64 cells,.slice io nI ic,.bool res,.int .i64 keep,.slice no nN nc,.int .i64 entry,.bool bd]):=Lib.hid ((Blk.new w 151 #[.slice fo nF cF,.slice po nP pc,.slice ko nK kc,.int .i64 cells,.slice io nI ic,.bool res,.int .i64 keep,.slice no nN nc,.int .i64 entry,.bool bd]).alloc _)
 have HNB:Hid (Blk ((w.alloc (.cells #[.slice fo nF cF,.slice po nP pc,.slice ko nK kc,.int .i64 cells,.slice io nI ic,.bool res,.int .i64 keep,.slice no nN nc,.int .i64 entry,.bool bd] 151)).alloc (.cells #[.int .u8 op,.int .u8 bop,.int .i64 d,.int .i64 e,.int .i64 a,.int .i64 b,.int .i64 f,.int .i64 cell,.int .u64 imm,.slice ao nA ac,.int .i64 nx,.int .i64 el] 60)) (w.heap.size+1) 60 #[.int .u8 op,.int .u8 bop,.int .i64 d,.int .i64 e,.int .i64 a,.int .i64 b,.int .i64 f,.int .i64 cell,.int .u64 imm,.slice ao nA ac,.int .i64 nx,.int .i64 el]):=Lib.hid (by
  have:=Blk.new (w.alloc (.cells #[.slice fo nF cF,.slice po nP pc,.slice ko nK kc,.int .i64 cells,.slice io nI ic,.bool res,.int .i64 keep,.slice no nN nc,.int .i64 entry,.bool bd] 151)) 60 #[.int .u8 op,.int .u8 bop,.int .i64 d,.int .i64 e,.int .i64 a,.int .i64 b,.int .i64 f,.int .i64 cell,.int .u64 imm,.slice ao nA ac,.int .i64 nx,.int .i64 el]
  rwa [show (w.alloc (.cells #[.slice fo nF cF,.slice po nP pc,.slice ko nK kc,.int .i64 cells,.slice io nI ic,.bool res,.int .i64 keep,.slice no nN nc,.int .i64 entry,.bool bd] 151)).heap.size=w.heap.size+1 by simp] at this)
 have HF:=Lib.hid (HF0.below (HB2.out.mono hB))
 have HK:=Lib.hid (hk.below (HB2.out.mono hB))
 have HKL:=Lib.hid hkl
 have HA:=Lib.hid (ha.below (HB2.out.mono hB))
 have HAL:=Lib.hid hal
 have HH:=Lib.hid hh
 have HGL:Hid ((grs rs).length=nF):=Lib.hid (by rw [length_grs,HF0.len])
 have hB2:B≤((w.alloc (.cells #[.slice fo nF cF,.slice po nP pc,.slice ko nK kc,.int .i64 cells,.slice io nI ic,.bool res,.int .i64 keep,.slice no nN nc,.int .i64 entry,.bool bd] 151)).alloc (.cells #[.int .u8 op,.int .u8 bop,.int .i64 d,.int .i64 e,.int .i64 a,.int .i64 b,.int .i64 f,.int .i64 cell,.int .u64 imm,.slice ao nA ac,.int .i64 nx,.int .i64 el] 60)).heap.size:=by simp;omega
 have HZ2:Hid (w.heap.size+1+1=((w.alloc (.cells #[.slice fo nF cF,.slice po nP pc,.slice ko nK kc,.int .i64 cells,.slice io nI ic,.bool res,.int .i64 keep,.slice no nN nc,.int .i64 entry,.bool bd] 151)).alloc (.cells #[.int .u8 op,.int .u8 bop,.int .i64 d,.int .i64 e,.int .i64 a,.int .i64 b,.int .i64 f,.int .i64 cell,.int .u64 imm,.slice ao nA ac,.int .i64 nx,.int .i64 el] 60)).heap.size):=Lib.hid (by simp)
 clear hk hkl HF0 ha hal hh
 rcases hop with rfl
 ·-- 11
  have HU:Hid (uses (grs rs) ⟨ps,ks,cells,is,res,keep,nodes,entry⟩ bd ⟨11,bop,d,e,a,b,f,cell,imm,args,nx,el⟩↔hands (grs rs) ⟨ps,ks,cells,is,res,keep,nodes,entry⟩ bd f args∧gets (grs rs) ⟨ps,ks,cells,is,res,keep,nodes,entry⟩ bd f d):=Lib.hid (by unfold uses;rw [if_neg (by simp)];rw [if_neg (by simp)];rw [if_neg (by simp)];rw [if_neg (by simp)];rw [if_neg (by simp)];rw [if_neg (by simp)];rw [if_neg (by simp)];rw [if_neg (by simp)];rw [if_neg (by simp)];rw [if_neg (by simp)];rw [if_pos (by simp)];all_goals exact Iff.rfl)
  by_cases h1:hands (grs rs) ⟨ps,ks,cells,is,res,keep,nodes,entry⟩ bd f args
  rotate_left
  ·have H1:Hid (decide (hands (grs rs) ⟨ps,ks,cells,is,res,keep,nodes,entry⟩ bd f args)=false):=Lib.hid (decide_eq_false (by simpa using h1))
   have HD:Hid (decide (uses (grs rs) ⟨ps,ks,cells,is,res,keep,nodes,entry⟩ bd ⟨11,bop,d,e,a,b,f,cell,imm,args,nx,el⟩)=false):=Lib.hid (by rw [decide_eq_false_iff_not,HU.out];rintro ⟨h,_⟩;exact h1 h)
   clear h1
   go_enter Tryd.func106,Tryd.ntmps106
   go_wp2_with (first | (go_at_call 115;refine (hands_any B rs ps ks is nodes _ _ _ _ _ _ _ _ _ _ _ _ _ _ _ _ _ _ _ _ _ _ _ _ _ _ _ _ _ args _ _ _ _ _ _ HF.out HK.out HKL.out HA.out HAL.out hnA hB2 HH.out).mono ?_;rintro ee w3 ⟨rfl,hb3⟩;have HB3:=Lib.hid hb3;clear hb3;rw [H1.out]))
   go_ret
   exact ⟨by rw [HD.out];rfl,HB2.out.trans (HB3.out.mono (by simp;omega))⟩
  ·have H1:Hid (decide (hands (grs rs) ⟨ps,ks,cells,is,res,keep,nodes,entry⟩ bd f args)=true):=Lib.hid (decide_eq_true (by simpa using h1))
   have HF1:=Lib.hid h1
   have HD:Hid (decide (gets (grs rs) ⟨ps,ks,cells,is,res,keep,nodes,entry⟩ bd f d)=decide (uses (grs rs) ⟨ps,ks,cells,is,res,keep,nodes,entry⟩ bd ⟨11,bop,d,e,a,b,f,cell,imm,args,nx,el⟩)):=Lib.hid (by rw [decide_eq_decide,HU.out];exact ⟨fun h=>⟨h1,by simpa using h⟩,fun h=>by simpa using h.2⟩)
   clear h1
   go_enter Tryd.func106,Tryd.ntmps106
   go_wp2_with (first | (go_at_call 116;refine (gets_any B rs ps ks is nodes _ _ _ _ _ _ _ _ _ _ _ _ _ _ _ _ _ _ _ _ _ _ _ _ _ _ _ _ _ args _ _ _ _ _ _ (HF.out.below (HB3.out.mono hB2)) (by have:=HF1.out.1;rwa [HGL.out] at this) HK3.out HKL.out hB3).mono ?_;rintro ee w4 ⟨rfl,hb4⟩;have HB4:=Lib.hid hb4;clear hb4;rw [HD.out]) | (go_at_call 115;refine (hands_any B rs ps ks is nodes _ _ _ _ _ _ _ _ _ _ _ _ _ _ _ _ _ _ _ _ _ _ _ _ _ _ _ _ _ args _ _ _ _ _ _ HF.out HK.out HKL.out HA.out HAL.out hnA hB2 HH.out).mono ?_;rintro ee w3 ⟨rfl,hb3⟩;have HC3:=HCB.out.below hb3 HCB.out.lt;have HN3:=HNB.out.below hb3 HNB.out.lt;have c0:w3.cell? ⟨w.heap.size,0,none⟩=some (.slice fo nF cF):=HC3.cell 0;have c1:w3.cell? ⟨w.heap.size,1,none⟩=some (.slice po nP pc):=HC3.cell 1;have c2:w3.cell? ⟨w.heap.size,2,none⟩=some (.slice ko nK kc):=HC3.cell 2;have c3:w3.cell? ⟨w.heap.size,3,none⟩=some (.int .i64 cells):=HC3.cell 3;have c4:w3.cell? ⟨w.heap.size,4,none⟩=some (.slice io nI ic):=HC3.cell 4;have c5:w3.cell? ⟨w.heap.size,5,none⟩=some (.bool res):=HC3.cell 5;have c6:w3.cell? ⟨w.heap.size,6,none⟩=some (.int .i64 keep):=HC3.cell 6;have c7:w3.cell? ⟨w.heap.size,7,none⟩=some (.slice no nN nc):=HC3.cell 7;have c8:w3.cell? ⟨w.heap.size,8,none⟩=some (.int .i64 entry):=HC3.cell 8;have c9:w3.cell? ⟨w.heap.size,9,none⟩=some (.bool bd):=HC3.cell 9;have n0:w3.cell? ⟨w.heap.size+1,0,none⟩=some (.int .u8 11):=HN3.cell 0;have n1:w3.cell? ⟨w.heap.size+1,1,none⟩=some (.int .u8 bop):=HN3.cell 1;have n2:w3.cell? ⟨w.heap.size+1,2,none⟩=some (.int .i64 d):=HN3.cell 2;have n3:w3.cell? ⟨w.heap.size+1,3,none⟩=some (.int .i64 e):=HN3.cell 3;have n4:w3.cell? ⟨w.heap.size+1,4,none⟩=some (.int .i64 a):=HN3.cell 4;have n5:w3.cell? ⟨w.heap.size+1,5,none⟩=some (.int .i64 b):=HN3.cell 5;have n6:w3.cell? ⟨w.heap.size+1,6,none⟩=some (.int .i64 f):=HN3.cell 6;have n7:w3.cell? ⟨w.heap.size+1,7,none⟩=some (.int .i64 cell):=HN3.cell 7;have n8:w3.cell? ⟨w.heap.size+1,8,none⟩=some (.int .u64 imm):=HN3.cell 8;have n9:w3.cell? ⟨w.heap.size+1,9,none⟩=some (.slice ao nA ac):=HN3.cell 9;have n10:w3.cell? ⟨w.heap.size+1,10,none⟩=some (.int .i64 nx):=HN3.cell 10;have n11:w3.cell? ⟨w.heap.size+1,11,none⟩=some (.int .i64 el):=HN3.cell 11;have HK3:=Lib.hid (HK.out.below (hb3.mono hB2));have hB3:B≤w3.heap.size:=Nat.le_trans hB2 hb3.size;have hz3:w.heap.size+1<w3.heap.size:=Nat.lt_of_lt_of_le (by simp) hb3.size;have HB3:=Lib.hid hb3;clear hb3 HC3 HN3;rw [H1.out]))
   go_ret
   exact ⟨rfl,HB2.out.trans ((HB3.out.trans (HB4.out.mono HB3.out.size)).mono (by simp;omega))⟩
theorem uses_z (B:Nat) (rs:List RG) (ps ks is:List Int) (nodes:List Nd) (fo:Option Addr) (nF cF:Nat) (po ko io no:Option Addr) (nP pc nK kc nI ic nN nc:Nat) (cells keep entry:Int) (res bd:Bool) (op bop d e a b f cell imm:Int) (args:List Int) (nx el:Int) (ao:Option Addr) (nA ac:Nat) (w:World) (HF0:RdP w B fo nF rs) (hk:Reads w B 1 ko nK (u8c ks)) (hkl:ks.length=nK) (ha:Reads w B 1 ao nA (i64c args)) (hal:args.length=nA) (hnA:nA*8≤140737488351232) (hB:B≤w.heap.size)
  (hh:bd=false→∀ g ∈ grs rs,headHolds g false) (ho0:0≤op) (ho1:op≤255) (hop:op<1∨18<op) :
  Calls Tryd.prog 106 #[.agg #[.slice fo nF cF,.slice po nP pc,.slice ko nK kc,.int .i64 cells,.slice io nI ic,.bool res,.int .i64 keep,.slice no nN nc,.int .i64 entry,.bool bd],.agg #[.int .u8 op,.int .u8 bop,.int .i64 d,.int .i64 e,.int .i64 a,.int .i64 b,.int .i64 f,.int .i64 cell,.int .u64 imm,.slice ao nA ac,.int .i64 nx,.int .i64 el]] w fun ee w'=>ee=.returned (.bool (decide (uses (grs rs) ⟨ps,ks,cells,is,res,keep,nodes,entry⟩ bd ⟨op,bop,d,e,a,b,f,cell,imm,args,nx,el⟩)))∧Below w.heap.size w w':=by
 have HB2:Hid (Below w.heap.size w ((w.alloc (.cells #[.slice fo nF cF,.slice po nP pc,.slice ko nK kc,.int .i64 cells,.slice io nI ic,.bool res,.int .i64 keep,.slice no nN nc,.int .i64 entry,.bool bd] 151)).alloc (.cells #[.int .u8 op,.int .u8 bop,.int .i64 d,.int .i64 e,.int .i64 a,.int .i64 b,.int .i64 f,.int .i64 cell,.int .u64 imm,.slice ao nA ac,.int .i64 nx,.int .i64 el] 60))):=((Below.refl _ _).alloc (Nat.le_refl _) _).alloc (by simp) _
 have HCB:Hid (Blk ((w.alloc (.cells #[.slice fo nF cF,.slice po nP pc,.slice ko nK kc,.int .i64 cells,.slice io nI ic,.bool res,.int .i64 keep,.slice no nN nc,.int .i64 entry,.bool bd] 151)).alloc (.cells #[.int .u8 op,.int .u8 bop,.int .i64 d,.int .i64 e,.int .i64 a,.int .i64 b,.int .i64 f,.int .i64 cell,.int .u64 imm,.slice ao nA ac,.int .i64 nx,.int .i64 el] 60)) w.heap.size 151 #[.slice fo nF cF,.slice po nP pc,.slice ko nK kc,.int .i64 cells,.slice io nI ic,.bool res,.int .i64 keep,.slice no nN nc,.int .i64 entry,.bool bd]):=Lib.hid ((Blk.new w 151 #[.slice fo nF cF,.slice po nP pc,.slice ko nK kc,.int .i64 cells,.slice io nI ic,.bool res,.int .i64 keep,.slice no nN nc,.int .i64 entry,.bool bd]).alloc _)
 have HNB:Hid (Blk ((w.alloc (.cells #[.slice fo nF cF,.slice po nP pc,.slice ko nK kc,.int .i64 cells,.slice io nI ic,.bool res,.int .i64 keep,.slice no nN nc,.int .i64 entry,.bool bd] 151)).alloc (.cells #[.int .u8 op,.int .u8 bop,.int .i64 d,.int .i64 e,.int .i64 a,.int .i64 b,.int .i64 f,.int .i64 cell,.int .u64 imm,.slice ao nA ac,.int .i64 nx,.int .i64 el] 60)) (w.heap.size+1) 60 #[.int .u8 op,.int .u8 bop,.int .i64 d,.int .i64 e,.int .i64 a,.int .i64 b,.int .i64 f,.int .i64 cell,.int .u64 imm,.slice ao nA ac,.int .i64 nx,.int .i64 el]):=Lib.hid (by
  have:=Blk.new (w.alloc (.cells #[.slice fo nF cF,.slice po nP pc,.slice ko nK kc,.int .i64 cells,.slice io nI ic,.bool res,.int .i64 keep,.slice no nN nc,.int .i64 entry,.bool bd] 151)) 60 #[.int .u8 op,.int .u8 bop,.int .i64 d,.int .i64 e,.int .i64 a,.int .i64 b,.int .i64 f,.int .i64 cell,.int .u64 imm,.slice ao nA ac,.int .i64 nx,.int .i64 el]
  rwa [show (w.alloc (.cells #[.slice fo nF cF,.slice po nP pc,.slice ko nK kc,.int .i64 cells,.slice io nI ic,.bool res,.int .i64 keep,.slice no nN nc,.int .i64 entry,.bool bd] 151)).heap.size=w.heap.size+1 by simp] at this)
 have HF:=Lib.hid (HF0.below (HB2.out.mono hB))
 have HK:=Lib.hid (hk.below (HB2.out.mono hB))
 have HKL:=Lib.hid hkl
 have HA:=Lib.hid (ha.below (HB2.out.mono hB))
 have HAL:=Lib.hid hal
 have HH:=Lib.hid hh
 have HGL:Hid ((grs rs).length=nF):=Lib.hid (by rw [length_grs,HF0.len])
 have hB2:B≤((w.alloc (.cells #[.slice fo nF cF,.slice po nP pc,.slice ko nK kc,.int .i64 cells,.slice io nI ic,.bool res,.int .i64 keep,.slice no nN nc,.int .i64 entry,.bool bd] 151)).alloc (.cells #[.int .u8 op,.int .u8 bop,.int .i64 d,.int .i64 e,.int .i64 a,.int .i64 b,.int .i64 f,.int .i64 cell,.int .u64 imm,.slice ao nA ac,.int .i64 nx,.int .i64 el] 60)).heap.size:=by simp;omega
 have HZ2:Hid (w.heap.size+1+1=((w.alloc (.cells #[.slice fo nF cF,.slice po nP pc,.slice ko nK kc,.int .i64 cells,.slice io nI ic,.bool res,.int .i64 keep,.slice no nN nc,.int .i64 entry,.bool bd] 151)).alloc (.cells #[.int .u8 op,.int .u8 bop,.int .i64 d,.int .i64 e,.int .i64 a,.int .i64 b,.int .i64 f,.int .i64 cell,.int .u64 imm,.slice ao nA ac,.int .i64 nx,.int .i64 el] 60)).heap.size):=Lib.hid (by simp)
 clear hk hkl HF0 ha hal hh
 have HD:Hid (decide (uses (grs rs) ⟨ps,ks,cells,is,res,keep,nodes,entry⟩ bd ⟨op,bop,d,e,a,b,f,cell,imm,args,nx,el⟩)=false):=Lib.hid (by
  rw [decide_eq_false_iff_not]
  unfold uses
  simp only []
  repeat rw [if_neg (by omega)]
  exact id)
 have g1:(op == 1)=false:=by simp;omega
 have g2:(op == 2)=false:=by simp;omega
 have g3:(op == 3)=false:=by simp;omega
 have g4:(op == 4)=false:=by simp;omega
 have g5:(op == 5)=false:=by simp;omega
 have g6:(op == 6)=false:=by simp;omega
 have g7:(op == 7)=false:=by simp;omega
 have g8:(op == 8)=false:=by simp;omega
 have g9:(op == 9)=false:=by simp;omega
 have g10:(op == 10)=false:=by simp;omega
 have g11:(op == 11)=false:=by simp;omega
 have g12:(op == 12)=false:=by simp;omega
 have g13:(op == 13)=false:=by simp;omega
 have g14:(op == 14)=false:=by simp;omega
 have g15:(op == 15)=false:=by simp;omega
 have g16:(op == 16)=false:=by simp;omega
 have g17:(op == 17)=false:=by simp;omega
 have g18:(op == 18)=false:=by simp;omega
 go_enter Tryd.func106,Tryd.ntmps106
 go_wp2
 go_ret
 exact ⟨by rw [HD.out];rfl,HB2.out⟩
end Go.Proofs.YtepkogfiojkcpaaDoor
