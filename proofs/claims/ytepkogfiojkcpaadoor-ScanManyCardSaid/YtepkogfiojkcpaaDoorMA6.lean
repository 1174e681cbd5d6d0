/-
  Texts of one seat, one behind the other: LBk0, LNx, LBk1, LBk2.
-/
import Derived.Deep.DeepCutAuto
import Derived.Deep.CutBlock
import Derived.Deep.RegionLaw
import Derived.Test.YtepkogfiojkcpaaDoorMA5
import Derived.Test.YtepkogfiojkcpaaDoorMA1

set_option linter.unusedVariables false
set_option linter.unusedSimpArgs false
set_option maxRecDepth 100000
set_option maxHeartbeats 51200000
namespace Go.Proofs.YtepkogfiojkcpaaDoor
open Go.ChangeShapes Go.WideShapes Go.ChangeAt Go.RowKit
structure NbI (W:World) (bb R1 R2 R n q m:Nat) (vs:Nat→Value) (ls:Nat→List Int) (cs:Array Value) (wr:World):Prop where
 gr:Blk wr W.heap.size 38 cs
 box:Blk wr bb 102 #[.slice (some ⟨R1,0,none⟩) n n,.slice (some ⟨R2,0,none⟩) n n,.slice (some ⟨R,0,none⟩) n n]
 r1:Blk wr R1 34 (rowA n fun i=>vs (2*i))
 r2:Blk wr R2 34 (rowA n fun i=>vs (2*i+1))
 ne:R1≠R2
 fam:Fam wr W.heap.size (2*n) vs ls
 sets:SetsI wr R n q m (List.replicate n (List.replicate q 0))
 below:Below W.heap.size W wr
 l1:W.heap.size<R1
 l2:W.heap.size<R2
 l3:W.heap.size<R
 l4:W.heap.size<bb
structure Two (W:World) (a b R n q m:Nat) (cs:Array Value) (w3:World):Prop where
 gr:Blk w3 W.heap.size 38 cs
 ba:Blk w3 a 34 (madeCells #[.slice none 0 0] n)
 bb:Blk w3 b 34 (madeCells #[.slice none 0 0] n)
 ne:a≠b
 sets:SetsI w3 R n q m (List.replicate n (List.replicate q 0))
 below:Below W.heap.size W w3
 la:W.heap.size<a
 lb:W.heap.size<b
 lR:W.heap.size<R
section
variable {W wr w2 w3:World} {bb R1 R2 R n q m a b:Nat} {cs:Array Value}
theorem Two.swap (h:Two W a b R n q m cs w3):Two W b a R n q m cs w3:=⟨h.gr,h.bb,h.ba,h.ne.symm,h.sets,h.below,h.lb,h.la,h.lR⟩
theorem Two.mk0 (h:Two W R1 R2 R n q m cs w3) (hb:bb=w3.heap.size) :
  NbI W bb R1 R2 R n q m (fun _=>.slice none 0 0) (fun _=>[]) cs (w3.alloc (.cells #[.slice (some ⟨R1,0,none⟩) n n,.slice (some ⟨R2,0,none⟩) n n,.slice (some ⟨R,0,none⟩) n n] 102)):=by
 subst hb
 have h1:=h.ba
 have h2:=h.bb
 rw [rowA_made] at h1 h2
 exact ⟨h.gr.alloc _,Blk.new _ _ _,h1.alloc _,h2.alloc _,h.ne,Fam.nil _ _ _,h.sets.alloc _,h.below.alloc h.below.size _,h.la,h.lb,h.lR,h.gr.lt⟩
theorem Two.A (hs:SetsI w2 ((((W.alloc (.cells cs 38)).alloc (.cells (madeCells #[.slice none 0 0] n) 34)).alloc (.cells (madeCells #[.slice none 0 0] n) 34)).drew.heap.size+1) n q m (List.replicate n (List.replicate q 0))) (hb:Below (((W.alloc (.cells cs 38)).alloc (.cells (madeCells #[.slice none 0 0] n) 34)).alloc (.cells (madeCells #[.slice none 0 0] n) 34)).drew.heap.size (((W.alloc (.cells cs 38)).alloc (.cells (madeCells #[.slice none 0 0] n) 34)).alloc (.cells (madeCells #[.slice none 0 0] n) 34)).drew w2):Two W (W.heap.size+1) (W.heap.size+1+1) (W.heap.size+1+1+1+1) n q m cs w2:=by
 rw [show (((W.alloc (.cells cs 38)).alloc (.cells (madeCells #[.slice none 0 0] n) 34)).alloc (.cells (madeCells #[.slice none 0 0] n) 34)).drew.heap.size=W.heap.size+1+1+1 by simp] at hs hb
 have h1:=Blk.new (W.alloc (.cells cs 38)) 34 (madeCells #[.slice none 0 0] n)
 have h2:=Blk.new ((W.alloc (.cells cs 38)).alloc (.cells (madeCells #[.slice none 0 0] n) 34)) 34 (madeCells #[.slice none 0 0] n)
 rw [show (W.alloc (.cells cs 38)).heap.size=W.heap.size+1 by simp] at h1
 rw [show ((W.alloc (.cells cs 38)).alloc (.cells (madeCells #[.slice none 0 0] n) 34)).heap.size=W.heap.size+1+1 by simp] at h2
 exact ⟨(((Blk.new W _ _).alloc _).alloc _).drew.below hb (by omega),(h1.alloc _).drew.below hb (by omega),h2.drew.below hb (by omega),by omega,hs,((((Below.refl _ _).alloc (Nat.le_refl _) _).alloc (by simp) _).alloc (by simp;omega) _).drew.trans (hb.mono (by omega)),by omega,by omega,by omega⟩
theorem Two.B (hs:SetsI w2 (((W.alloc (.cells cs 38)).alloc (.cells (madeCells #[.slice none 0 0] n) 34)).drew.heap.size+1) n q m (List.replicate n (List.replicate q 0))) (hb:Below ((W.alloc (.cells cs 38)).alloc (.cells (madeCells #[.slice none 0 0] n) 34)).drew.heap.size ((W.alloc (.cells cs 38)).alloc (.cells (madeCells #[.slice none 0 0] n) 34)).drew w2) {z:Nat} (hz:w2.heap.size=z):Two W (W.heap.size+1) z (W.heap.size+1+1+1) n q m cs (w2.alloc (.cells (madeCells #[.slice none 0 0] n) 34)):=by
 rw [show ((W.alloc (.cells cs 38)).alloc (.cells (madeCells #[.slice none 0 0] n) 34)).drew.heap.size=W.heap.size+1+1 by simp] at hs hb
 subst hz
 have h1:=Blk.new (W.alloc (.cells cs 38)) 34 (madeCells #[.slice none 0 0] n)
 rw [show (W.alloc (.cells cs 38)).heap.size=W.heap.size+1 by simp] at h1
 have hz:=hb.size
 simp at hz
 exact ⟨(((Blk.new W _ _).alloc _).drew.below hb (by omega)).alloc _,(h1.drew.below hb (by omega)).alloc _,Blk.new _ _ _,by omega,hs.alloc _,((((Below.refl _ _).alloc (Nat.le_refl _) _).alloc (by simp) _).drew.trans (hb.mono (by omega))).alloc (by omega) _,by omega,by omega,by omega⟩
theorem Two.C (hs:SetsI w2 ((W.alloc (.cells cs 38)).drew.heap.size+1) n q m (List.replicate n (List.replicate q 0))) (hb:Below (W.alloc (.cells cs 38)).drew.heap.size (W.alloc (.cells cs 38)).drew w2) {z z':Nat} (hz:w2.heap.size=z) (hz':z'=z+1):Two W z z' (W.heap.size+1+1) n q m cs ((w2.alloc (.cells (madeCells #[.slice none 0 0] n) 34)).alloc (.cells (madeCells #[.slice none 0 0] n) 34)):=by
 rw [show (W.alloc (.cells cs 38)).drew.heap.size=W.heap.size+1 by simp] at hs hb
 subst hz
 subst hz'
 have h2:=Blk.new (w2.alloc (.cells (madeCells #[.slice none 0 0] n) 34)) 34 (madeCells #[.slice none 0 0] n)
 rw [show (w2.alloc (.cells (madeCells #[.slice none 0 0] n) 34)).heap.size=w2.heap.size+1 by simp] at h2
 have hz:=hb.size
 simp at hz
 exact ⟨(((Blk.new W _ _).drew.below hb (by omega)).alloc _).alloc _,(Blk.new _ _ _).alloc _,h2,by omega,(hs.alloc _).alloc _,((((Below.refl _ _).alloc (Nat.le_refl _) _).drew.trans (hb.mono (by omega))).alloc (by omega) _).alloc (by simp;omega) _,by omega,by omega,by omega⟩
end
theorem lit_own (w:World) (t:TypeId) (cs:List Value) (n:Nat) (hs:cs.length=n) (hm:n≤100:=by decide):(w.alloc (.cells cs.toArray t)).ownsRow w.heap.size t 1 (.slice (some ⟨w.heap.size,0,none⟩) n n) n cs:=by
 have h:=World.ownsRow_lit (base:=w.heap.size) (e:=t) (size:=1) w cs.toArray n (Nat.le_refl _) (by unfold maxLen;omega) (by simpa using hs)
 simpa using h
theorem NewO.mk2 {w w':World} {l l':List Int} {A:Option Addr} {n c b2:Nat} (hl:l=l') (hn:l.length=n) (hr:w'.ownsRow b2 3 1 (.slice A n c) n (i64c l)) (hb2:w.heap.size≤b2) (hc:n≤c) (hw:Below w.heap.size w w'):NewO w l' (.returned (.slice A n c)) w':=by
 subst hl
 subst hn
 exact ⟨A,c,rfl,own_more hr hb2,hc,hw⟩
theorem gnext_own (op bop d e a b f cell imm:Int) (args:List Int) (nx el:Int) (ao:Option Addr) (nA ac:Nat) (w:World) (ho0:0≤op) (ho1:op≤255) :
  Calls Tryd.prog 58 #[.agg #[.int .u8 op,.int .u8 bop,.int .i64 d,.int .i64 e,.int .i64 a,.int .i64 b,.int .i64 f,.int .i64 cell,.int .u64 imm,.slice ao nA ac,.int .i64 nx,.int .i64 el]] w (NewO w (nextsOf ⟨op,bop,d,e,a,b,f,cell,imm,args,nx,el⟩)):=by
 have HW1:Hid (Below w.heap.size w (w.alloc (.cells #[.int .u8 op,.int .u8 bop,.int .i64 d,.int .i64 e,.int .i64 a,.int .i64 b,.int .i64 f,.int .i64 cell,.int .u64 imm,.slice ao nA ac,.int .i64 nx,.int .i64 el] 60))):=(Below.refl _ _).alloc (Nat.le_refl _) _
 have hz1:(w.alloc (.cells #[.int .u8 op,.int .u8 bop,.int .i64 d,.int .i64 e,.int .i64 a,.int .i64 b,.int .i64 f,.int .i64 cell,.int .u64 imm,.slice ao nA ac,.int .i64 nx,.int .i64 el] 60)).heap.size=w.heap.size+1:=by simp
 rcases op_cases ho0 ho1 with rfl | rfl | rfl | rfl | rfl | rfl | rfl | rfl | rfl | rfl | rfl | rfl | rfl | rfl | rfl | rfl | rfl | rfl | hop
 ·have HLR:=Lib.hid (lit_own (w.alloc (.cells #[.int .u8 1,.int .u8 bop,.int .i64 d,.int .i64 e,.int .i64 a,.int .i64 b,.int .i64 f,.int .i64 cell,.int .u64 imm,.slice ao nA ac,.int .i64 nx,.int .i64 el] 60)) 3 (i64c [nx]) 1 rfl)
  have HW2:Hid (Below w.heap.size w ((w.alloc (.cells #[.int .u8 1,.int .u8 bop,.int .i64 d,.int .i64 e,.int .i64 a,.int .i64 b,.int .i64 f,.int .i64 cell,.int .u64 imm,.slice ao nA ac,.int .i64 nx,.int .i64 el] 60)).alloc (.cells #[.int .i64 nx] 3))):=HW1.out.alloc (by simp) _
  rw [hz1] at HLR
  go_enter Tryd.func58,Tryd.ntmps58
  go_wp2
  go_ret
  exact NewO.mk2 (l:=[nx]) rfl rfl HLR.out (by omega) (Nat.le_refl _) HW2.out
 ·have HLR:=Lib.hid (lit_own (w.alloc (.cells #[.int .u8 2,.int .u8 bop,.int .i64 d,.int .i64 e,.int .i64 a,.int .i64 b,.int .i64 f,.int .i64 cell,.int .u64 imm,.slice ao nA ac,.int .i64 nx,.int .i64 el] 60)) 3 (i64c [nx]) 1 rfl)
  have HW2:Hid (Below w.heap.size w ((w.alloc (.cells #[.int .u8 2,.int .u8 bop,.int .i64 d,.int .i64 e,.int .i64 a,.int .i64 b,.int .i64 f,.int .i64 cell,.int .u64 imm,.slice ao nA ac,.int .i64 nx,.int .i64 el] 60)).alloc (.cells #[.int .i64 nx] 3))):=HW1.out.alloc (by simp) _
  rw [hz1] at HLR
  go_enter Tryd.func58,Tryd.ntmps58
  go_wp2
  go_ret
  exact NewO.mk2 (l:=[nx]) rfl rfl HLR.out (by omega) (Nat.le_refl _) HW2.out
 ·have HLR:=Lib.hid (lit_own (w.alloc (.cells #[.int .u8 3,.int .u8 bop,.int .i64 d,.int .i64 e,.int .i64 a,.int .i64 b,.int .i64 f,.int .i64 cell,.int .u64 imm,.slice ao nA ac,.int .i64 nx,.int .i64 el] 60)) 3 (i64c [nx]) 1 rfl)
  have HW2:Hid (Below w.heap.size w ((w.alloc (.cells #[.int .u8 3,.int .u8 bop,.int .i64 d,.int .i64 e,.int .i64 a,.int .i64 b,.int .i64 f,.int .i64 cell,.int .u64 imm,.slice ao nA ac,.int .i64 nx,.int .i64 el] 60)).alloc (.cells #[.int .i64 nx] 3))):=HW1.out.alloc (by simp) _
  rw [hz1] at HLR
  go_enter Tryd.func58,Tryd.ntmps58
  go_wp2
  go_ret
  exact NewO.mk2 (l:=[nx]) rfl rfl HLR.out (by omega) (Nat.le_refl _) HW2.out
 ·have HLR:=Lib.hid (lit_own (w.alloc (.cells #[.int .u8 4,.int .u8 bop,.int .i64 d,.int .i64 e,.int .i64 a,.int .i64 b,.int .i64 f,.int .i64 cell,.int .u64 imm,.slice ao nA ac,.int .i64 nx,.int .i64 el] 60)) 3 (i64c [nx]) 1 rfl)
  have HW2:Hid (Below w.heap.size w ((w.alloc (.cells #[.int .u8 4,.int .u8 bop,.int .i64 d,.int .i64 e,.int .i64 a,.int .i64 b,.int .i64 f,.int .i64 cell,.int .u64 imm,.slice ao nA ac,.int .i64 nx,.int .i64 el] 60)).alloc (.cells #[.int .i64 nx] 3))):=HW1.out.alloc (by simp) _
  rw [hz1] at HLR
  go_enter Tryd.func58,Tryd.ntmps58
  go_wp2
  go_ret
  exact NewO.mk2 (l:=[nx]) rfl rfl HLR.out (by omega) (Nat.le_refl _) HW2.out
 ·have HLR:=Lib.hid (lit_own (w.alloc (.cells #[.int .u8 5,.int .u8 bop,.int .i64 d,.int .i64 e,.int .i64 a,.int .i64 b,.int .i64 f,.int .i64 cell,.int .u64 imm,.slice ao nA ac,.int .i64 nx,.int .i64 el] 60)) 3 (i64c [nx]) 1 rfl)
  have HW2:Hid (Below w.heap.size w ((w.alloc (.cells #[.int .u8 5,.int .u8 bop,.int .i64 d,.int .i64 e,.int .i64 a,.int .i64 b,.int .i64 f,.int .i64 cell,.int .u64 imm,.slice ao nA ac,.int .i64 nx,.int .i64 el] 60)).alloc (.cells #[.int .i64 nx] 3))):=HW1.out.alloc (by simp) _
  rw [hz1] at HLR
  go_enter Tryd.func58,Tryd.ntmps58
  go_wp2
  go_ret
  exact NewO.mk2 (l:=[nx]) rfl rfl HLR.out (by omega) (Nat.le_refl _) HW2.out
 ·have HLR:=Lib.hid (lit_own (w.alloc (.cells #[.int .u8 6,.int .u8 bop,.int .i64 d,.int .i64 e,.int .i64 a,.int .i64 b,.int .i64 f,.int .i64 cell,.int .u64 imm,.slice ao nA ac,.int .i64 nx,.int .i64 el] 60)) 3 (i64c [nx]) 1 rfl)
  have HW2:Hid (Below w.heap.size w ((w.alloc (.cells #[.int .u8 6,.int .u8 bop,.int .i64 d,.int .i64 e,.int .i64 a,.int .i64 b,.int .i64 f,.int .i64 cell,.int .u64 imm,.slice ao nA ac,.int .i64 nx,.int .i64 el] 60)).alloc (.cells #[.int .i64 nx] 3))):=HW1.out.alloc (by simp) _
  rw [hz1] at HLR
  go_enter Tryd.func58,Tryd.ntmps58
  go_wp2
  go_ret
  exact NewO.mk2 (l:=[nx]) rfl rfl HLR.out (by omega) (Nat.le_refl _) HW2.out
 ·have HLR:=Lib.hid (lit_own (w.alloc (.cells #[.int .u8 7,.int .u8 bop,.int .i64 d,.int .i64 e,.int .i64 a,.int .i64 b,.int .i64 f,.int .i64 cell,.int .u64 imm,.slice ao nA ac,.int .i64 nx,.int .i64 el] 60)) 3 (i64c [nx]) 1 rfl)
  have HW2:Hid (Below w.heap.size w ((w.alloc (.cells #[.int .u8 7,.int .u8 bop,.int .i64 d,.int .i64 e,.int .i64 a,.int .i64 b,.int .i64 f,.int .i64 cell,.int .u64 imm,.slice ao nA ac,.int .i64 nx,.int .i64 el] 60)).alloc (.cells #[.int .i64 nx] 3))):=HW1.out.alloc (by simp) _
  rw [hz1] at HLR
  go_enter Tryd.func58,Tryd.ntmps58
  go_wp2
  go_ret
  exact NewO.mk2 (l:=[nx]) rfl rfl HLR.out (by omega) (Nat.le_refl _) HW2.out
 ·have HLR:=Lib.hid (lit_own (w.alloc (.cells #[.int .u8 8,.int .u8 bop,.int .i64 d,.int .i64 e,.int .i64 a,.int .i64 b,.int .i64 f,.int .i64 cell,.int .u64 imm,.slice ao nA ac,.int .i64 nx,.int .i64 el] 60)) 3 (i64c [nx]) 1 rfl)
  have HW2:Hid (Below w.heap.size w ((w.alloc (.cells #[.int .u8 8,.int .u8 bop,.int .i64 d,.int .i64 e,.int .i64 a,.int .i64 b,.int .i64 f,.int .i64 cell,.int .u64 imm,.slice ao nA ac,.int .i64 nx,.int .i64 el] 60)).alloc (.cells #[.int .i64 nx] 3))):=HW1.out.alloc (by simp) _
  rw [hz1] at HLR
  go_enter Tryd.func58,Tryd.ntmps58
  go_wp2
  go_ret
  exact NewO.mk2 (l:=[nx]) rfl rfl HLR.out (by omega) (Nat.le_refl _) HW2.out
 ·by_cases hne:el=nx
  ·have hg:(el != nx)=false:=by simpa using hne
   have HE:=Lib.hid hne
   clear hne
   have HLR:=Lib.hid (lit_own (w.alloc (.cells #[.int .u8 9,.int .u8 bop,.int .i64 d,.int .i64 e,.int .i64 a,.int .i64 b,.int .i64 f,.int .i64 cell,.int .u64 imm,.slice ao nA ac,.int .i64 nx,.int .i64 el] 60)) 3 (i64c [nx]) 1 rfl)
   have HW2:Hid (Below w.heap.size w ((w.alloc (.cells #[.int .u8 9,.int .u8 bop,.int .i64 d,.int .i64 e,.int .i64 a,.int .i64 b,.int .i64 f,.int .i64 cell,.int .u64 imm,.slice ao nA ac,.int .i64 nx,.int .i64 el] 60)).alloc (.cells #[.int .i64 nx] 3))):=HW1.out.alloc (by simp) _
   rw [hz1] at HLR
   go_enter Tryd.func58,Tryd.ntmps58
   go_wp2
   go_ret
   exact NewO.mk2 (l:=[nx]) (by unfold nextsOf;simp [HE.out]) rfl HLR.out (by omega) (Nat.le_refl _) HW2.out
  ·have hg:(el != nx)=true:=by simpa using hne
   have HE:=Lib.hid hne
   clear hne
   have HLR:=Lib.hid (lit_own (w.alloc (.cells #[.int .u8 9,.int .u8 bop,.int .i64 d,.int .i64 e,.int .i64 a,.int .i64 b,.int .i64 f,.int .i64 cell,.int .u64 imm,.slice ao nA ac,.int .i64 nx,.int .i64 el] 60)) 3 (i64c [nx,el]) 2 rfl)
   have HW2:Hid (Below w.heap.size w ((w.alloc (.cells #[.int .u8 9,.int .u8 bop,.int .i64 d,.int .i64 e,.int .i64 a,.int .i64 b,.int .i64 f,.int .i64 cell,.int .u64 imm,.slice ao nA ac,.int .i64 nx,.int .i64 el] 60)).alloc (.cells #[.int .i64 nx,.int .i64 el] 3))):=HW1.out.alloc (by simp) _
   rw [hz1] at HLR
   go_enter Tryd.func58,Tryd.ntmps58
   go_wp2
   go_ret
   exact NewO.mk2 (l:=[nx,el]) (by unfold nextsOf;simp [HE.out]) rfl HLR.out (by omega) (Nat.le_refl _) HW2.out
 ·have HLR:=Lib.hid (lit_own (w.alloc (.cells #[.int .u8 10,.int .u8 bop,.int .i64 d,.int .i64 e,.int .i64 a,.int .i64 b,.int .i64 f,.int .i64 cell,.int .u64 imm,.slice ao nA ac,.int .i64 nx,.int .i64 el] 60)) 3 (i64c [nx]) 1 rfl)
  have HW2:Hid (Below w.heap.size w ((w.alloc (.cells #[.int .u8 10,.int .u8 bop,.int .i64 d,.int .i64 e,.int .i64 a,.int .i64 b,.int .i64 f,.int .i64 cell,.int .u64 imm,.slice ao nA ac,.int .i64 nx,.int .i64 el] 60)).alloc (.cells #[.int .i64 nx] 3))):=HW1.out.alloc (by simp) _
  rw [hz1] at HLR
  go_enter Tryd.func58,Tryd.ntmps58
  go_wp2
  go_ret
  exact NewO.mk2 (l:=[nx]) rfl rfl HLR.out (by omega) (Nat.le_refl _) HW2.out
 ·have HLR:=Lib.hid (lit_own (w.alloc (.cells #[.int .u8 11,.int .u8 bop,.int .i64 d,.int .i64 e,.int .i64 a,.int .i64 b,.int .i64 f,.int .i64 cell,.int .u64 imm,.slice ao nA ac,.int .i64 nx,.int .i64 el] 60)) 3 (i64c [nx]) 1 rfl)
  have HW2:Hid (Below w.heap.size w ((w.alloc (.cells #[.int .u8 11,.int .u8 bop,.int .i64 d,.int .i64 e,.int .i64 a,.int .i64 b,.int .i64 f,.int .i64 cell,.int .u64 imm,.slice ao nA ac,.int .i64 nx,.int .i64 el] 60)).alloc (.cells #[.int .i64 nx] 3))):=HW1.out.alloc (by simp) _
  rw [hz1] at HLR
  go_enter Tryd.func58,Tryd.ntmps58
  go_wp2
  go_ret
  exact NewO.mk2 (l:=[nx]) rfl rfl HLR.out (by omega) (Nat.le_refl _) HW2.out
 ·go_enter Tryd.func58,Tryd.ntmps58
  go_wp2
  go_ret
  exact NewO.mk2 (l:=[]) rfl rfl (own_none _ w.heap.size _ _) (Nat.le_refl _) (Nat.le_refl _) HW1.out
 ·have HLR:=Lib.hid (lit_own (w.alloc (.cells #[.int .u8 13,.int .u8 bop,.int .i64 d,.int .i64 e,.int .i64 a,.int .i64 b,.int .i64 f,.int .i64 cell,.int .u64 imm,.slice ao nA ac,.int .i64 nx,.int .i64 el] 60)) 3 (i64c [nx]) 1 rfl)
  have HW2:Hid (Below w.heap.size w ((w.alloc (.cells #[.int .u8 13,.int .u8 bop,.int .i64 d,.int .i64 e,.int .i64 a,.int .i64 b,.int .i64 f,.int .i64 cell,.int .u64 imm,.slice ao nA ac,.int .i64 nx,.int .i64 el] 60)).alloc (.cells #[.int .i64 nx] 3))):=HW1.out.alloc (by simp) _
  rw [hz1] at HLR
  go_enter Tryd.func58,Tryd.ntmps58
  go_wp2
  go_ret
  exact NewO.mk2 (l:=[nx]) rfl rfl HLR.out (by omega) (Nat.le_refl _) HW2.out
 ·go_enter Tryd.func58,Tryd.ntmps58
  go_wp2
  go_ret
  exact NewO.mk2 (l:=[]) rfl rfl (own_none _ w.heap.size _ _) (Nat.le_refl _) (Nat.le_refl _) HW1.out
 ·have HLR:=Lib.hid (lit_own (w.alloc (.cells #[.int .u8 15,.int .u8 bop,.int .i64 d,.int .i64 e,.int .i64 a,.int .i64 b,.int .i64 f,.int .i64 cell,.int .u64 imm,.slice ao nA ac,.int .i64 nx,.int .i64 el] 60)) 3 (i64c [nx]) 1 rfl)
  have HW2:Hid (Below w.heap.size w ((w.alloc (.cells #[.int .u8 15,.int .u8 bop,.int .i64 d,.int .i64 e,.int .i64 a,.int .i64 b,.int .i64 f,.int .i64 cell,.int .u64 imm,.slice ao nA ac,.int .i64 nx,.int .i64 el] 60)).alloc (.cells #[.int .i64 nx] 3))):=HW1.out.alloc (by simp) _
  rw [hz1] at HLR
  go_enter Tryd.func58,Tryd.ntmps58
  go_wp2
  go_ret
  exact NewO.mk2 (l:=[nx]) rfl rfl HLR.out (by omega) (Nat.le_refl _) HW2.out
 ·have HLR:=Lib.hid (lit_own (w.alloc (.cells #[.int .u8 16,.int .u8 bop,.int .i64 d,.int .i64 e,.int .i64 a,.int .i64 b,.int .i64 f,.int .i64 cell,.int .u64 imm,.slice ao nA ac,.int .i64 nx,.int .i64 el] 60)) 3 (i64c [nx]) 1 rfl)
  have HW2:Hid (Below w.heap.size w ((w.alloc (.cells #[.int .u8 16,.int .u8 bop,.int .i64 d,.int .i64 e,.int .i64 a,.int .i64 b,.int .i64 f,.int .i64 cell,.int .u64 imm,.slice ao nA ac,.int .i64 nx,.int .i64 el] 60)).alloc (.cells #[.int .i64 nx] 3))):=HW1.out.alloc (by simp) _
  rw [hz1] at HLR
  go_enter Tryd.func58,Tryd.ntmps58
  go_wp2
  go_ret
  exact NewO.mk2 (l:=[nx]) rfl rfl HLR.out (by omega) (Nat.le_refl _) HW2.out
 ·have HLR:=Lib.hid (lit_own (w.alloc (.cells #[.int .u8 17,.int .u8 bop,.int .i64 d,.int .i64 e,.int .i64 a,.int .i64 b,.int .i64 f,.int .i64 cell,.int .u64 imm,.slice ao nA ac,.int .i64 nx,.int .i64 el] 60)) 3 (i64c [nx]) 1 rfl)
  have HW2:Hid (Below w.heap.size w ((w.alloc (.cells #[.int .u8 17,.int .u8 bop,.int .i64 d,.int .i64 e,.int .i64 a,.int .i64 b,.int .i64 f,.int .i64 cell,.int .u64 imm,.slice ao nA ac,.int .i64 nx,.int .i64 el] 60)).alloc (.cells #[.int .i64 nx] 3))):=HW1.out.alloc (by simp) _
  rw [hz1] at HLR
  go_enter Tryd.func58,Tryd.ntmps58
  go_wp2
  go_ret
  exact NewO.mk2 (l:=[nx]) rfl rfl HLR.out (by omega) (Nat.le_refl _) HW2.out
 ·go_enter Tryd.func58,Tryd.ntmps58
  go_wp2
  go_ret
  exact NewO.mk2 (l:=[]) rfl rfl (own_none _ w.heap.size _ _) (Nat.le_refl _) (Nat.le_refl _) HW1.out
 ·have HLL:Hid (nextsOf ⟨op,bop,d,e,a,b,f,cell,imm,args,nx,el⟩=[]):=Lib.hid (by unfold nextsOf;rw [if_pos];show op<1∨18<op∨op=12∨op=14∨op=18;omega)
  have g12:(op == 12)=false:=by simp;omega
  have g14:(op == 14)=false:=by simp;omega
  have g18:(op == 18)=false:=by simp;omega
  have g9:(op == 9)=false:=by simp;omega
  have q1:decide (op≥1)=true∧decide (op≤18)=false∨decide (op≥1)=false:=by simp;omega
  have q2:decide (op<1)=true∨decide (op<1)=false∧decide (op > 18)=true:=by simp;omega
  rcases q1 with ⟨q1,q1'⟩ | q1 <;> rcases q2 with q2 | ⟨q2,q2'⟩
  all_goals
   go_enter Tryd.func58,Tryd.ntmps58
   go_wp2
   go_ret
   exact NewO.mk2 HLL.out.symm rfl (own_none _ w.heap.size _ _) (Nat.le_refl _) (Nat.le_refl _) HW1.out

section
variable {W wr w':World} {bb R1 R2 R n q m:Nat} {vs:Nat→Value} {ls:Nat→List Int} {cs:Array Value}
theorem NbI.on (h:NbI W bb R1 R2 R n q m vs ls cs wr) (hb:Below wr.heap.size wr w'):NbI W bb R1 R2 R n q m vs ls cs w' :=
 ⟨h.gr.below hb h.gr.lt,h.box.below hb h.box.lt,h.r1.below hb h.r1.lt,h.r2.below hb h.r2.lt,h.ne,h.fam.below hb,h.sets.below hb,h.below.trans (hb.mono h.below.size),h.l1,h.l2,h.l3,h.l4⟩
theorem NbI.alloc (h:NbI W bb R1 R2 R n q m vs ls cs wr) (o:Obj):NbI W bb R1 R2 R n q m vs ls cs (wr.alloc o):=h.on ((Below.refl _ _).alloc (Nat.le_refl _) _)
theorem NbI.drew (h:NbI W bb R1 R2 R n q m vs ls cs wr):NbI W bb R1 R2 R n q m vs ls cs wr.drew:=h.on (Below.refl _ _).drew
theorem NbI.put {v':Value} {l':List Int} {k b2:Nat} (h:NbI W bb R1 R2 R n q m vs ls cs wr) (hk:k<n) (hb:Below wr.heap.size wr w') (hown:w'.ownsRow b2 3 1 v' l'.length (i64c l')) (hb2:wr.heap.size≤b2) :
  NbI W bb R1 R2 R n q m (upd vs (2*k+1) v') (upd ls (2*k+1) l') cs (w'.setCell ⟨R2,k,none⟩ v'):=by
 have h':=h.on hb
 have l2:=h.l2
 have hz:=h.below.size
 refine ⟨h'.gr.far (p:=⟨R2,k,none⟩) (by show W.heap.size≠R2;omega) _,?_,?_,?_,h.ne,?_,?_,h'.below.setCell (p:=⟨R2,k,none⟩) (by show W.heap.size≤R2;omega) _,h.l1,h.l2,h.l3,h.l4⟩
 ·exact h'.box.far (p:=⟨R2,k,none⟩) (Blk.ne_ h'.box h'.r2 (by decide)) _
 ·rw [rowA_congr (g:=fun i=>vs (2*i)) fun i hi=>upd_ne (by omega)]
  exact h'.r1.far (p:=⟨R2,k,none⟩) h.ne _
 ·have h1:=h'.r2.set_ k v'
  rw [rowA_set] at h1
  rw [rowA_congr (g:=upd (fun i=>vs (2*i+1)) k v') fun i hi=>by
   unfold upd
   by_cases e:i=k
   ·subst e
    rw [if_pos rfl,if_pos rfl]
   ·rw [if_neg e,if_neg (by omega)]]
  exact h1
 ·exact (h.fam.put (i:=2*k+1) (by omega) hb hown hb2 (by omega)).far h'.r2 (by decide) k v'
 ·exact ⟨h'.sets.row.far (p:=⟨R2,k,none⟩) (Blk.ne_ h'.sets.row h'.r2 (by decide)) _,fun i hi=>(h'.sets.box i hi).far (p:=⟨R2,k,none⟩) (Blk.ne_ (h'.sets.box i hi) h'.r2 (by decide)) _,fun i hi=>(h'.sets.words i hi).far (p:=⟨R2,k,none⟩) (Blk.ne_ (h'.sets.words i hi) h'.r2 (by decide)) _,h'.sets.wf,h'.sets.qm,h'.sets.mb⟩
theorem NbI.push {v':Value} {l':List Int} {x:Nat} (h:NbI W bb R1 R2 R n q m vs ls cs wr) (hx:x<n) (hown:w'.ownsRow W.heap.size 3 1 v' l'.length (i64c l')) (hg:wr.grownBy w' (vs (2*x)).ownBlock) (hor:v'.ownBlock=(vs (2*x)).ownBlock∨v'.ownBlock=some wr.heap.size) :
  NbI W bb R1 R2 R n q m (upd vs (2*x) v') (upd ls (2*x) l') cs (w'.setCell ⟨R1,x,none⟩ v')∧w'.frozen? ⟨R1,x,none⟩=false∧∃ y,w'.cell? ⟨R1,x,none⟩=some y:=by
 have l1:=h.l1
 have hz:=h.below.size
 have ho:=h.fam.own (2*x) (by omega)
 have kb:∀ {g:Nat} {t:TypeId} {c:Array Value},Blk wr g t c→3≠t→Blk w' g t c:=fun hb ht=>blk_grown hb ho hg ht
 have b1:=kb h.r1 (by decide)
 have hf:=h.fam.push (i:=2*x) (by omega) hown hg hor
 refine ⟨⟨(kb h.gr (by decide)).far (p:=⟨R1,x,none⟩) (by show W.heap.size≠R1;omega) _,?_,?_,?_,h.ne,?_,?_,(h.below.grown hg hz fun g he=>(own_block_le ho he).1).setCell (p:=⟨R1,x,none⟩) (by show W.heap.size≤R1;omega) _,h.l1,h.l2,h.l3,h.l4⟩,b1.frozen x,⟨_,(b1.cell x).trans (rowA_at _ hx)⟩⟩
 ·exact (kb h.box (by decide)).far (p:=⟨R1,x,none⟩) (Blk.ne_ h.box h.r1 (by decide)) _
 ·have h1:=b1.set_ x v'
  rw [rowA_set] at h1
  rw [rowA_congr (g:=upd (fun i=>vs (2*i)) x v') fun i hi=>by
   unfold upd
   by_cases e:i=x
   ·subst e
    rw [if_pos rfl,if_pos rfl]
   ·rw [if_neg e,if_neg (by omega)]]
  exact h1
 ·rw [rowA_congr (g:=fun i=>vs (2*i+1)) fun i hi=>upd_ne (by omega)]
  exact (kb h.r2 (by decide)).far (p:=⟨R1,x,none⟩) h.ne.symm _
 ·exact hf.far b1 (by decide) x v'
 ·exact ⟨(kb h.sets.row (by decide)).far (p:=⟨R1,x,none⟩) (Blk.ne_ h.sets.row h.r1 (by decide)) _,fun i hi=>(kb (h.sets.box i hi) (by decide)).far (p:=⟨R1,x,none⟩) (Blk.ne_ (h.sets.box i hi) h.r1 (by decide)) _,fun i hi=>(kb (h.sets.words i hi) (by decide)).far (p:=⟨R1,x,none⟩) (Blk.ne_ (h.sets.words i hi) h.r1 (by decide)) _,h.sets.wf,h.sets.qm,h.sets.mb⟩
end
theorem grown_of_drew {a b:World} {row:Option Nat} (h:a.drew.grownBy b row):a.grownBy b row:=⟨h.os,h.tape,h.output,h.size,h.block⟩
theorem NbI.push1 {W wr w':World} {bb R1 R2 R n q m:Nat} {vs:Nat→Value} {ls:Nat→List Int} {cs:Array Value} {o:Obj} {v':Value} {x:Nat} {k:Int} (h:NbI W bb R1 R2 R n q m vs ls cs wr) (hx:x<n)
  (hown:w'.ownsRow W.heap.size 3 1 v' ((ls (2*x)).length+1) (i64c (ls (2*x)) ++ [.int .i64 k])) (hg:(wr.alloc o).grownBy w' (vs (2*x)).ownBlock) (hor:v'.ownBlock=(vs (2*x)).ownBlock∨v'.ownBlock=some (wr.alloc o).drew.heap.size) :
  ∃ A' c',v'=.slice A' ((ls (2*x)).length+1) c'∧w'.cell? ⟨bb,0,none⟩=some (.slice (some ⟨R1,0,none⟩) n n)∧w'.frozen? ⟨R1,x,none⟩=false∧(∃ y,w'.cell? ⟨R1,x,none⟩=some y)∧Hid (NbI W bb R1 R2 R n q m (upd vs (2*x) v') (upd ls (2*x) (ls (2*x) ++ [k])) cs (w'.setCell ⟨R1,x,none⟩ v')):=by
 obtain ⟨A',c',rfl⟩:=own_slice hown
 obtain ⟨h1,h2,h3⟩:=(h.alloc o).push (w':=w') (l':=ls (2*x) ++ [k]) hx (by simpa [i64c] using hown) hg hor
 exact ⟨A',c',rfl,(blk_grown (h.alloc o).box ((h.alloc o).fam.own (2*x) (by omega)) hg (by decide)).cell 0,h2,h3,Lib.hid h1⟩
theorem nextIn_at {ns:List Nd} (hv:NextIn ns) {k:Nat} {nd:Nd} (h:ns[k]?=some nd):∀ x ∈ nextsOf nd,0≤x∧x<ns.length:=hv nd (List.mem_of_getElem? h)
theorem newBack_any (B:Nat) (po ko io no:Option Addr) (nP pc nK kc nI ic n nc q:Nat) (cells keep entry:Int) (res:Bool) (rn:List RN) (w:World) (hN:RdNs w B no n rn) (hB:B≤w.heap.size) (hn:n≤4096) (hK:nK≤1024) (hq:q=(nK+63) / 64) (hv:NextIn (nds rn)) :
  Calls Tryd.prog 39 #[.agg #[.slice po nP pc,.slice ko nK kc,.int .i64 cells,.slice io nI ic,.bool res,.int .i64 keep,.slice no n nc,.int .i64 entry]] w fun e w' =>
   ∃ bb R1 R2 R vs ls,e=.returned (.pointer (some ⟨bb,0,none⟩))∧NbI w bb R1 R2 R n q nK vs ls #[.slice po nP pc,.slice ko nK kc,.int .i64 cells,.slice io nI ic,.bool res,.int .i64 keep,.slice no n nc,.int .i64 entry] w'∧(∀ i,i<n→ls (2*i)=(befK n (nds rn) n).getD i [])∧(∀ i x,(nds rn)[i]?=some x→ls (2*i+1)=writesOf x):=by
 have hmk:∀ W:World,(Instr.makeSlice 30 (.int .i64 n) (.int .i64 n)).run Tryd.prog W=.ok (.slice (some ⟨W.heap.size,0,none⟩) n n) (W.alloc (.cells (madeCells #[.slice none 0 0] n) 34)):=fun W=>run_make_row' _ _ _ 24 Tryd.underlying30 info_sint rfl .i64 .i64 n (by omega) (by omega) W
 have HN:=Lib.hid (fun W=>newSets_any po ko io no nP pc nK kc nI ic n nc q cells keep entry res W hn hK hq)
 have HRN:=Lib.hid hN
 have HV:=Lib.hid hv
 have HLN:Hid ((nds rn).length=n):=Lib.hid (by rw [length_nds];exact hN.len)
 obtain ⟨cs,hcs⟩:∃ cs:Array Value,cs=#[.slice po nP pc,.slice ko nK kc,.int .i64 cells,.slice io nI ic,.bool res,.int .i64 keep,.slice no n nc,.int .i64 entry]:=⟨_,rfl⟩
 have HCS:=Lib.hid hcs
 have HQ:=Lib.hid hq
 clear hcs hq hN hv
 go_enter Tryd.func39,Tryd.ntmps39
 go_upto_region 2 with fail
 go_cut [4] (fun s4 wx=>∃ bb R1 R2 R,s4=.pointer (some ⟨bb,0,none⟩)∧Hid (NbI w bb R1 R2 R n q nK (fun _=>.slice none 0 0) (fun _=>[]) cs wx))
 case first =>
  go_region_law (go_simp;go_at_call 57;refine (HN.out _).mono ?_;rintro e w2 ⟨rfl,hs2,hb2,hz2⟩)
  all_goals
   go_wp2_with fail
   go_meet
   rw [HCS.out]
   simp at hz2
   first
    | exact ⟨_,_,_,_,rfl,Lib.hid ((Two.A hs2 hb2).mk0 (by simp [hz2]))⟩
    | exact ⟨_,_,_,_,rfl,Lib.hid ((Two.A hs2 hb2).swap.mk0 (by simp [hz2]))⟩
    | exact ⟨_,_,_,_,rfl,Lib.hid ((Two.B hs2 hb2 hz2).mk0 (by simp [hz2]))⟩
    | exact ⟨_,_,_,_,rfl,Lib.hid ((Two.B hs2 hb2 hz2).swap.mk0 (by simp [hz2]))⟩
    | exact ⟨_,_,_,_,rfl,Lib.hid ((Two.C hs2 hb2 hz2 rfl).mk0 (by simp [hz2]))⟩
    | exact ⟨_,_,_,_,rfl,Lib.hid ((Two.C hs2 hb2 hz2 rfl).swap.mk0 (by simp [hz2]))⟩
 case rest =>
  obtain ⟨bb,R1,R2,R,rfl,HI0⟩:=hcut
  have g6:wc.cell? ⟨w.heap.size,6,none⟩=some (.slice no n nc):=by
   have h:=HI0.out.gr.cell 6
   rw [HCS.out] at h
   exact h
  clear hmk
  go_wp2
  clear g6
  go_loopw [23] (fun i wr=>∃ (k:Nat) (vs:Nat→Value) (ls:Nat→List Int),k≤n∧i=.int .i64 k∧Hid (NbI w bb R1 R2 R n q nK vs ls cs wr)∧Hid (∀ i,i<n→ls (2*i)=(befK n (nds rn) k).getD i [])∧Hid (∀ i x,i<k→(nds rn)[i]?=some x→ls (2*i+1)=writesOf x)) (fun i _=>n-(intOf i).toNat)
  case atStart =>
   refine ⟨0,_,_,by omega,rfl,HI0,Lib.hid (fun i hi=>?_),Lib.hid (fun i x hi=>absurd hi (by omega))⟩
   rw [befK,List.getD_eq_getElem?_getD,List.getElem?_replicate,if_pos hi]
   rfl
  case round =>
   clear HI0
   obtain ⟨k,vs,ls,hk,rfl,HI,HLB,HLW⟩:=hrel
   have hz:=HI.out.below.size
   by_cases hlt:k<n
   ·obtain ⟨bn,on,i,hno,hbn,HXI,HRI,HWI,u0,u1,u2,u3,u4,u5,u6,u7,u8,u9,u10,u11⟩:=(HRN.out.below (HI.out.below.mono hB)).nd hlt
    have HXN:Hid ((nds rn)[k]?=some i.nd):=Lib.hid (by unfold nds;rw [List.getElem?_map,HXI.out];rfl)
    have hbnr:bn<wr.heap.size:=by omega
    have hb6:Below wr.heap.size wr (wr.alloc (.cells #[.int .u8 i.nd.op,.int .u8 i.nd.bop,.int .i64 i.nd.d,.int .i64 i.nd.e,.int .i64 i.nd.a,.int .i64 i.nd.b,.int .i64 i.nd.f,.int .i64 i.nd.cell,.int .u64 i.nd.imm,.slice i.ao i.nd.args.length i.ac,.int .i64 i.nd.next,.int .i64 i.nd.els] 60)):=(Below.refl _ _).alloc (Nat.le_refl _) _
    have hp6:Blk (wr.alloc (.cells #[.int .u8 i.nd.op,.int .u8 i.nd.bop,.int .i64 i.nd.d,.int .i64 i.nd.e,.int .i64 i.nd.a,.int .i64 i.nd.b,.int .i64 i.nd.f,.int .i64 i.nd.cell,.int .u64 i.nd.imm,.slice i.ao i.nd.args.length i.ac,.int .i64 i.nd.next,.int .i64 i.nd.els] 60)) wr.heap.size 60 #[.int .u8 i.nd.op,.int .u8 i.nd.bop,.int .i64 i.nd.d,.int .i64 i.nd.e,.int .i64 i.nd.a,.int .i64 i.nd.b,.int .i64 i.nd.f,.int .i64 i.nd.cell,.int .u64 i.nd.imm,.slice i.ao i.nd.args.length i.ac,.int .i64 i.nd.next,.int .i64 i.nd.els]:=Blk.new _ _ _
    rw [hno]
    have HNO:=Lib.hid hno
    clear hno
    go_upto_region 6 with fail
    obtain ⟨p6,hp6n⟩:∃ p,p=wr.heap.size:=⟨_,rfl⟩
    obtain ⟨W6,hW6⟩:∃ W,W=(wr.alloc (.cells #[.int .u8 i.nd.op,.int .u8 i.nd.bop,.int .i64 i.nd.d,.int .i64 i.nd.e,.int .i64 i.nd.a,.int .i64 i.nd.b,.int .i64 i.nd.f,.int .i64 i.nd.cell,.int .u64 i.nd.imm,.slice i.ao i.nd.args.length i.ac,.int .i64 i.nd.next,.int .i64 i.nd.els] 60)):=⟨_,rfl⟩
    rw [← hW6] at hb6 hp6 ⊢
    rw [← hp6n] at hp6 ⊢
    have HI6:=Lib.hid (HI.out.on hb6)
    have HP6:=Lib.hid hp6
    have HRI6:=Lib.hid (HRI.out.below (hb6.mono (by omega)))
    have hB6:B≤W6.heap.size:=by have:=hb6.size;omega
    clear hW6 hp6n hb6 hp6 u0 u1 u2 u3 u4 u5 u6 u7 u8 u9 u10 u11 HI hbnr
    go_cut [] (fun wx=>∃ (vs:Nat→Value) (ls:Nat→List Int),Hid (NbI w bb R1 R2 R n q nK vs ls cs wx)∧Hid (∀ i,i<n→ls (2*i)=(befK n (nds rn) k).getD i [])∧Hid (∀ i x,i<k+1→(nds rn)[i]?=some x→ls (2*i+1)=writesOf x)∧Hid (Blk wx p6 60 #[.int .u8 i.nd.op,.int .u8 i.nd.bop,.int .i64 i.nd.d,.int .i64 i.nd.e,.int .i64 i.nd.a,.int .i64 i.nd.b,.int .i64 i.nd.f,.int .i64 i.nd.cell,.int .u64 i.nd.imm,.slice i.ao i.nd.args.length i.ac,.int .i64 i.nd.next,.int .i64 i.nd.els]))
    case first =>
     have v0:W6.cell? ⟨p6,0,none⟩=some (.int .u8 i.nd.op):=HP6.out.cell 0
     have v1:W6.cell? ⟨p6,1,none⟩=some (.int .u8 i.nd.bop):=HP6.out.cell 1
     have v2:W6.cell? ⟨p6,2,none⟩=some (.int .i64 i.nd.d):=HP6.out.cell 2
     have v3:W6.cell? ⟨p6,3,none⟩=some (.int .i64 i.nd.e):=HP6.out.cell 3
     have v4:W6.cell? ⟨p6,4,none⟩=some (.int .i64 i.nd.a):=HP6.out.cell 4
     have v5:W6.cell? ⟨p6,5,none⟩=some (.int .i64 i.nd.b):=HP6.out.cell 5
     have v6:W6.cell? ⟨p6,6,none⟩=some (.int .i64 i.nd.f):=HP6.out.cell 6
     have v7:W6.cell? ⟨p6,7,none⟩=some (.int .i64 i.nd.cell):=HP6.out.cell 7
     have v8:W6.cell? ⟨p6,8,none⟩=some (.int .u64 i.nd.imm):=HP6.out.cell 8
     have v9:W6.cell? ⟨p6,9,none⟩=some (.slice i.ao i.nd.args.length i.ac):=HP6.out.cell 9
     have v10:W6.cell? ⟨p6,10,none⟩=some (.int .i64 i.nd.next):=HP6.out.cell 10
     have v11:W6.cell? ⟨p6,11,none⟩=some (.int .i64 i.nd.els):=HP6.out.cell 11
     have b1:W6.cell? ⟨bb,1,none⟩=some (.slice (some ⟨R2,0,none⟩) n n):=HI6.out.box.cell 1
     have HWR:=Lib.hid (writes_own B i.nd.op i.nd.bop i.nd.d i.nd.e i.nd.a i.nd.b i.nd.f i.nd.cell i.nd.imm i.nd.args i.nd.next i.nd.els i.ao i.nd.args.length i.ac W6.drew HWI.out.o0 HWI.out.o1 HWI.out.d HWI.out.e HWI.out.a HWI.out.b HWI.out.next HWI.out.els HRI6.out.args rfl HWI.out.args HWI.out.al HRI6.out.cap hB6)
     go_region_law (go_simp;go_at_call 64;refine HWR.out.mono ?_;rintro e w4 ⟨A4,c4,rfl,ho4,hc4,hb4⟩;have HO4:=Lib.hid ho4;have HB4:=Lib.hid hb4;have HI4:=Lib.hid (HI6.out.drew.on hb4);have b1':w4.cell? ⟨bb,1,none⟩=some (.slice (some ⟨R2,0,none⟩) n n):=HI4.out.box.cell 1;have f2:w4.frozen? ⟨R2,k,none⟩=false:=HI4.out.r2.frozen k;obtain ⟨y2,hy2⟩:∃ y,w4.cell? ⟨R2,k,none⟩=some y:=⟨_,(HI4.out.r2.cell k).trans (rowA_at _ hlt)⟩;clear ho4 hc4 hb4)
     all_goals
      go_wp2_with fail
      go_meet
      have HP4:Blk w4 p6 60 _:=HP6.out.drew.below HB4.out HP6.out.lt
      refine ⟨_,_,Lib.hid (HI6.out.drew.put hlt HB4.out HO4.out (Nat.le_refl _)),Lib.hid (fun i hi=>by rw [upd_ne (by omega)];exact HLB.out i hi),Lib.hid (fun i' x hi hx=>?_),Lib.hid (HP4.far (p:=⟨R2,k,none⟩) (Blk.ne_ HP4 HI4.out.r2 (by decide)) _)⟩
      by_cases e:i'=k
      ·subst e
       rw [upd_at]
       rw [HXN.out] at hx
       injection hx with hx
       subst hx
       rfl
      ·rw [upd_ne (by omega)]
       exact HLW.out i' x (by omega) hx
    case rest =>
     obtain ⟨vs2,ls2,HI7,HLB7,HLW7,HP7⟩:=hcut
     clear HI6 HP6 HRI6 hB6 HLB HLW hz
     have v0:wc.cell? ⟨p6,0,none⟩=some (.int .u8 i.nd.op):=HP7.out.cell 0
     have v1:wc.cell? ⟨p6,1,none⟩=some (.int .u8 i.nd.bop):=HP7.out.cell 1
     have v2:wc.cell? ⟨p6,2,none⟩=some (.int .i64 i.nd.d):=HP7.out.cell 2
     have v3:wc.cell? ⟨p6,3,none⟩=some (.int .i64 i.nd.e):=HP7.out.cell 3
     have v4:wc.cell? ⟨p6,4,none⟩=some (.int .i64 i.nd.a):=HP7.out.cell 4
     have v5:wc.cell? ⟨p6,5,none⟩=some (.int .i64 i.nd.b):=HP7.out.cell 5
     have v6:wc.cell? ⟨p6,6,none⟩=some (.int .i64 i.nd.f):=HP7.out.cell 6
     have v7:wc.cell? ⟨p6,7,none⟩=some (.int .i64 i.nd.cell):=HP7.out.cell 7
     have v8:wc.cell? ⟨p6,8,none⟩=some (.int .u64 i.nd.imm):=HP7.out.cell 8
     have v9:wc.cell? ⟨p6,9,none⟩=some (.slice i.ao i.nd.args.length i.ac):=HP7.out.cell 9
     have v10:wc.cell? ⟨p6,10,none⟩=some (.int .i64 i.nd.next):=HP7.out.cell 10
     have v11:wc.cell? ⟨p6,11,none⟩=some (.int .i64 i.nd.els):=HP7.out.cell 11
     have HNX:=Lib.hid (gnext_own i.nd.op i.nd.bop i.nd.d i.nd.e i.nd.a i.nd.b i.nd.f i.nd.cell i.nd.imm i.nd.args i.nd.next i.nd.els i.ao i.nd.args.length i.ac wc HWI.out.o0 HWI.out.o1)
     obtain ⟨xs,hxs⟩:∃ xs,xs=nextsOf ⟨i.nd.op,i.nd.bop,i.nd.d,i.nd.e,i.nd.a,i.nd.b,i.nd.f,i.nd.cell,i.nd.imm,i.nd.args,i.nd.next,i.nd.els⟩:=⟨_,rfl⟩
     rw [← hxs] at HNX
     have HXS:Hid (xs=nextsOf i.nd):=Lib.hid hxs
     have HXI2:Hid (∀ x ∈ xs,0≤x∧x<(n:Int)):=Lib.hid (by
      rw [HXS.out,← HLN.out]
      exact nextIn_at HV.out HXN.out)
     have HBK:Hid (befN (befK n (nds rn) k) k xs=befK n (nds rn) (k+1)):=Lib.hid (by rw [befK,HXN.out,HXS.out])
     have hm2:xs.length≤2:=by rw [HXS.out];exact nexts_len _
     have HEL:=Lib.hid (fun a=>befK_el n (nds rn) a k)
     clear hxs
     go_wp2_with (go_at_call 58;refine HNX.out.mono ?_;rintro e w5 ⟨A5,c5,rfl,ho5,hc5,hb5⟩;have HO5:=Lib.hid ho5;have HI5:=Lib.hid (HI7.out.on hb5);have hz5:=hb5.size;clear ho5 hb5)
     clear v0 v1 v2 v3 v4 v5 v6 v7 v8 v9 v10 v11
     obtain ⟨m,hm⟩:∃ m,m=xs.length:=⟨_,rfl⟩
     rw [← hm] at HO5 hm2 hc5 ⊢
     have HM:=Lib.hid hm
     have hbz:w.heap.size≤wc.heap.size:=HI7.out.below.size
     obtain ⟨b5,hb5⟩:∃ b,b=wc.heap.size:=⟨_,rfl⟩
     rw [← hb5] at HO5 hbz
     have HD5:Hid (∀ x,x<2*n→∀ g,(vs2 x).ownBlock=some g→g<b5):=Lib.hid fun x hx g hg=>by rw [hb5];exact (own_block_le (HI7.out.fam.own x hx) hg).2
     clear hm hb5 HI7 HP7 HNX hz5
     go_loopw [39] (fun i wr=>∃ (j:Nat) (vs:Nat→Value) (ls:Nat→List Int),j≤m∧i=.int .i64 j∧Hid (NbI w bb R1 R2 R n q nK vs ls cs wr)∧Hid (wr.ownsRow b5 3 1 (.slice A5 m c5) m (i64c xs))∧Hid (∀ x,x<2*n→∀ g,(vs x).ownBlock=some g→(Value.slice A5 m c5).ownBlock≠some g)∧Hid (∀ i,i<n→ls (2*i)=(befN (befK n (nds rn) k) k (xs.take j)).getD i [])∧Hid (∀ i x,i<k+1→(nds rn)[i]?=some x→ls (2*i+1)=writesOf x)) (fun i _=>m-(intOf i).toNat)
     case atStart=>exact ⟨0,vs2,ls2,by omega,rfl,HI5,HO5,Lib.hid (fun x hx g hg he=>by have h1:=(own_block_le HO5.out he).1;have h2:=HD5.out x hx g hg;omega),Lib.hid (by simpa [befN] using HLB7.out),HLW7⟩
     case round =>
      clear HI5 HO5 HLB7 HLW7 HD5
      obtain ⟨j,vs,ls,hj,rfl,HI,HO,HDD,HLB,HLW⟩:=hrel
      by_cases hjl:j<m
      ·obtain ⟨bx,ox,x,hxe,hbx,HXX,x1⟩:=(Reads.of_own HO.out).int hjl
       obtain ⟨hx0,hx1⟩:=HXI2.out x (List.mem_of_getElem? HXX.out)
       obtain ⟨y,rfl⟩:∃ y:Nat,x=(y:Int):=⟨x.toNat,by omega⟩
       have hy:y<n:=by omega
       obtain ⟨Ay,cy,hsy⟩:=HI.out.fam.slice (i:=2*y) (by omega)
       have HOY:=Lib.hid (own_alloc (HI.out.fam.own (2*y) (by omega)) (.cells #[.int .i64 k] 3))
       have r0:wr.cell? ⟨R1,y,none⟩=some (.slice Ay (ls (2*y)).length cy):=by rw [HI.out.r1.cell,rowA_at _ hy,hsy]
       have r0':∀ o,(wr.alloc o).cell? ⟨R1,y,none⟩=some (.slice Ay (ls (2*y)).length cy):=fun o=>by rw [(HI.out.r1.alloc o).cell,rowA_at _ hy,hsy]
       have b0:wr.cell? ⟨bb,0,none⟩=some (.slice (some ⟨R1,0,none⟩) n n):=HI.out.box.cell 0
       have b0':∀ o,(wr.alloc o).cell? ⟨bb,0,none⟩=some (.slice (some ⟨R1,0,none⟩) n n):=fun o=>(HI.out.box.alloc o).cell 0
       have hly:(ls (2*y)).length≤2*k+2:=by
        rw [HLB.out y hy]
        have h1:=befN_el (k:Int) y (xs.take j) (befK n (nds rn) k)
        have h2:=HEL.out y
        have h3:(xs.take j).length≤2:=by rw [List.length_take];omega
        omega
       have hwz:=HI.out.below.size
       have HRd:=Lib.hid (one_reads wr 3 [.int .i64 k] 1 rfl)
       have HTK:Hid (xs.take (j+1)=xs.take j ++ [(y:Int)]):=Lib.hid (take_at HXX.out)
       rw [hsy] at HOY
       have HSY:=Lib.hid hsy
       have HXE:=Lib.hid hxe
       rw [hxe]
       clear hsy hxe hx0 hx1 HXX
       go_upto_region 10 with fail
       go_region_law (refine step_int rfl _ _ rfl w.heap.size (.slice Ay (ls (2*y)).length cy) (ls (2*y)).length (i64c (ls (2*y))) rfl HOY.out (wr.heap.size+1) (some ⟨wr.heap.size,0,none⟩) 1 1 [.int .i64 k] rfl HRd.out (ints_oneCell .i64 [(k:Int)]) (by omega) (by simp;omega) ?_;intro v' w8 hown hgr hor;rw [← HSY.out] at hgr hor;obtain ⟨A8,c8,rfl,z0,zf,⟨z1,hz1⟩,HN8⟩:=HI.out.push1 hy hown (grown_of_drew hgr) hor;have HG8:=Lib.hid (grown_of_drew hgr);have HR8:=Lib.hid hor;clear hown hgr hor)
       all_goals
        clear x1 r0 r0' b0 b0'
        have HOW:Hid (w8.ownsRow b5 3 1 (.slice A5 m c5) m (i64c xs)):=Lib.hid (own_kept (own_alloc HO.out _) fun g hg=>HG8.out.block g (own_block_le (own_alloc HO.out _) hg).2 fun e=>HDD.out (2*y) (by omega) g e.symm hg)
        go_wp2
        go_roundw
        case rel =>
         rw [← HXE.out]
         refine ⟨j+1,_,_,by omega,by go_num,HN8,Lib.hid (own_kept HOW.out fun g hg=>Below.heap_setCell _ _ _ _ fun e=>own_blk_ne HO.out HI.out.r1 (by decide) (by rw [hg,e])),Lib.hid (fun x hx g hg he=>?_),Lib.hid (fun i' hi'=>?_),Lib.hid (fun i' x hi' hx=>by rw [upd_ne (by omega)];exact HLW.out i' x hi' hx)⟩
         ·by_cases e:x=2*y
          ·subst e
           rw [upd_at] at hg
           rcases HR8.out with h | h
           ·exact HDD.out _ hx g (by rw [← h];exact hg) he
           ·have h2:=(own_block_le HO.out he).2
            rw [h] at hg
            injection hg with hg
            simp at hg
            omega
          ·rw [upd_ne e] at hg
           exact HDD.out x hx g hg he
         ·rw [HTK.out,befN_snoc]
          unfold addE
          rw [Int.toNat_natCast,List.getD_eq_getElem?_getD,List.getElem?_set]
          by_cases e:y=i'
          ·subst e
           rw [if_pos rfl,if_pos (by rw [befN_len,befK_len];exact hi'),Option.getD_some,upd_at,HLB.out y hi']
          ·rw [if_neg e,upd_ne (by omega),HLB.out i' hi',List.getD_eq_getElem?_getD]
        case measure=>simp [intOf];omega
      ·obtain rfl:m=j:=by omega
       have HLB2:Hid (∀ i,i<n→ls (2*i)=(befK n (nds rn) (k+1)).getD i []):=Lib.hid (by
        have h:=HLB.out
        rw [List.take_of_length_le (by rw [HM.out];exact Nat.le_refl _),HBK.out] at h
        exact h)
       go_wp2
       go_roundw
       case rel=>exact ⟨k+1,vs,ls,by omega,by go_num,HI,HLB2,HLW⟩
       case measure=>simp [intOf];omega
   ·obtain rfl:n=k:=by omega
    go_wp2
    go_ret
    rw [← HCS.out]
    refine ⟨bb,R1,R2,R,vs,ls,rfl,HI.out,HLB.out,fun i x hx=>HLW.out i x ?_ hx⟩
    have:=(List.getElem?_eq_some_iff.1 hx).1
    rw [HLN.out] at this
    exact this
end Go.Proofs.YtepkogfiojkcpaaDoor
