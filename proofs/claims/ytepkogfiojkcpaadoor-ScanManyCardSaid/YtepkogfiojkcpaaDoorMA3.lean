/-
  Texts of one seat, one behind the other: Rw, LMem, JSort.
-/
import Derived.Test.YtepkogfiojkcpaaDoorMA2
import Derived.Test.YtepkogfiojkcpaaDoorMA1

set_option linter.unusedVariables false
set_option linter.unusedSimpArgs false
set_option maxRecDepth 100000
set_option maxHeartbeats 51200000
namespace Go.Proofs.YtepkogfiojkcpaaDoor
open Go.ChangeShapes Go.WideShapes Go.ChangeAt Go.RowKit
theorem lit_reads (w:World) (t:TypeId) (cs:List Value) (n:Nat) (hs:cs.length=n):Reads (w.alloc (.cells cs.toArray t)) (w.heap.size+1) 1 (some ⟨w.heap.size,0,none⟩) n cs :=
 ⟨by omega,fun _=>⟨_,rfl,by simp,fun j u hj=>by
  have ea:(⟨w.heap.size,0,none⟩:Addr).add j=⟨w.heap.size,j,none⟩:=by simp [Addr.add];exact Eq.symm
  rw [ea,(Blk.new w t _).cell]
  simpa using hj⟩⟩
theorem NewI.mk' {w w' w1:World} {l l':List Int} {A:Option Addr} {n c:Nat} (hl:l=l') (hn:l.length=n) (hr:Reads w' w'.heap.size 1 A n (i64c l)) (hc:n≤c) (hb:Below w1.heap.size w1 w') (hw:Below w.heap.size w w1):NewI w l' (.returned (.slice A n c)) w':=by
 subst hl
 subst hn
 exact ⟨A,c,rfl,hr,hc,hw.trans (hb.mono hw.size)⟩
theorem op_cases {op:Int} (h0:0≤op) (h:op≤255):op=1∨op=2∨op=3∨op=4∨op=5∨op=6∨op=7∨op=8∨op=9∨op=10∨op=11∨op=12∨op=13∨op=14∨op=15∨op=16∨op=17∨op=18∨(op<1∨18<op):=by omega
theorem reads_any (B:Nat) (op bop d e a b f cell imm:Int) (args:List Int) (nx el:Int) (ao:Option Addr) (nA ac:Nat) (w:World) (ho0:0≤op) (ho1:op≤255) (hd:I64 d) (he:I64 e) (ha:I64 a) (hb:I64 b) (hn:I64 nx) (hel:I64 el) (hr:Reads w B 1 ao nA (i64c args)) (hl:args.length=nA) (hargs:∀ x ∈ args,I64 x) (hnA:nA*8≤140737488351232) (hnc:nA≤ac) (hB:B≤w.heap.size) :
  Calls Tryd.prog 40 #[.agg #[.int .u8 op,.int .u8 bop,.int .i64 d,.int .i64 e,.int .i64 a,.int .i64 b,.int .i64 f,.int .i64 cell,.int .u64 imm,.slice ao nA ac,.int .i64 nx,.int .i64 el]] w (NewI w (readsOf ⟨op,bop,d,e,a,b,f,cell,imm,args,nx,el⟩)):=by
 have H:=Lib.hid hr
 have HL:=Lib.hid hl
 have HA:=Lib.hid hargs
 have HW1:Hid (Below w.heap.size w (w.alloc (.cells #[.int .u8 op,.int .u8 bop,.int .i64 d,.int .i64 e,.int .i64 a,.int .i64 b,.int .i64 f,.int .i64 cell,.int .u64 imm,.slice ao nA ac,.int .i64 nx,.int .i64 el] 60))):=(Below.refl _ _).alloc (Nat.le_refl _) _
 have HH:Hid (Reads (w.alloc (.cells #[.int .u8 op,.int .u8 bop,.int .i64 d,.int .i64 e,.int .i64 a,.int .i64 b,.int .i64 f,.int .i64 cell,.int .u64 imm,.slice ao nA ac,.int .i64 nx,.int .i64 el] 60)) B 1 ao nA (i64c args)):=Lib.hid (hr.below (HW1.out.mono hB))
 have hB1:B≤(w.alloc (.cells #[.int .u8 op,.int .u8 bop,.int .i64 d,.int .i64 e,.int .i64 a,.int .i64 b,.int .i64 f,.int .i64 cell,.int .u64 imm,.slice ao nA ac,.int .i64 nx,.int .i64 el] 60)).heap.size:=by simp;omega
 have hz1:(w.alloc (.cells #[.int .u8 op,.int .u8 bop,.int .i64 d,.int .i64 e,.int .i64 a,.int .i64 b,.int .i64 f,.int .i64 cell,.int .u64 imm,.slice ao nA ac,.int .i64 nx,.int .i64 el] 60)).heap.size=w.heap.size+1:=by simp
 clear hr hl hargs
 rcases op_cases ho0 ho1 with rfl | rfl | rfl | rfl | rfl | rfl | rfl | rfl | rfl | rfl | rfl | rfl | rfl | rfl | rfl | rfl | rfl | rfl | hop
 ·go_enter Tryd.func40,Tryd.ntmps40
  go_wp2
  go_ret
  exact NewI.mk' (l:=[]) rfl rfl Reads.none_ (Nat.le_refl _) (Below.refl _ _) HW1.out
 ·have HLR:=Lib.hid (lit_reads (w.alloc (.cells #[.int .u8 2,.int .u8 bop,.int .i64 d,.int .i64 e,.int .i64 a,.int .i64 b,.int .i64 f,.int .i64 cell,.int .u64 imm,.slice ao nA ac,.int .i64 nx,.int .i64 el] 60)) 3 (i64c [a]) 1 rfl)
  have HWF:Hid (∀ x ∈ [a],I64 x):=Lib.hid (by intro x hx;simp at hx;subst hx;assumption)
  have HW2:Hid (Below w.heap.size w ((w.alloc (.cells #[.int .u8 2,.int .u8 bop,.int .i64 d,.int .i64 e,.int .i64 a,.int .i64 b,.int .i64 f,.int .i64 cell,.int .u64 imm,.slice ao nA ac,.int .i64 nx,.int .i64 el] 60)).alloc (.cells #[.int .i64 a] 3))):=HW1.out.alloc (by simp) _
  have hs2:w.heap.size+1+1≤((w.alloc (.cells #[.int .u8 2,.int .u8 bop,.int .i64 d,.int .i64 e,.int .i64 a,.int .i64 b,.int .i64 f,.int .i64 cell,.int .u64 imm,.slice ao nA ac,.int .i64 nx,.int .i64 el] 60)).alloc (.cells #[.int .i64 a] 3)).heap.size:=by simp
  rw [hz1] at HLR
  go_enter Tryd.func40,Tryd.ntmps40
  go_wp2_with (first | (go_at_call 65;refine (placesOf_any (w.heap.size+1+1) _ 1 _ [a] _ HLR.out rfl HWF.out hs2 (by omega)).mono ?_;rintro ee w2 ⟨A2,c2,rfl,hr2,hc2,hb2⟩;have HR2:=Lib.hid hr2;have HB2:=Lib.hid hb2;clear hr2 hb2))
  go_ret
  exact NewI.mk' rfl rfl HR2.out hc2 HB2.out HW2.out
 ·have HLR:=Lib.hid (lit_reads (w.alloc (.cells #[.int .u8 3,.int .u8 bop,.int .i64 d,.int .i64 e,.int .i64 a,.int .i64 b,.int .i64 f,.int .i64 cell,.int .u64 imm,.slice ao nA ac,.int .i64 nx,.int .i64 el] 60)) 3 (i64c [a,b]) 2 rfl)
  have HWF:Hid (∀ x ∈ [a,b],I64 x):=Lib.hid (by intro x hx;simp at hx;rcases hx with rfl | rfl <;> assumption)
  have HW2:Hid (Below w.heap.size w ((w.alloc (.cells #[.int .u8 3,.int .u8 bop,.int .i64 d,.int .i64 e,.int .i64 a,.int .i64 b,.int .i64 f,.int .i64 cell,.int .u64 imm,.slice ao nA ac,.int .i64 nx,.int .i64 el] 60)).alloc (.cells #[.int .i64 a,.int .i64 b] 3))):=HW1.out.alloc (by simp) _
  have hs2:w.heap.size+1+1≤((w.alloc (.cells #[.int .u8 3,.int .u8 bop,.int .i64 d,.int .i64 e,.int .i64 a,.int .i64 b,.int .i64 f,.int .i64 cell,.int .u64 imm,.slice ao nA ac,.int .i64 nx,.int .i64 el] 60)).alloc (.cells #[.int .i64 a,.int .i64 b] 3)).heap.size:=by simp
  rw [hz1] at HLR
  go_enter Tryd.func40,Tryd.ntmps40
  go_wp2_with (first | (go_at_call 65;refine (placesOf_any (w.heap.size+1+1) _ 2 _ [a,b] _ HLR.out rfl HWF.out hs2 (by omega)).mono ?_;rintro ee w2 ⟨A2,c2,rfl,hr2,hc2,hb2⟩;have HR2:=Lib.hid hr2;have HB2:=Lib.hid hb2;clear hr2 hb2))
  go_ret
  exact NewI.mk' rfl rfl HR2.out hc2 HB2.out HW2.out
 ·go_enter Tryd.func40,Tryd.ntmps40
  go_wp2
  go_ret
  exact NewI.mk' (l:=[]) rfl rfl Reads.none_ (Nat.le_refl _) (Below.refl _ _) HW1.out
 ·have HLR:=Lib.hid (lit_reads (w.alloc (.cells #[.int .u8 5,.int .u8 bop,.int .i64 d,.int .i64 e,.int .i64 a,.int .i64 b,.int .i64 f,.int .i64 cell,.int .u64 imm,.slice ao nA ac,.int .i64 nx,.int .i64 el] 60)) 3 (i64c [a]) 1 rfl)
  have HWF:Hid (∀ x ∈ [a],I64 x):=Lib.hid (by intro x hx;simp at hx;subst hx;assumption)
  have HW2:Hid (Below w.heap.size w ((w.alloc (.cells #[.int .u8 5,.int .u8 bop,.int .i64 d,.int .i64 e,.int .i64 a,.int .i64 b,.int .i64 f,.int .i64 cell,.int .u64 imm,.slice ao nA ac,.int .i64 nx,.int .i64 el] 60)).alloc (.cells #[.int .i64 a] 3))):=HW1.out.alloc (by simp) _
  have hs2:w.heap.size+1+1≤((w.alloc (.cells #[.int .u8 5,.int .u8 bop,.int .i64 d,.int .i64 e,.int .i64 a,.int .i64 b,.int .i64 f,.int .i64 cell,.int .u64 imm,.slice ao nA ac,.int .i64 nx,.int .i64 el] 60)).alloc (.cells #[.int .i64 a] 3)).heap.size:=by simp
  rw [hz1] at HLR
  go_enter Tryd.func40,Tryd.ntmps40
  go_wp2_with (first | (go_at_call 65;refine (placesOf_any (w.heap.size+1+1) _ 1 _ [a] _ HLR.out rfl HWF.out hs2 (by omega)).mono ?_;rintro ee w2 ⟨A2,c2,rfl,hr2,hc2,hb2⟩;have HR2:=Lib.hid hr2;have HB2:=Lib.hid hb2;clear hr2 hb2))
  go_ret
  exact NewI.mk' rfl rfl HR2.out hc2 HB2.out HW2.out
 ·go_enter Tryd.func40,Tryd.ntmps40
  go_wp2
  go_ret
  exact NewI.mk' (l:=[]) rfl rfl Reads.none_ (Nat.le_refl _) (Below.refl _ _) HW1.out
 ·have HLR:=Lib.hid (lit_reads (w.alloc (.cells #[.int .u8 7,.int .u8 bop,.int .i64 d,.int .i64 e,.int .i64 a,.int .i64 b,.int .i64 f,.int .i64 cell,.int .u64 imm,.slice ao nA ac,.int .i64 nx,.int .i64 el] 60)) 3 (i64c [a]) 1 rfl)
  have HWF:Hid (∀ x ∈ [a],I64 x):=Lib.hid (by intro x hx;simp at hx;subst hx;assumption)
  have HW2:Hid (Below w.heap.size w ((w.alloc (.cells #[.int .u8 7,.int .u8 bop,.int .i64 d,.int .i64 e,.int .i64 a,.int .i64 b,.int .i64 f,.int .i64 cell,.int .u64 imm,.slice ao nA ac,.int .i64 nx,.int .i64 el] 60)).alloc (.cells #[.int .i64 a] 3))):=HW1.out.alloc (by simp) _
  have hs2:w.heap.size+1+1≤((w.alloc (.cells #[.int .u8 7,.int .u8 bop,.int .i64 d,.int .i64 e,.int .i64 a,.int .i64 b,.int .i64 f,.int .i64 cell,.int .u64 imm,.slice ao nA ac,.int .i64 nx,.int .i64 el] 60)).alloc (.cells #[.int .i64 a] 3)).heap.size:=by simp
  rw [hz1] at HLR
  go_enter Tryd.func40,Tryd.ntmps40
  go_wp2_with (first | (go_at_call 65;refine (placesOf_any (w.heap.size+1+1) _ 1 _ [a] _ HLR.out rfl HWF.out hs2 (by omega)).mono ?_;rintro ee w2 ⟨A2,c2,rfl,hr2,hc2,hb2⟩;have HR2:=Lib.hid hr2;have HB2:=Lib.hid hb2;clear hr2 hb2))
  go_ret
  exact NewI.mk' rfl rfl HR2.out hc2 HB2.out HW2.out
 ·have HLR:=Lib.hid (lit_reads (w.alloc (.cells #[.int .u8 8,.int .u8 bop,.int .i64 d,.int .i64 e,.int .i64 a,.int .i64 b,.int .i64 f,.int .i64 cell,.int .u64 imm,.slice ao nA ac,.int .i64 nx,.int .i64 el] 60)) 3 (i64c [a,b]) 2 rfl)
  have HWF:Hid (∀ x ∈ [a,b],I64 x):=Lib.hid (by intro x hx;simp at hx;rcases hx with rfl | rfl <;> assumption)
  have HW2:Hid (Below w.heap.size w ((w.alloc (.cells #[.int .u8 8,.int .u8 bop,.int .i64 d,.int .i64 e,.int .i64 a,.int .i64 b,.int .i64 f,.int .i64 cell,.int .u64 imm,.slice ao nA ac,.int .i64 nx,.int .i64 el] 60)).alloc (.cells #[.int .i64 a,.int .i64 b] 3))):=HW1.out.alloc (by simp) _
  have hs2:w.heap.size+1+1≤((w.alloc (.cells #[.int .u8 8,.int .u8 bop,.int .i64 d,.int .i64 e,.int .i64 a,.int .i64 b,.int .i64 f,.int .i64 cell,.int .u64 imm,.slice ao nA ac,.int .i64 nx,.int .i64 el] 60)).alloc (.cells #[.int .i64 a,.int .i64 b] 3)).heap.size:=by simp
  rw [hz1] at HLR
  go_enter Tryd.func40,Tryd.ntmps40
  go_wp2_with (first | (go_at_call 65;refine (placesOf_any (w.heap.size+1+1) _ 2 _ [a,b] _ HLR.out rfl HWF.out hs2 (by omega)).mono ?_;rintro ee w2 ⟨A2,c2,rfl,hr2,hc2,hb2⟩;have HR2:=Lib.hid hr2;have HB2:=Lib.hid hb2;clear hr2 hb2))
  go_ret
  exact NewI.mk' rfl rfl HR2.out hc2 HB2.out HW2.out
 ·have HLR:=Lib.hid (lit_reads (w.alloc (.cells #[.int .u8 9,.int .u8 bop,.int .i64 d,.int .i64 e,.int .i64 a,.int .i64 b,.int .i64 f,.int .i64 cell,.int .u64 imm,.slice ao nA ac,.int .i64 nx,.int .i64 el] 60)) 3 (i64c [a]) 1 rfl)
  have HWF:Hid (∀ x ∈ [a],I64 x):=Lib.hid (by intro x hx;simp at hx;subst hx;assumption)
  have HW2:Hid (Below w.heap.size w ((w.alloc (.cells #[.int .u8 9,.int .u8 bop,.int .i64 d,.int .i64 e,.int .i64 a,.int .i64 b,.int .i64 f,.int .i64 cell,.int .u64 imm,.slice ao nA ac,.int .i64 nx,.int .i64 el] 60)).alloc (.cells #[.int .i64 a] 3))):=HW1.out.alloc (by simp) _
  have hs2:w.heap.size+1+1≤((w.alloc (.cells #[.int .u8 9,.int .u8 bop,.int .i64 d,.int .i64 e,.int .i64 a,.int .i64 b,.int .i64 f,.int .i64 cell,.int .u64 imm,.slice ao nA ac,.int .i64 nx,.int .i64 el] 60)).alloc (.cells #[.int .i64 a] 3)).heap.size:=by simp
  rw [hz1] at HLR
  go_enter Tryd.func40,Tryd.ntmps40
  go_wp2_with (first | (go_at_call 65;refine (placesOf_any (w.heap.size+1+1) _ 1 _ [a] _ HLR.out rfl HWF.out hs2 (by omega)).mono ?_;rintro ee w2 ⟨A2,c2,rfl,hr2,hc2,hb2⟩;have HR2:=Lib.hid hr2;have HB2:=Lib.hid hb2;clear hr2 hb2))
  go_ret
  exact NewI.mk' rfl rfl HR2.out hc2 HB2.out HW2.out
 ·go_enter Tryd.func40,Tryd.ntmps40
  go_wp2
  go_ret
  exact NewI.mk' (l:=[]) rfl rfl Reads.none_ (Nat.le_refl _) (Below.refl _ _) HW1.out
 ·go_enter Tryd.func40,Tryd.ntmps40
  go_wp2_with (first | (go_at_call 65;refine (placesOf_any B ao nA ac args _ HH.out HL.out HA.out hB1 hnA).mono ?_;rintro ee w2 ⟨A2,c2,rfl,hr2,hc2,hb2⟩;have HR2:=Lib.hid hr2;have HB2:=Lib.hid hb2;clear hr2 hb2))
  go_ret
  exact NewI.mk' rfl rfl HR2.out hc2 HB2.out HW1.out
 ·have HLR:=Lib.hid (lit_reads (w.alloc (.cells #[.int .u8 12,.int .u8 bop,.int .i64 d,.int .i64 e,.int .i64 a,.int .i64 b,.int .i64 f,.int .i64 cell,.int .u64 imm,.slice ao nA ac,.int .i64 nx,.int .i64 el] 60)) 3 (i64c [a]) 1 rfl)
  have HWF:Hid (∀ x ∈ [a],I64 x):=Lib.hid (by intro x hx;simp at hx;subst hx;assumption)
  have HW2:Hid (Below w.heap.size w ((w.alloc (.cells #[.int .u8 12,.int .u8 bop,.int .i64 d,.int .i64 e,.int .i64 a,.int .i64 b,.int .i64 f,.int .i64 cell,.int .u64 imm,.slice ao nA ac,.int .i64 nx,.int .i64 el] 60)).alloc (.cells #[.int .i64 a] 3))):=HW1.out.alloc (by simp) _
  have hs2:w.heap.size+1+1≤((w.alloc (.cells #[.int .u8 12,.int .u8 bop,.int .i64 d,.int .i64 e,.int .i64 a,.int .i64 b,.int .i64 f,.int .i64 cell,.int .u64 imm,.slice ao nA ac,.int .i64 nx,.int .i64 el] 60)).alloc (.cells #[.int .i64 a] 3)).heap.size:=by simp
  rw [hz1] at HLR
  go_enter Tryd.func40,Tryd.ntmps40
  go_wp2_with (first | (go_at_call 65;refine (placesOf_any (w.heap.size+1+1) _ 1 _ [a] _ HLR.out rfl HWF.out hs2 (by omega)).mono ?_;rintro ee w2 ⟨A2,c2,rfl,hr2,hc2,hb2⟩;have HR2:=Lib.hid hr2;have HB2:=Lib.hid hb2;clear hr2 hb2))
  go_ret
  exact NewI.mk' rfl rfl HR2.out hc2 HB2.out HW2.out
 ·go_enter Tryd.func40,Tryd.ntmps40
  go_wp2_with (first | (go_at_call 65;refine (placesOf_any B ao nA ac args _ HH.out HL.out HA.out hB1 hnA).mono ?_;rintro ee w2 ⟨A2,c2,rfl,hr2,hc2,hb2⟩;have HR2:=Lib.hid hr2;have HB2:=Lib.hid hb2;clear hr2 hb2))
  go_ret
  exact NewI.mk' rfl rfl HR2.out hc2 HB2.out HW1.out
 ·have HLR:=Lib.hid (lit_reads (w.alloc (.cells #[.int .u8 14,.int .u8 bop,.int .i64 d,.int .i64 e,.int .i64 a,.int .i64 b,.int .i64 f,.int .i64 cell,.int .u64 imm,.slice ao nA ac,.int .i64 nx,.int .i64 el] 60)) 3 (i64c [a]) 1 rfl)
  have HWF:Hid (∀ x ∈ [a],I64 x):=Lib.hid (by intro x hx;simp at hx;subst hx;assumption)
  have HW2:Hid (Below w.heap.size w ((w.alloc (.cells #[.int .u8 14,.int .u8 bop,.int .i64 d,.int .i64 e,.int .i64 a,.int .i64 b,.int .i64 f,.int .i64 cell,.int .u64 imm,.slice ao nA ac,.int .i64 nx,.int .i64 el] 60)).alloc (.cells #[.int .i64 a] 3))):=HW1.out.alloc (by simp) _
  have hs2:w.heap.size+1+1≤((w.alloc (.cells #[.int .u8 14,.int .u8 bop,.int .i64 d,.int .i64 e,.int .i64 a,.int .i64 b,.int .i64 f,.int .i64 cell,.int .u64 imm,.slice ao nA ac,.int .i64 nx,.int .i64 el] 60)).alloc (.cells #[.int .i64 a] 3)).heap.size:=by simp
  rw [hz1] at HLR
  go_enter Tryd.func40,Tryd.ntmps40
  go_wp2_with (first | (go_at_call 65;refine (placesOf_any (w.heap.size+1+1) _ 1 _ [a] _ HLR.out rfl HWF.out hs2 (by omega)).mono ?_;rintro ee w2 ⟨A2,c2,rfl,hr2,hc2,hb2⟩;have HR2:=Lib.hid hr2;have HB2:=Lib.hid hb2;clear hr2 hb2))
  go_ret
  exact NewI.mk' rfl rfl HR2.out hc2 HB2.out HW2.out
 ·go_enter Tryd.func40,Tryd.ntmps40
  go_wp2
  go_ret
  exact NewI.mk' (l:=[]) rfl rfl Reads.none_ (Nat.le_refl _) (Below.refl _ _) HW1.out
 ·go_enter Tryd.func40,Tryd.ntmps40
  go_wp2
  go_ret
  exact NewI.mk' (l:=[]) rfl rfl Reads.none_ (Nat.le_refl _) (Below.refl _ _) HW1.out
 ·have HLR:=Lib.hid (lit_reads (w.alloc (.cells #[.int .u8 17,.int .u8 bop,.int .i64 d,.int .i64 e,.int .i64 a,.int .i64 b,.int .i64 f,.int .i64 cell,.int .u64 imm,.slice ao nA ac,.int .i64 nx,.int .i64 el] 60)) 3 (i64c [a]) 1 rfl)
  have HWF:Hid (∀ x ∈ [a],I64 x):=Lib.hid (by intro x hx;simp at hx;subst hx;assumption)
  have HW2:Hid (Below w.heap.size w ((w.alloc (.cells #[.int .u8 17,.int .u8 bop,.int .i64 d,.int .i64 e,.int .i64 a,.int .i64 b,.int .i64 f,.int .i64 cell,.int .u64 imm,.slice ao nA ac,.int .i64 nx,.int .i64 el] 60)).alloc (.cells #[.int .i64 a] 3))):=HW1.out.alloc (by simp) _
  have hs2:w.heap.size+1+1≤((w.alloc (.cells #[.int .u8 17,.int .u8 bop,.int .i64 d,.int .i64 e,.int .i64 a,.int .i64 b,.int .i64 f,.int .i64 cell,.int .u64 imm,.slice ao nA ac,.int .i64 nx,.int .i64 el] 60)).alloc (.cells #[.int .i64 a] 3)).heap.size:=by simp
  rw [hz1] at HLR
  go_enter Tryd.func40,Tryd.ntmps40
  go_wp2_with (first | (go_at_call 65;refine (placesOf_any (w.heap.size+1+1) _ 1 _ [a] _ HLR.out rfl HWF.out hs2 (by omega)).mono ?_;rintro ee w2 ⟨A2,c2,rfl,hr2,hc2,hb2⟩;have HR2:=Lib.hid hr2;have HB2:=Lib.hid hb2;clear hr2 hb2))
  go_ret
  exact NewI.mk' rfl rfl HR2.out hc2 HB2.out HW2.out
 ·have HLR:=Lib.hid (lit_reads (w.alloc (.cells #[.int .u8 18,.int .u8 bop,.int .i64 d,.int .i64 e,.int .i64 a,.int .i64 b,.int .i64 f,.int .i64 cell,.int .u64 imm,.slice ao nA ac,.int .i64 nx,.int .i64 el] 60)) 3 (i64c [a]) 1 rfl)
  have HWF:Hid (∀ x ∈ [a],I64 x):=Lib.hid (by intro x hx;simp at hx;subst hx;assumption)
  have HW2:Hid (Below w.heap.size w ((w.alloc (.cells #[.int .u8 18,.int .u8 bop,.int .i64 d,.int .i64 e,.int .i64 a,.int .i64 b,.int .i64 f,.int .i64 cell,.int .u64 imm,.slice ao nA ac,.int .i64 nx,.int .i64 el] 60)).alloc (.cells #[.int .i64 a] 3))):=HW1.out.alloc (by simp) _
  have hs2:w.heap.size+1+1≤((w.alloc (.cells #[.int .u8 18,.int .u8 bop,.int .i64 d,.int .i64 e,.int .i64 a,.int .i64 b,.int .i64 f,.int .i64 cell,.int .u64 imm,.slice ao nA ac,.int .i64 nx,.int .i64 el] 60)).alloc (.cells #[.int .i64 a] 3)).heap.size:=by simp
  rw [hz1] at HLR
  go_enter Tryd.func40,Tryd.ntmps40
  go_wp2_with (first | (go_at_call 65;refine (placesOf_any (w.heap.size+1+1) _ 1 _ [a] _ HLR.out rfl HWF.out hs2 (by omega)).mono ?_;rintro ee w2 ⟨A2,c2,rfl,hr2,hc2,hb2⟩;have HR2:=Lib.hid hr2;have HB2:=Lib.hid hb2;clear hr2 hb2))
  go_ret
  exact NewI.mk' rfl rfl HR2.out hc2 HB2.out HW2.out
 ·have hL:readsOf ⟨op,bop,d,e,a,b,f,cell,imm,args,nx,el⟩=[]:=by
   unfold readsOf
   simp only [readF]
   repeat rw [if_neg (by omega)]
   rfl
  have HLL:=Lib.hid hL
  clear hL
  have g2:(op == 2)=false:=by simp;omega
  have g5:(op == 5)=false:=by simp;omega
  have g7:(op == 7)=false:=by simp;omega
  have g9:(op == 9)=false:=by simp;omega
  have g12:(op == 12)=false:=by simp;omega
  have g14:(op == 14)=false:=by simp;omega
  have g18:(op == 18)=false:=by simp;omega
  have g17:(op == 17)=false:=by simp;omega
  have g3:(op == 3)=false:=by simp;omega
  have g8:(op == 8)=false:=by simp;omega
  have g11:(op == 11)=false:=by simp;omega
  have g13:(op == 13)=false:=by simp;omega
  go_enter Tryd.func40,Tryd.ntmps40
  go_wp2
  go_ret
  exact NewI.mk' HLL.out.symm rfl Reads.none_ (Nat.le_refl _) (Below.refl _ _) HW1.out

def u64n (l:List Nat):List Value:=l.map fun x:Nat=>Value.int .u64 (x:Int)
theorem u64n_set (l:List Nat) (k x:Nat):u64n (l.set k x)=(u64n l).set k (.int .u64 (x:Int)):=by
 unfold u64n
 rw [List.map_set]
theorem u64n_at {l:List Nat} {k:Nat} (h:k<l.length):(u64n l)[k]?=some (.int .u64 ((l.getD k 0:Nat):Int)):=by
 unfold u64n
 rw [List.getElem?_map,List.getD_eq_getElem?_getD,List.getElem?_eq_getElem h]
 rfl
def upd {α:Type} (f:Nat→α) (i:Nat) (v:α):Nat→α:=fun k=>if k=i then v else f k
theorem upd_at {α:Type} (f:Nat→α) (i:Nat) (v:α):upd f i v i=v:=if_pos rfl
theorem upd_ne {α:Type} {f:Nat→α} {i k:Nat} {v:α} (h:k≠i):upd f i v k=f k:=if_neg h
theorem map_upd {α:Type} (f:Nat→α) (n i:Nat) (v:α):((List.range n).map f).set i v=(List.range n).map (upd f i v):=by
 apply List.ext_getElem?
 intro k
 rw [List.getElem?_set,List.getElem?_map,List.getElem?_map,List.length_map,List.length_range]
 by_cases hk:k<n
 ·rw [List.getElem?_range hk]
  by_cases e:i=k
  ·subst e
   simp [hk,upd]
  ·have:¬ k=i:=fun h=>e h.symm
   simp [e,this,upd]
 ·rw [List.getElem?_eq_none (by simp;omega)]
  by_cases e:i=k
  ·subst e
   simp [hk]
  ·simp [e]
theorem range_at {α:Type} (f:Nat→α) {n i:Nat} (h:i<n):((List.range n).map f)[i]?=some (f i):=by
 rw [List.getElem?_map,List.getElem?_range h]
 rfl
def rowA (n:Nat) (f:Nat→Value):Array Value:=((List.range n).map f).toArray
theorem rowA_at (f:Nat→Value) {n i:Nat} (h:i<n):(rowA n f)[i]?=some (f i):=by
 unfold rowA
 rw [List.getElem?_toArray]
 exact range_at f h
theorem rowA_set (f:Nat→Value) (n i:Nat) (v:Value):(rowA n f).setIfInBounds i v=rowA n (upd f i v):=by
 unfold rowA
 rw [List.setIfInBounds_toArray,map_upd]
theorem rowA_congr {f g:Nat→Value} {n:Nat} (h:∀ i,i<n→f i=g i):rowA n f=rowA n g:=by
 unfold rowA
 congr 1
 exact List.map_congr_left fun i hi=>h i (List.mem_range.1 hi)
theorem rowA_made (z:Value) (n:Nat):madeCells #[z] n=rowA n fun _=>z:=by
 apply Array.ext
 ·simp [madeCells,rowA]
 ·intro i h1 h2
  simp [madeCells,rowA,Nat.mod_one]

structure Fam (w:World) (base N:Nat) (vs:Nat→Value) (ls:Nat→List Int):Prop where
 own:∀ i,i<N→w.ownsRow base 3 1 (vs i) (ls i).length (i64c (ls i))
 dis:∀ i j,i<N→j<N→i≠j→∀ g,(vs i).ownBlock=some g→(vs j).ownBlock≠some g
section
variable {w w' w1:World} {base N:Nat} {vs:Nat→Value} {ls:Nat→List Int}
theorem Fam.nil (w:World) (base N:Nat):Fam w base N (fun _=>.slice none 0 0) (fun _=>[]):=⟨fun _ _=>own_none _ _ _ _,fun _ _ _ _ _ _ h=>by cases h⟩
theorem Fam.kept (h:Fam w base N vs ls) (hk:∀ i,i<N→∀ g,(vs i).ownBlock=some g→w'.heap[g]?=w.heap[g]?):Fam w' base N vs ls:=⟨fun i hi=>own_kept (h.own i hi) (hk i hi),h.dis⟩
theorem Fam.alloc (h:Fam w base N vs ls) (o:Obj):Fam (w.alloc o) base N vs ls:=h.kept fun i hi g hg=>Below.heap_alloc w o g (own_block_le (h.own i hi) hg).2
theorem Fam.drewN (h:Fam w base N vs ls) (k:Nat):Fam (w.drewN k) base N vs ls:=⟨h.own,h.dis⟩
theorem Fam.below (h:Fam w base N vs ls) (hb:Below w.heap.size w w'):Fam w' base N vs ls:=h.kept fun i hi g hg=>hb.block g (own_block_le (h.own i hi) hg).2
theorem Fam.far (h:Fam w base N vs ls) {p:Nat} {t:TypeId} {cs:Array Value} (hb:Blk w p t cs) (hne:3≠t) (k:Nat) (u:Value):Fam (w.setCell ⟨p,k,none⟩ u) base N vs ls :=
 ⟨fun i hi=>own_far (h.own i hi) hb hne k u,h.dis⟩
theorem Fam.slice (h:Fam w base N vs ls) {i:Nat} (hi:i<N):∃ A c,vs i=.slice A (ls i).length c:=own_slice (h.own i hi)
theorem Fam.push {v':Value} {l':List Int} {i:Nat} (h:Fam w base N vs ls) (hi:i<N) (hown:w'.ownsRow base 3 1 v' l'.length (i64c l')) (hg:w.grownBy w' (vs i).ownBlock) (hor:v'.ownBlock=(vs i).ownBlock∨v'.ownBlock=some w.heap.size) :
  Fam w' base N (upd vs i v') (upd ls i l'):=by
 refine ⟨fun k hk=>?_,fun a b ha hb hab g hga=>?_⟩
 ·by_cases e:k=i
  ·subst e
   rw [upd_at,upd_at]
   exact hown
  ·rw [upd_ne e,upd_ne e]
   exact own_kept (h.own k hk) fun g hgk=>hg.block g (own_block_le (h.own k hk) hgk).2 fun he=>h.dis k i hk hi e g hgk he.symm
 ·by_cases ea:a=i
  ·subst ea
   have hbne:b≠a:=fun e=>hab e.symm
   rw [upd_at] at hga
   rw [upd_ne hbne]
   intro hgb
   rcases hor with h1 | h1
   ·exact h.dis b a hb ha hbne g hgb (by rw [← h1];exact hga)
   ·have:=(own_block_le (h.own b hb) hgb).2
    rw [h1] at hga
    injection hga with hga
    omega
  ·rw [upd_ne ea] at hga
   by_cases eb:b=i
   ·subst eb
    rw [upd_at]
    intro hgb
    rcases hor with h1 | h1
    ·exact h.dis a b ha hb ea g hga (by rw [← h1];exact hgb)
    ·have:=(own_block_le (h.own a ha) hga).2
     rw [h1] at hgb
     injection hgb with hgb
     omega
   ·rw [upd_ne eb]
    exact h.dis a b ha hb hab g hga
theorem Fam.put {v':Value} {l':List Int} {i b2:Nat} (h:Fam w base N vs ls) (hi:i<N) (hb:Below w.heap.size w w') (hown:w'.ownsRow b2 3 1 v' l'.length (i64c l')) (hb2:w.heap.size≤b2) (hbb:base≤b2) :
  Fam w' base N (upd vs i v') (upd ls i l'):=by
 refine ⟨fun k hk=>?_,fun a b ha hb' hab g hga=>?_⟩
 ·by_cases e:k=i
  ·subst e
   rw [upd_at,upd_at]
   exact own_more hown hbb
  ·rw [upd_ne e,upd_ne e]
   exact own_kept (h.own k hk) fun g hgk=>hb.block g (own_block_le (h.own k hk) hgk).2
 ·by_cases ea:a=i
  ·subst ea
   have hbne:b≠a:=fun e=>hab e.symm
   rw [upd_at] at hga
   rw [upd_ne hbne]
   intro hgb
   have h1:=(own_block_le (h.own b hb') hgb).2
   have h2:=(own_block_le hown hga).1
   omega
  ·rw [upd_ne ea] at hga
   by_cases eb:b=i
   ·subst eb
    rw [upd_at]
    intro hgb
    have h1:=(own_block_le (h.own a ha) hga).2
    have h2:=(own_block_le hown hgb).1
    omega
   ·rw [upd_ne eb]
    exact h.dis a b ha hb' hab g hga
end
structure SetsI (w:World) (R n q m:Nat) (wss:List (List Nat)):Prop where
 row:Blk w R 96 (rowA n fun i=>.pointer (some ⟨R+2+2*i,0,none⟩))
 box:∀ i,i<n→Blk w (R+2+2*i) 149 #[.int .i64 m,.slice (some ⟨R+1+2*i,0,none⟩) q q]
 words:∀ i,i<n→Blk w (R+1+2*i) 26 (u64n (wss.getD i [])).toArray
 wf:WfS wss n q m
 qm:q=(m+63) / 64
 mb:m≤1024
structure KpS (w0 w:World) (E R n:Nat):Prop where
 os:w.os=w0.os
 tape:w.tape=w0.tape
 output:w.output=w0.output
 size:w0.heap.size≤w.heap.size
 block:∀ i,i<E→(∀ j,j<n→i≠R+1+2*j)→w.heap[i]?=w0.heap[i]?
section
variable {w0 w w':World} {E R n q m:Nat} {wss:List (List Nat)}
theorem KpS.refl (w:World) (E R n:Nat):KpS w w E R n:=⟨rfl,rfl,rfl,Nat.le_refl _,fun _ _ _=>rfl⟩
theorem KpS.trans {E':Nat} (h:KpS w0 w E R n) (k:KpS w w' E' R n) (hE:E≤E'):KpS w0 w' E R n :=
 ⟨k.os.trans h.os,k.tape.trans h.tape,k.output.trans h.output,Nat.le_trans h.size k.size,fun i hi hj=>(k.block i (by omega) hj).trans (h.block i hi hj)⟩
theorem KpS.below {E':Nat} (h:KpS w0 w E R n) (k:Below E' w w') (hE:E≤E'):KpS w0 w' E R n :=
 ⟨k.os.trans h.os,k.tape.trans h.tape,k.output.trans h.output,Nat.le_trans h.size k.size,fun i hi hj=>(k.block i (by omega)).trans (h.block i hi hj)⟩
theorem KpS.drewN (h:KpS w0 w E R n) (k:Nat):KpS w0 (w.drewN k) E R n:=⟨h.os,h.tape,h.output,h.size,h.block⟩
theorem KpS.set (h:KpS w0 w E R n) {j:Nat} (hj:j<n) (k:Nat) (u:Value):KpS w0 (w.setCell ⟨R+1+2*j,k,none⟩ u) E R n :=
 ⟨h.os,h.tape,h.output,by simpa [World.setCell] using h.size,fun i hi hne=>(Below.heap_setCell w ⟨R+1+2*j,k,none⟩ u i (hne j hj)).trans (h.block i hi hne)⟩
theorem KpS.out {B:Nat} (h:KpS w0 w E R n) (hB:B≤E) (hR:B≤R):Below B w0 w:=⟨h.os,h.tape,h.output,h.size,fun i hi=>h.block i (by omega) fun j _=>by omega⟩
theorem SetsI.noword (h:SetsI w0 R n q m wss) {g:Nat} {t:TypeId} {cs:Array Value} (hb:Blk w0 g t cs) (ht:26≠t):∀ j,j<n→g≠R+1+2*j:=by
 intro j hj e
 subst e
 exact Blk.ne_ (h.words j hj) hb ht rfl
theorem KpS.blk {g:Nat} {t:TypeId} {cs:Array Value} (h:KpS w0 w E R n) (hs:SetsI w0 R n q m wss) (hb:Blk w0 g t cs) (ht:26≠t) (hg:g<E):Blk w g t cs:=(h.block g hg (hs.noword hb ht)).trans hb
theorem KpS.own {base size k:Nat} {e:TypeId} {v:Value} {xs:List Value} (h:KpS w0 w E R n) (hs:SetsI w0 R n q m wss) (ho:w0.ownsRow base e size v k xs) (ht:26≠e) (hE:w0.heap.size≤E):w.ownsRow base e size v k xs:=by
 refine own_kept ho fun g hg=>?_
 have hl:=(own_block_le ho hg).2
 refine h.block g (by omega) fun j hj ej=>?_
 subst ej
 exact own_blk_ne ho (hs.words j hj) (fun e'=>ht e'.symm) hg
theorem KpS.fam {base N:Nat} {vs:Nat→Value} {ls:Nat→List Int} (h:KpS w0 w E R n) (hs:SetsI w0 R n q m wss) (hf:Fam w0 base N vs ls) (hE:w0.heap.size≤E):Fam w base N vs ls:=⟨fun i hi=>h.own hs (hf.own i hi) (by decide) hE,hf.dis⟩
theorem SetsI.below (h:SetsI w R n q m wss) (hb:Below w.heap.size w w'):SetsI w' R n q m wss :=
 ⟨h.row.below hb h.row.lt,fun i hi=>(h.box i hi).below hb (h.box i hi).lt,fun i hi=>(h.words i hi).below hb (h.words i hi).lt,h.wf,h.qm,h.mb⟩
theorem SetsI.drewN (h:SetsI w R n q m wss) (k:Nat):SetsI (w.drewN k) R n q m wss:=⟨h.row,h.box,h.words,h.wf,h.qm,h.mb⟩
theorem SetsI.alloc (h:SetsI w R n q m wss) (o:Obj):SetsI (w.alloc o) R n q m wss:=h.below ((Below.refl _ _).alloc (Nat.le_refl _) _)
theorem SetsI.add (h:SetsI w R n q m wss) {i j:Nat} (hi:i<n) (hj:j<m) :
  SetsI (w.setCell ⟨R+1+2*i,j / 64,none⟩ (.int .u64 (((addW (wss.getD i []) j).getD (j / 64) 0:Nat):Int))) R n q m (addS wss i j):=by
 have hq:j / 64<q:=by have:=h.qm;omega
 have hle:(wss.getD i []).length=q:=h.wf.each _ (getD_mem _ (by rw [h.wf.len];exact hi))
 refine ⟨h.row.far (p:=⟨R+1+2*i,j / 64,none⟩) (by show R≠R+1+2*i;omega) _,fun k hk=>(h.box k hk).far (p:=⟨R+1+2*i,j / 64,none⟩) (by show R+2+2*k≠R+1+2*i;omega) _,fun k hk=>?_,addS_wf h.wf hi hq hj,h.qm,h.mb⟩
 by_cases e:k=i
 ·subst e
  have h1:=(h.words k hk).set_ (j / 64) (.int .u64 (((addW (wss.getD k []) j).getD (j / 64) 0:Nat):Int))
  rw [List.setIfInBounds_toArray,← u64n_set] at h1
  have e1:(addS wss k j).getD k []=(wss.getD k []).set (j / 64) ((addW (wss.getD k []) j).getD (j / 64) 0):=by
   unfold addS
   rw [List.getD_eq_getElem?_getD,List.getElem?_set,if_pos rfl,if_pos (by rw [h.wf.len];exact hk),Option.getD_some]
   unfold addW
   rw [List.getD_eq_getElem?_getD (l:=List.set _ _ _),List.getElem?_set,if_pos rfl,if_pos (by rw [hle];exact hq),Option.getD_some]
  rw [e1]
  exact h1
 ·have e1:(addS wss i j).getD k []=wss.getD k []:=by
   unfold addS
   rw [List.getD_eq_getElem?_getD,List.getElem?_set,if_neg (fun h=>e h.symm),← List.getD_eq_getElem?_getD]
  rw [e1]
  exact (h.words k hk).far (p:=⟨R+1+2*i,j / 64,none⟩) (by show R+1+2*k≠R+1+2*i;omega) _
end
section
variable {α:Type} (ky:α→Int)
def sw (G:Nat→α) (i j:Nat):Nat→α:=upd (upd G i (G j)) j (G i)
theorem sw_at (G:Nat→α) (i j k:Nat):sw G i j k=if k=j then G i else if k=i then G j else G k:=rfl
structure Wi (lo hi:Nat) (G G':Nat→α):Prop where
 out:∀ k,k<lo∨hi≤k→G' k=G k
 inn:∀ k,lo≤k→k<hi→∃ q,lo≤q∧q<hi∧G' k=G q
theorem Wi.refl (lo hi:Nat) (G:Nat→α):Wi lo hi G G:=⟨fun _ _=>rfl,fun k h1 h2=>⟨k,h1,h2,rfl⟩⟩
theorem Wi.trans {lo hi:Nat} {G G1 G2:Nat→α} (h:Wi lo hi G G1) (k:Wi lo hi G1 G2):Wi lo hi G G2 :=
 ⟨fun q hq=>(k.out q hq).trans (h.out q hq),fun q h1 h2=>by
  obtain ⟨r,h3,h4,e⟩:=k.inn q h1 h2
  obtain ⟨s,h5,h6,e2⟩:=h.inn r h3 h4
  exact ⟨s,h5,h6,e.trans e2⟩⟩
theorem Wi.more {lo hi lo' hi':Nat} {G G':Nat→α} (h:Wi lo hi G G') (h1:lo'≤lo) (h2:hi≤hi'):Wi lo' hi' G G' :=
 ⟨fun k hk=>h.out k (by omega),fun k h3 h4=>by
  by_cases hk:lo≤k∧k<hi
  ·obtain ⟨q,h5,h6,e⟩:=h.inn k hk.1 hk.2
   exact ⟨q,by omega,by omega,e⟩
  ·exact ⟨k,h3,h4,h.out k (by omega)⟩⟩
theorem Wi.sw {lo hi i j:Nat} (G:Nat→α) (h1:lo≤i) (h2:i<hi) (h3:lo≤j) (h4:j<hi):Wi lo hi G (sw G i j) :=
 ⟨fun k hk=>by rw [sw_at,if_neg (by omega),if_neg (by omega)],fun k _ _=>by
  rw [sw_at]
  split
  ·exact ⟨i,h1,h2,rfl⟩
  ·split
   ·exact ⟨j,h3,h4,rfl⟩
   ·exact ⟨k,by assumption,by assumption,rfl⟩⟩
def Prm (m:Nat) (G G':Nat→α):Prop:=∃ π ρ:Nat→Nat,∀ k,k<m→π k<m∧ρ k<m∧π (ρ k)=k∧ρ (π k)=k∧G' k=G (π k)
theorem Prm.refl (m:Nat) (G:Nat→α):Prm m G G:=⟨id,id,fun k h=>⟨h,h,rfl,rfl,rfl⟩⟩
theorem Prm.trans {m:Nat} {G G1 G2:Nat→α} (h:Prm m G G1) (k:Prm m G1 G2):Prm m G G2:=by
 obtain ⟨π,ρ,hp⟩:=h
 obtain ⟨π',ρ',hq⟩:=k
 refine ⟨fun k=>π (π' k),fun k=>ρ' (ρ k),fun k hk=>?_⟩
 have h1:=hq k hk
 have h2:=hp (π' k) h1.1
 have h3:=hp k hk
 have h4:=hq (ρ k) h3.2.1
 refine ⟨h2.1,h4.2.1,?_,?_,h1.2.2.2.2.trans h2.2.2.2.2⟩
 ·show π (π' (ρ' (ρ k)))=k
  rw [h4.2.2.1,h3.2.2.1]
 ·show ρ' (ρ (π (π' k)))=k
  rw [h2.2.2.2.1,h1.2.2.2.1]
theorem Prm.sw {m i j:Nat} (G:Nat→α) (h1:i<m) (h2:j<m):Prm m G (sw G i j):=by
 have key:∀ k,(if (if k=j then i else if k=i then j else k)=j then i else if (if k=j then i else if k=i then j else k)=i then j else (if k=j then i else if k=i then j else k))=k:=by
  intro k
  by_cases e1:k=j
  ·rw [if_pos e1]
   by_cases e2:i=j
   ·rw [if_pos e2];omega
   ·rw [if_neg e2,if_pos rfl];omega
  ·rw [if_neg e1]
   by_cases e2:k=i
   ·rw [if_pos e2,if_pos rfl];omega
   ·rw [if_neg e2,if_neg e1,if_neg e2]
 have low:∀ k,k<m→(if k=j then i else if k=i then j else k)<m:=by
  intro k hk
  split
  ·exact h1
  ·split
   ·exact h2
   ·exact hk
 refine ⟨fun k=>if k=j then i else if k=i then j else k,fun k=>if k=j then i else if k=i then j else k,fun k hk=>⟨low k hk,low k hk,key k,key k,?_⟩⟩
 rw [sw_at]
 show _=G (if k=j then i else if k=i then j else k)
 split
 ·rfl
 ·split <;> rfl

def So (G:Nat→α) (lo hi:Nat):Prop:=∀ i j,lo≤i→i<j→j<hi→ky (G i)≤ky (G j)
theorem So.congr {G G':Nat→α} {lo hi:Nat} (h:So ky G lo hi) (he:∀ k,lo≤k→k<hi→G' k=G k):So ky G' lo hi:=fun i j h1 h2 h3=>by
 rw [he i h1 (by omega),he j (by omega) h3]
 exact h i j h1 h2 h3
theorem So.le {G:Nat→α} {lo hi:Nat} (h:So ky G lo hi) {i j:Nat} (h1:lo≤i) (h2:i≤j) (h3:j<hi):ky (G i)≤ky (G j):=by
 rcases Nat.lt_or_ge i j with h4 | h4
 ·exact h i j h1 h4 h3
 ·obtain rfl:i=j:=by omega
  exact Int.le_refl _
theorem So.join {G:Nat→α} {lo mid hi:Nat} (h1:So ky G lo mid) (h2:So ky G mid hi) (h3:∀ i j,lo≤i→i<mid→mid≤j→j<hi→ky (G i)≤ky (G j)):So ky G lo hi:=fun i j a b c=>by
 by_cases e:j<mid
 ·exact h1 i j a b e
 ·by_cases e2:i<mid
  ·exact h3 i j a e2 (by omega) c
  ·exact h2 i j (by omega) b c

def insJ (a:Nat):Nat→(Nat→α)→(Nat→α)
 | 0,G=>G
 | j+1,G=>if a<j+1∧ky (G (j+1))<ky (G j) then insJ a j (sw G (j+1) j) else G
def insN (a:Nat):Nat→(Nat→α)→(Nat→α)
 | 0,G=>G
 | n+1,G=>insJ ky a (a+1+n) (insN a n G)
def insS (a b:Nat) (G:Nat→α):Nat→α:=insN ky a (b-(a+1)) G
theorem insJ_prm (a m:Nat):∀ (j:Nat) (G:Nat→α),j<m→Prm m G (insJ ky a j G)
 | 0,G,_=>Prm.refl _ _
 | j+1,G,h=>by
  unfold insJ
  split
  ·exact (Prm.sw G h (by omega)).trans (insJ_prm a m j _ (by omega))
  ·exact Prm.refl _ _
theorem insN_prm (a m:Nat) (G:Nat→α):∀ n,a+n<m→Prm m G (insN ky a n G)
 | 0,_=>Prm.refl _ _
 | n+1,h=>(insN_prm a m G n (by omega)).trans (insJ_prm ky a m _ _ (by omega))
theorem insS_prm {a b m:Nat} (G:Nat→α) (hb:b≤m):Prm m G (insS ky a b G):=by
 unfold insS
 by_cases h:b≤a+1
 ·rw [show b-(a+1)=0 by omega];exact Prm.refl _ _
 ·exact insN_prm ky a m G _ (by omega)
theorem insJ_ok (a hi:Nat):∀ (j:Nat) (G:Nat→α),a≤j→j<hi→(∀ i k,a≤i→i<k→k<hi→i≠j→k≠j→ky (G i)≤ky (G k))→(∀ k,j<k→k<hi→ky (G j)≤ky (G k))→So ky (insJ ky a j G) a hi∧Wi a (j+1) G (insJ ky a j G)
 | 0,G,h0,h1,hA,hB=>by
  refine ⟨fun i k a1 a2 a3=>?_,Wi.refl _ _ _⟩
  unfold insJ
  by_cases e:i=0
  ·subst e;exact hB k a2 a3
  ·exact hA i k a1 a2 a3 e (by omega)
 | j+1,G,h0,h1,hA,hB=>by
  unfold insJ
  by_cases hc:a<j+1∧ky (G (j+1))<ky (G j)
  ·rw [if_pos hc]
   have hs:∀ k,sw G (j+1) j k=if k=j then G (j+1) else if k=j+1 then G j else G k:=fun k=>sw_at G (j+1) j k
   have IH:=insJ_ok a hi j (sw G (j+1) j) (by omega) (by omega) (fun i k a1 a2 a3 a4 a5=>by
    rw [hs i,hs k,if_neg a4,if_neg a5]
    by_cases e1:i=j+1
    ·rw [if_pos e1,if_neg (by omega)]
     exact hA j k (by omega) (by omega) a3 (by omega) (by omega)
    ·rw [if_neg e1]
     by_cases e2:k=j+1
     ·rw [if_pos e2]
      exact hA i j a1 (by omega) (by omega) e1 (by omega)
     ·rw [if_neg e2]
      exact hA i k a1 a2 a3 e1 e2) (fun k a1 a2=>by
    rw [hs j,hs k,if_pos rfl,if_neg (by omega)]
    by_cases e2:k=j+1
    ·rw [if_pos e2];exact Int.le_of_lt hc.2
    ·rw [if_neg e2];exact hB k (by omega) a2)
   exact ⟨IH.1,(Wi.sw G (by omega) (by omega) (by omega) (by omega)).trans (IH.2.more (Nat.le_refl _) (by omega))⟩
  ·rw [if_neg hc]
   refine ⟨fun i k a1 a2 a3=>?_,Wi.refl _ _ _⟩
   by_cases e1:i=j+1
   ·subst e1;exact hB k a2 a3
   ·by_cases e2:k=j+1
    ·subst e2
     have hlt:ky (G j)≤ky (G (j+1)):=by omega
     by_cases e3:i=j
     ·subst e3;exact hlt
     ·exact Int.le_trans (hA i j a1 (by omega) (by omega) e1 (by omega)) hlt
    ·exact hA i k a1 a2 a3 e1 e2
theorem insN_ok (a:Nat) (G:Nat→α):∀ n,So ky (insN ky a n G) a (a+1+n)∧Wi a (a+1+n) G (insN ky a n G)
 | 0=>⟨fun i j h1 h2 h3=>by omega,Wi.refl _ _ _⟩
 | n+1=>by
  obtain ⟨h1,h2⟩:=insN_ok a G n
  unfold insN
  have h:=insJ_ok ky a (a+1+(n+1)) (a+1+n) (insN ky a n G) (by omega) (by omega) (fun i k a1 a2 a3 a4 a5=>h1 i k a1 a2 (by omega)) (fun k a1 a2=>by omega)
  exact ⟨h.1,(h2.more (Nat.le_refl _) (by omega)).trans (h.2.more (Nat.le_refl _) (by omega))⟩
theorem insS_ok {a b:Nat} (G:Nat→α):So ky (insS ky a b G) a b∧Wi a b G (insS ky a b G):=by
 unfold insS
 by_cases h:b≤a+1
 ·rw [show b-(a+1)=0 by omega]
  exact ⟨fun i j h1 h2 h3=>by omega,Wi.refl _ _ _⟩
 ·have h1:=insN_ok ky a G (b-(a+1))
  rw [show a+1+(b-(a+1))=b by omega] at h1
  exact h1

def bsF (p:Nat→Bool):Nat→Nat→Nat→Nat
 | 0,i,_=>i
 | f+1,i,j=>if i<j then (if p ((i+j) / 2) then bsF p f ((i+j) / 2+1) j else bsF p f i ((i+j) / 2)) else i
theorem bs_end (p:Nat→Bool) (f:Nat) {i j:Nat} (h:j≤i):bsF p f i j=i:=by
 cases f with
 | zero=>rfl
 | succ f=>unfold bsF;rw [if_neg (by omega)]
theorem bs_edge (p:Nat→Bool):∀ (f i j:Nat),i≤j→j-i≤f→i≤bsF p f i j∧bsF p f i j≤j∧(bsF p f i j=i∨p (bsF p f i j-1)=true)∧(bsF p f i j=j∨p (bsF p f i j)=false)
 | 0,i,j,h1,h2=>by
  obtain rfl:i=j:=by omega
  exact ⟨Nat.le_refl _,Nat.le_refl _,.inl rfl,.inl rfl⟩
 | f+1,i,j,h1,h2=>by
  unfold bsF
  by_cases h:i<j
  ·rw [if_pos h]
   by_cases hp:p ((i+j) / 2)=true
   ·rw [if_pos hp]
    obtain ⟨a1,a2,a3,a4⟩:=bs_edge p f ((i+j) / 2+1) j (by omega) (by omega)
    refine ⟨by omega,a2,.inr ?_,a4⟩
    rcases a3 with e | e
    ·rw [e];exact hp
    ·exact e
   ·rw [if_neg hp]
    obtain ⟨a1,a2,a3,a4⟩:=bs_edge p f i ((i+j) / 2) (by omega) (by omega)
    refine ⟨a1,by omega,a3,.inr ?_⟩
    rcases a4 with e | e
    ·rw [e];exact Bool.eq_false_iff.2 hp
    ·exact e
  ·rw [if_neg h]
   exact ⟨Nat.le_refl _,h1,.inl rfl,.inl (by omega)⟩
def shU:Nat→Nat→(Nat→α)→(Nat→α)
 | 0,_,G=>G
 | n+1,a,G=>shU n (a+1) (sw G a (a+1))
theorem shU_at:∀ (n a:Nat) (G:Nat→α) (k:Nat),shU n a G k=if a≤k∧k<a+n then G (k+1) else if k=a+n then G a else G k
 | 0,a,G,k=>by
  unfold shU
  rw [if_neg (by omega)]
  split
  ·rename_i e;rw [e];rfl
  ·rfl
 | n+1,a,G,k=>by
  unfold shU
  rw [shU_at n (a+1),sw_at,sw_at,sw_at]
  by_cases h1:a+1≤k∧k<a+1+n
  ·rw [if_pos h1,if_neg (by omega),if_neg (by omega),if_pos (by omega)]
  ·rw [if_neg h1]
   by_cases h2:k=a+1+n
   ·rw [if_pos h2,if_pos rfl,if_neg (by omega),if_pos (by omega)]
   ·rw [if_neg h2]
    by_cases h3:k=a
    ·subst h3
     rw [if_neg (by omega),if_pos rfl,if_pos (by omega)]
    ·rw [if_neg (by omega),if_neg h3,if_neg (by omega),if_neg (by omega)]
def shD:Nat→Nat→(Nat→α)→(Nat→α)
 | 0,_,G=>G
 | n+1,m,G=>shD n (m-1) (sw G m (m-1))
theorem shD_at:∀ (n m:Nat) (G:Nat→α) (k:Nat),n≤m→shD n m G k=if m-n<k∧k≤m then G (k-1) else if k=m-n then G m else G k
 | 0,m,G,k,h=>by
  unfold shD
  rw [if_neg (by omega)]
  split
  ·rename_i e;rw [e];rfl
  ·rfl
 | n+1,m,G,k,h=>by
  unfold shD
  rw [shD_at n (m-1) _ _ (by omega),sw_at,sw_at,sw_at]
  by_cases h1:m-1-n<k∧k≤m-1
  ·rw [if_pos h1,if_neg (by omega),if_neg (by omega),if_pos (by omega)]
  ·rw [if_neg h1]
   by_cases h2:k=m-1-n
   ·rw [if_pos h2,if_pos rfl,if_neg (by omega),if_pos (by omega)]
   ·rw [if_neg h2]
    by_cases h3:k=m
    ·subst h3
     rw [if_neg (by omega),if_pos rfl,if_pos (by omega)]
    ·rw [if_neg (by omega),if_neg h3,if_neg (by omega),if_neg (by omega)]
def swR (a b:Nat):Nat→(Nat→α)→(Nat→α)
 | 0,G=>G
 | n+1,G=>sw (swR a b n G) (a+n) (b+n)
theorem swR_at (a b:Nat) (G:Nat→α):∀ n k,a+n≤b→swR a b n G k=if a≤k∧k<a+n then G (k-a+b) else if b≤k∧k<b+n then G (k-b+a) else G k
 | 0,k,h=>by unfold swR;rw [if_neg (by omega),if_neg (by omega)]
 | n+1,k,h=>by
  unfold swR
  rw [sw_at,swR_at a b G n (a+n) (by omega),swR_at a b G n (b+n) (by omega),swR_at a b G n k (by omega)]
  repeat' split
  all_goals first | rfl | (exfalso;omega) | (exact congrArg G (by omega))
theorem swR_prm (a b m:Nat) (G:Nat→α):∀ n,a+n≤m→b+n≤m→Prm m G (swR a b n G)
 | 0,_,_=>Prm.refl _ _
 | n+1,h1,h2=>(swR_prm a b m G n (by omega) (by omega)).trans (Prm.sw _ (by omega) (by omega))
def rotF (m:Nat):Nat→Nat→Nat→(Nat→α)→(Nat→α)
 | 0,_,_,G=>G
 | f+1,i,j,G=>if i=j then swR (m-i) m i G else if j<i then rotF m f (i-j) j (swR (m-i) m j G) else rotF m f i (j-i) (swR (m-i) (m+j-i) i G)
theorem rot_at (m:Nat):∀ (f i j:Nat) (G:Nat→α) (k:Nat),0<i→0<j→i≤m→i+j≤f→rotF m f i j G k=if m-i≤k∧k<m-i+j then G (k+i) else if m-i+j≤k∧k<m+j then G (k-j) else G k
 | 0,i,j,G,k,h1,h2,h3,h4=>by omega
 | f+1,i,j,G,k,h1,h2,h3,h4=>by
  unfold rotF
  by_cases e1:i=j
  ·rw [if_pos e1,swR_at _ _ _ _ _ (by omega)]
   subst e1
   repeat' split
   all_goals first | rfl | (exfalso;omega) | (exact congrArg G (by omega))
  ·rw [if_neg e1]
   by_cases e2:j<i
   ·rw [if_pos e2,rot_at m f (i-j) j _ _ (by omega) h2 (by omega) (by omega),swR_at _ _ _ _ _ (by omega),swR_at _ _ _ _ _ (by omega),swR_at _ _ _ _ _ (by omega)]
    repeat' split
    all_goals first | rfl | (exfalso;omega) | (exact congrArg G (by omega))
   ·rw [if_neg e2,rot_at m f i (j-i) _ _ h1 (by omega) h3 (by omega),swR_at _ _ _ _ _ (by omega),swR_at _ _ _ _ _ (by omega),swR_at _ _ _ _ _ (by omega)]
    repeat' split
    all_goals first | rfl | (exfalso;omega) | (exact congrArg G (by omega))
theorem rot_prm (m M:Nat):∀ (f i j:Nat) (G:Nat→α),i≤m→m+j≤M→Prm M G (rotF m f i j G)
 | 0,i,j,G,h1,h2=>Prm.refl _ _
 | f+1,i,j,G,h1,h2=>by
  unfold rotF
  split
  ·exact swR_prm _ _ _ _ _ (by omega) (by omega)
  ·split
   ·exact (swR_prm _ _ _ _ _ (by omega) (by omega)).trans (rot_prm m M f _ _ _ (by omega) (by omega))
   ·exact (swR_prm _ _ _ _ _ (by omega) (by omega)).trans (rot_prm m M f _ _ _ (by omega) (by omega))
theorem shU_prm (M:Nat):∀ (n a:Nat) (G:Nat→α),a+n<M→Prm M G (shU n a G)
 | 0,_,G,_=>Prm.refl _ _
 | n+1,a,G,h=>(Prm.sw G (by omega) (by omega)).trans (shU_prm M n (a+1) _ (by omega))
theorem shD_prm (M:Nat):∀ (n m:Nat) (G:Nat→α),m<M→Prm M G (shD n m G)
 | 0,_,G,_=>Prm.refl _ _
 | n+1,m,G,h=>(Prm.sw G (by omega) (by omega)).trans (shD_prm M n (m-1) _ (by omega))
end
end Go.Proofs.YtepkogfiojkcpaaDoor
