/-
  Texts of one seat, one behind the other: Si, Sk, Sn, Sf0, Rs.
-/
import Derived.BigQuiet
import Derived.Deep.RegionHeld3
import Derived.Deep.DeepCutAuto
import Derived.StillTailTactics
import Derived.Test.YtgekmjkfnhogkaaMA17
import Derived.Test.YtgekmjkfnhogkaaMA41

set_option linter.unusedVariables false
set_option linter.unusedSimpArgs false
set_option maxRecDepth 100000
set_option maxHeartbeats 51200000
namespace Go.Proofs.Ytgekmjkfnhogkaa
open Go.ChangeShapes Go.WideShapes Go.ChangeAt Go.RowKit
theorem eq_len {α:Type} [DecidableEq α] {a b:List α} (h:a.length≠b.length):decide (a=b)=false:=by
 simp only [decide_eq_false_iff_not]
 intro e
 exact h (by rw [e])
theorem eq_at {α:Type} [DecidableEq α] {a b:List α} {k:Nat} {x y:α} (hx:a[k]?=some x) (hy:b[k]?=some y) (h:x≠y):decide (a=b)=false:=by
 simp only [decide_eq_false_iff_not]
 intro e
 rw [e,hy] at hx
 exact h (by simpa using hx.symm)

theorem rsi_any (B:Nat) (ao bo:Option Addr) (n m c d:Nat) (la lb:List Int) (w:World) (ha:Reads w B 1 ao n (i64c la)) (hb:Reads w B 1 bo m (i64c lb)) (hn:la.length=n) (hm:lb.length=m)
  (hnb:n≤140737488351232) (hmb:m≤140737488351232) :
  Calls Try.prog 25 #[.slice ao n c,.slice bo m d] w fun e w'=>e=.returned (.bool (decide (la=lb)))∧∃ q,w'=w.drewN q:=by
 have HA:=Lib.hid ha
 have HB:=Lib.hid hb
 have HN:=Lib.hid hn
 have HM:=Lib.hid hm
 clear ha hb hn hm
 by_cases hgt:n≠m
 ·have hr:decide (la=lb)=false:=eq_len (by rw [HN.out,HM.out];exact hgt)
  have HR:=Lib.hid hr
  clear hr
  go_enter Try.func25,Try.ntmps25
  go_wp2
  go_ret
  exact ⟨by rw [HR.out];rfl,0,rfl⟩
 ·obtain rfl:n=m:=by omega
  clear hgt
  go_enter Try.func25,Try.ntmps25
  go_wp2
  go_loopw [13] (fun i wr=>∃ k q:Nat,k≤n∧i=.int .i64 k∧Hid (lb.take k=la.take k)∧wr=w.drewN q) (fun i _=>n-(intOf i).toNat)
  case atStart=>exact ⟨0,0,Nat.zero_le _,rfl,rfl,rfl⟩
  case round =>
   obtain ⟨k,q,hk,rfl,HP,rfl⟩:=hrel
   by_cases hlt:k<n
   ·obtain ⟨b1,o1,x,rfl,hb1,HX,x1⟩:=HA.out.int hlt
    obtain ⟨b2,o2,y,rfl,hb2,HY,y1⟩:=HB.out.int hlt
    by_cases hxy:x=y
    ·have hd:(x != y)=false:=by simpa using hxy
     have HXY:=Lib.hid hxy
     clear hxy
     go_wp2
     go_quiet (fail)
     go_wp2
     go_roundw
     case rel=>exact ⟨k+1,q+nq,by omega,by go_num,by show lb.take (k+1)=la.take (k+1);rw [take_at HX.out,take_at HY.out,HP.out,HXY.out],rfl⟩
     case measure=>simp [intOf];omega
    ·have hr:decide (la=lb)=false:=eq_at HX.out HY.out hxy
     have hd:(x != y)=true:=by simpa using hxy
     have HR:=Lib.hid hr
     clear hxy hr
     go_wp2
     go_quiet (fail)
     go_wp2
     go_ret
     exact ⟨by rw [HR.out];rfl,q+nq,World.drewN_drewN _ _ _⟩
   ·obtain rfl:n=k:=by omega
    have hr:decide (la=lb)=true:=by
     have h:=HP.out
     rw [List.take_of_length_le (by rw [HM.out];omega),List.take_of_length_le (by rw [HN.out];omega)] at h
     rw [h];simp
    have HR:=Lib.hid hr
    clear hr
    go_wp2
    go_ret
    exact ⟨by rw [HR.out];rfl,_,rfl⟩
theorem rsk_any (B:Nat) (ao bo:Option Addr) (n m c d:Nat) (la lb:List Int) (w:World) (ha:Reads w B 1 ao n (u8c la)) (hb:Reads w B 1 bo m (u8c lb)) (hn:la.length=n) (hm:lb.length=m)
  (hnb:n≤140737488351232) (hmb:m≤140737488351232) :
  Calls Try.prog 26 #[.slice ao n c,.slice bo m d] w fun e w'=>e=.returned (.bool (decide (la=lb)))∧∃ q,w'=w.drewN q:=by
 have HA:=Lib.hid ha
 have HB:=Lib.hid hb
 have HN:=Lib.hid hn
 have HM:=Lib.hid hm
 clear ha hb hn hm
 by_cases hgt:n≠m
 ·have hr:decide (la=lb)=false:=eq_len (by rw [HN.out,HM.out];exact hgt)
  have HR:=Lib.hid hr
  clear hr
  go_enter Try.func26,Try.ntmps26
  go_wp2
  go_ret
  exact ⟨by rw [HR.out];rfl,0,rfl⟩
 ·obtain rfl:n=m:=by omega
  clear hgt
  go_enter Try.func26,Try.ntmps26
  go_wp2
  go_loopw [13] (fun i wr=>∃ k q:Nat,k≤n∧i=.int .i64 k∧Hid (lb.take k=la.take k)∧wr=w.drewN q) (fun i _=>n-(intOf i).toNat)
  case atStart=>exact ⟨0,0,Nat.zero_le _,rfl,rfl,rfl⟩
  case round =>
   obtain ⟨k,q,hk,rfl,HP,rfl⟩:=hrel
   by_cases hlt:k<n
   ·obtain ⟨b1,o1,x,rfl,hb1,HX,x1⟩:=HA.out.byte hlt
    obtain ⟨b2,o2,y,rfl,hb2,HY,y1⟩:=HB.out.byte hlt
    by_cases hxy:x=y
    ·have hd:(x != y)=false:=by simpa using hxy
     have HXY:=Lib.hid hxy
     clear hxy
     go_wp2
     go_quiet (fail)
     go_wp2
     go_roundw
     case rel=>exact ⟨k+1,q+nq,by omega,by go_num,by show lb.take (k+1)=la.take (k+1);rw [take_at HX.out,take_at HY.out,HP.out,HXY.out],rfl⟩
     case measure=>simp [intOf];omega
    ·have hr:decide (la=lb)=false:=eq_at HX.out HY.out hxy
     have hd:(x != y)=true:=by simpa using hxy
     have HR:=Lib.hid hr
     clear hxy hr
     go_wp2
     go_quiet (fail)
     go_wp2
     go_ret
     exact ⟨by rw [HR.out];rfl,q+nq,World.drewN_drewN _ _ _⟩
   ·obtain rfl:n=k:=by omega
    have hr:decide (la=lb)=true:=by
     have h:=HP.out
     rw [List.take_of_length_le (by rw [HM.out];omega),List.take_of_length_le (by rw [HN.out];omega)] at h
     rw [h];simp
    have HR:=Lib.hid hr
    clear hr
    go_wp2
    go_ret
    exact ⟨by rw [HR.out];rfl,_,rfl⟩

theorem rsn_any (B:Nat) (op bop d e a b f cell imm:Int) (args:List Int) (nx el:Int) (ao:Option Addr) (nA ac:Nat) (op' bop' d' e' a' b' f' cell' imm':Int) (args':List Int) (nx' el':Int) (ao':Option Addr) (nA' ac':Nat) (w:World)
  (hr:Reads w B 1 ao nA (i64c args)) (hl:args.length=nA) (hb:nA≤140737488351232) (hr':Reads w B 1 ao' nA' (i64c args')) (hl':args'.length=nA') (hb':nA'≤140737488351232) (hB:B≤w.heap.size) :
  Calls Try.prog 27 #[.agg #[.int .u8 op,.int .u8 bop,.int .i64 d,.int .i64 e,.int .i64 a,.int .i64 b,.int .i64 f,.int .i64 cell,.int .u64 imm,.slice ao nA ac,.int .i64 nx,.int .i64 el],.agg #[.int .u8 op',.int .u8 bop',.int .i64 d',.int .i64 e',.int .i64 a',.int .i64 b',.int .i64 f',.int .i64 cell',.int .u64 imm',.slice ao' nA' ac',.int .i64 nx',.int .i64 el']] w fun ee w'=>ee=.returned (.bool (decide ((⟨op,bop,d,e,a,b,f,cell,imm,args,nx,el⟩:Nd)=(⟨op',bop',d',e',a',b',f',cell',imm',args',nx',el'⟩:Nd))))∧Below w.heap.size w w':=by
 have HB2:Hid (Below w.heap.size w ((w.alloc (.cells #[.int .u8 op,.int .u8 bop,.int .i64 d,.int .i64 e,.int .i64 a,.int .i64 b,.int .i64 f,.int .i64 cell,.int .u64 imm,.slice ao nA ac,.int .i64 nx,.int .i64 el] 70)).alloc (.cells #[.int .u8 op',.int .u8 bop',.int .i64 d',.int .i64 e',.int .i64 a',.int .i64 b',.int .i64 f',.int .i64 cell',.int .u64 imm',.slice ao' nA' ac',.int .i64 nx',.int .i64 el'] 70))):=((Below.refl _ _).alloc (Nat.le_refl _) _).alloc (by simp) _
 have HR:=Lib.hid (hr.below (HB2.out.mono hB))
 have HR':=Lib.hid (hr'.below (HB2.out.mono hB))
 have HL:=Lib.hid hl
 have HL':=Lib.hid hl'
 clear hr hr' hl hl'
 by_cases c0:op=op'
 rotate_left
 ·have HD:Hid (decide ((⟨op,bop,d,e,a,b,f,cell,imm,args,nx,el⟩:Nd)=(⟨op',bop',d',e',a',b',f',cell',imm',args',nx',el'⟩:Nd))=false):=Lib.hid (decide_eq_false fun h=>c0 (congrArg Nd.op h))
  have g0:(op == op')=false:=by simpa using c0
  clear c0
  go_enter Try.func27,Try.ntmps27
  go_wp2
  go_ret
  exact ⟨by rw [HD.out];rfl,HB2.out⟩
 have g0:(op == op')=true:=by simpa using c0
 by_cases c1:bop=bop'
 rotate_left
 ·have HD:Hid (decide ((⟨op,bop,d,e,a,b,f,cell,imm,args,nx,el⟩:Nd)=(⟨op',bop',d',e',a',b',f',cell',imm',args',nx',el'⟩:Nd))=false):=Lib.hid (decide_eq_false fun h=>c1 (congrArg Nd.bop h))
  have g1:(bop == bop')=false:=by simpa using c1
  clear c1 c0
  go_enter Try.func27,Try.ntmps27
  go_wp2
  go_ret
  exact ⟨by rw [HD.out];rfl,HB2.out⟩
 have g1:(bop == bop')=true:=by simpa using c1
 by_cases c2:d=d'
 rotate_left
 ·have HD:Hid (decide ((⟨op,bop,d,e,a,b,f,cell,imm,args,nx,el⟩:Nd)=(⟨op',bop',d',e',a',b',f',cell',imm',args',nx',el'⟩:Nd))=false):=Lib.hid (decide_eq_false fun h=>c2 (congrArg Nd.d h))
  have g2:(d == d')=false:=by simpa using c2
  clear c2 c0 c1
  go_enter Try.func27,Try.ntmps27
  go_wp2
  go_ret
  exact ⟨by rw [HD.out];rfl,HB2.out⟩
 have g2:(d == d')=true:=by simpa using c2
 by_cases c3:e=e'
 rotate_left
 ·have HD:Hid (decide ((⟨op,bop,d,e,a,b,f,cell,imm,args,nx,el⟩:Nd)=(⟨op',bop',d',e',a',b',f',cell',imm',args',nx',el'⟩:Nd))=false):=Lib.hid (decide_eq_false fun h=>c3 (congrArg Nd.e h))
  have g3:(e == e')=false:=by simpa using c3
  clear c3 c0 c1 c2
  go_enter Try.func27,Try.ntmps27
  go_wp2
  go_ret
  exact ⟨by rw [HD.out];rfl,HB2.out⟩
 have g3:(e == e')=true:=by simpa using c3
 by_cases c4:a=a'
 rotate_left
 ·have HD:Hid (decide ((⟨op,bop,d,e,a,b,f,cell,imm,args,nx,el⟩:Nd)=(⟨op',bop',d',e',a',b',f',cell',imm',args',nx',el'⟩:Nd))=false):=Lib.hid (decide_eq_false fun h=>c4 (congrArg Nd.a h))
  have g4:(a == a')=false:=by simpa using c4
  clear c4 c0 c1 c2 c3
  go_enter Try.func27,Try.ntmps27
  go_wp2
  go_ret
  exact ⟨by rw [HD.out];rfl,HB2.out⟩
 have g4:(a == a')=true:=by simpa using c4
 by_cases c5:b=b'
 rotate_left
 ·have HD:Hid (decide ((⟨op,bop,d,e,a,b,f,cell,imm,args,nx,el⟩:Nd)=(⟨op',bop',d',e',a',b',f',cell',imm',args',nx',el'⟩:Nd))=false):=Lib.hid (decide_eq_false fun h=>c5 (congrArg Nd.b h))
  have g5:(b == b')=false:=by simpa using c5
  clear c5 c0 c1 c2 c3 c4
  go_enter Try.func27,Try.ntmps27
  go_wp2
  go_ret
  exact ⟨by rw [HD.out];rfl,HB2.out⟩
 have g5:(b == b')=true:=by simpa using c5
 by_cases c6:f=f'
 rotate_left
 ·have HD:Hid (decide ((⟨op,bop,d,e,a,b,f,cell,imm,args,nx,el⟩:Nd)=(⟨op',bop',d',e',a',b',f',cell',imm',args',nx',el'⟩:Nd))=false):=Lib.hid (decide_eq_false fun h=>c6 (congrArg Nd.f h))
  have g6:(f == f')=false:=by simpa using c6
  clear c6 c0 c1 c2 c3 c4 c5
  go_enter Try.func27,Try.ntmps27
  go_wp2
  go_ret
  exact ⟨by rw [HD.out];rfl,HB2.out⟩
 have g6:(f == f')=true:=by simpa using c6
 by_cases c7:cell=cell'
 rotate_left
 ·have HD:Hid (decide ((⟨op,bop,d,e,a,b,f,cell,imm,args,nx,el⟩:Nd)=(⟨op',bop',d',e',a',b',f',cell',imm',args',nx',el'⟩:Nd))=false):=Lib.hid (decide_eq_false fun h=>c7 (congrArg Nd.cell h))
  have g7:(cell == cell')=false:=by simpa using c7
  clear c7 c0 c1 c2 c3 c4 c5 c6
  go_enter Try.func27,Try.ntmps27
  go_wp2
  go_ret
  exact ⟨by rw [HD.out];rfl,HB2.out⟩
 have g7:(cell == cell')=true:=by simpa using c7
 by_cases c8:imm=imm'
 rotate_left
 ·have HD:Hid (decide ((⟨op,bop,d,e,a,b,f,cell,imm,args,nx,el⟩:Nd)=(⟨op',bop',d',e',a',b',f',cell',imm',args',nx',el'⟩:Nd))=false):=Lib.hid (decide_eq_false fun h=>c8 (congrArg Nd.imm h))
  have g8:(imm == imm')=false:=by simpa using c8
  clear c8 c0 c1 c2 c3 c4 c5 c6 c7
  go_enter Try.func27,Try.ntmps27
  go_wp2
  go_ret
  exact ⟨by rw [HD.out];rfl,HB2.out⟩
 have g8:(imm == imm')=true:=by simpa using c8
 by_cases c10:nx=nx'
 rotate_left
 ·have HD:Hid (decide ((⟨op,bop,d,e,a,b,f,cell,imm,args,nx,el⟩:Nd)=(⟨op',bop',d',e',a',b',f',cell',imm',args',nx',el'⟩:Nd))=false):=Lib.hid (decide_eq_false fun h=>c10 (congrArg Nd.next h))
  have g10:(nx == nx')=false:=by simpa using c10
  clear c10 c0 c1 c2 c3 c4 c5 c6 c7 c8
  go_enter Try.func27,Try.ntmps27
  go_wp2
  go_ret
  exact ⟨by rw [HD.out];rfl,HB2.out⟩
 have g10:(nx == nx')=true:=by simpa using c10
 by_cases c11:el=el'
 rotate_left
 ·have HD:Hid (decide ((⟨op,bop,d,e,a,b,f,cell,imm,args,nx,el⟩:Nd)=(⟨op',bop',d',e',a',b',f',cell',imm',args',nx',el'⟩:Nd))=false):=Lib.hid (decide_eq_false fun h=>c11 (congrArg Nd.els h))
  have g11:(el == el')=false:=by simpa using c11
  clear c11 c0 c1 c2 c3 c4 c5 c6 c7 c8 c10
  go_enter Try.func27,Try.ntmps27
  go_wp2
  go_ret
  exact ⟨by rw [HD.out];rfl,HB2.out⟩
 have g11:(el == el')=true:=by simpa using c11
 by_cases c9:args=args'
 rotate_left
 ·have HD:Hid (decide ((⟨op,bop,d,e,a,b,f,cell,imm,args,nx,el⟩:Nd)=(⟨op',bop',d',e',a',b',f',cell',imm',args',nx',el'⟩:Nd))=false):=Lib.hid (decide_eq_false fun h=>c9 (congrArg Nd.args h))
  have HQ:Hid (decide (args=args')=false):=Lib.hid (decide_eq_false c9)
  clear c9 c0 c1 c2 c3 c4 c5 c6 c7 c8 c10 c11
  go_enter Try.func27,Try.ntmps27
  go_wp2_with (first | (go_at_call 25;refine (rsi_any B ao ao' nA nA' ac ac' args args' _ HR.out HR'.out HL.out HL'.out hb hb').mono ?_;rintro ee w2 ⟨rfl,q,rfl⟩;rw [HQ.out]))
  go_ret
  exact ⟨by rw [HD.out];rfl,below_drewN HB2.out q⟩
 have HQ:Hid (decide (args=args')=true):=Lib.hid (decide_eq_true c9)
 have HD:Hid (decide ((⟨op,bop,d,e,a,b,f,cell,imm,args,nx,el⟩:Nd)=(⟨op',bop',d',e',a',b',f',cell',imm',args',nx',el'⟩:Nd))=true):=Lib.hid (decide_eq_true (by rw [c0,c1,c2,c3,c4,c5,c6,c7,c8,c9,c10,c11]))
 clear c0 c1 c2 c3 c4 c5 c6 c7 c8 c9 c10 c11
 go_enter Try.func27,Try.ntmps27
 go_wp2_with (first | (go_at_call 25;refine (rsi_any B ao ao' nA nA' ac ac' args args' _ HR.out HR'.out HL.out HL'.out hb hb').mono ?_;rintro ee w2 ⟨rfl,q,rfl⟩;rw [HQ.out]))
 go_ret
 exact ⟨by rw [HD.out];rfl,below_drewN HB2.out q⟩
theorem take_one {α:Type} {l:List α} {k:Nat} {x:α} (h:l[k]?=some x):l.take (k+1)=l.take k ++ [x]:=by
 rw [List.take_add_one,h];rfl
theorem gr_ext {r s:Gr} (c0:r.params=s.params) (c1:r.kinds=s.kinds) (c2:r.cells=s.cells) (c3:r.init=s.init) (c4:r.result=s.result) (c5:r.keep=s.keep) (c6:r.nodes=s.nodes) (c7:r.entry=s.entry):r=s:=by
 cases r;cases s;simp only [Gr.mk.injEq];exact ⟨c0,c1,c2,c3,c4,c5,c6,c7⟩
theorem rsn_rn (B:Nat) (i j:RN) (w:World) (h:RdN w B i) (h':RdN w B j) (hw:WfN i.nd) (hw':WfN j.nd) (hB:B≤w.heap.size) :
  Calls Try.prog 27 #[.agg #[.int .u8 i.nd.op,.int .u8 i.nd.bop,.int .i64 i.nd.d,.int .i64 i.nd.e,.int .i64 i.nd.a,.int .i64 i.nd.b,.int .i64 i.nd.f,.int .i64 i.nd.cell,.int .u64 i.nd.imm,.slice i.ao i.nd.args.length i.ac,.int .i64 i.nd.next,.int .i64 i.nd.els],.agg #[.int .u8 j.nd.op,.int .u8 j.nd.bop,.int .i64 j.nd.d,.int .i64 j.nd.e,.int .i64 j.nd.a,.int .i64 j.nd.b,.int .i64 j.nd.f,.int .i64 j.nd.cell,.int .u64 j.nd.imm,.slice j.ao j.nd.args.length j.ac,.int .i64 j.nd.next,.int .i64 j.nd.els]] w fun e w'=>e=.returned (.bool (decide (i.nd=j.nd)))∧Below w.heap.size w w' :=
 rsn_any B _ _ _ _ _ _ _ _ _ _ _ _ _ _ _ _ _ _ _ _ _ _ _ _ _ _ _ _ _ _ w h.args rfl (by have:=hw.al;omega) h'.args rfl (by have:=hw'.al;omega) hB

theorem below_two (w:World) (t u:TypeId) (cs ds:Array Value):Below w.heap.size w ((w.alloc (.cells cs t)).alloc (.cells ds u)).drew:=(((Below.refl _ _).alloc (Nat.le_refl _) _).alloc (by simp) _).drew
theorem rsame_any (B:Nat) (ao bo:Option Addr) (n m c d:Nat) (ra rb:List RG) (w:World) (ha:RdP w B ao n ra) (hb:RdP w B bo m rb) (hB:B≤w.heap.size) :
  Calls Try.prog 13 #[.agg #[.slice ao n c],.agg #[.slice bo m d]] w fun e w'=>e=.returned (.bool (decide (grs ra=grs rb)))∧Below w.heap.size w w':=by
 have HA:=Lib.hid ha
 have HB:=Lib.hid hb
 have s1:=ha.sz
 have s2:=hb.sz
 have HN:Hid ((grs ra).length=n):=Lib.hid (by rw [length_grs,ha.len])
 have HM:Hid ((grs rb).length=m):=Lib.hid (by rw [length_grs,hb.len])
 have HW0:Hid (Below w.heap.size w ((w.alloc (.cells #[.slice ao n c] 29)).alloc (.cells #[.slice bo m d] 29))):=((Below.refl _ _).alloc (Nat.le_refl _) _).alloc (by simp) _
 have HX0:Hid (Blk ((w.alloc (.cells #[.slice ao n c] 29)).alloc (.cells #[.slice bo m d] 29)) w.heap.size 29 #[.slice ao n c]):=Lib.hid ((Blk.new w 29 #[.slice ao n c]).alloc _)
 have HY0:Hid (Blk ((w.alloc (.cells #[.slice ao n c] 29)).alloc (.cells #[.slice bo m d] 29)) (w.heap.size+1) 29 #[.slice bo m d]):=Lib.hid (blk_2nd w _ _ _ _)
 clear ha hb
 by_cases hgt:n≠m
 ·have hr:decide (grs ra=grs rb)=false:=eq_len (by rw [HN.out,HM.out];exact hgt)
  have HR:=Lib.hid hr
  clear hr
  go_enter Try.func13,Try.ntmps13
  go_wp2
  go_ret
  exact ⟨by rw [HR.out];rfl,HW0.out⟩
 ·obtain rfl:n=m:=by omega
  clear hgt
  go_enter Try.func13,Try.ntmps13
  go_wp2
  go_loopw [19] (fun i wr=>∃ k:Nat,k≤n∧i=.int .i64 k∧Hid ((grs rb).take k=(grs ra).take k)∧Hid (Below w.heap.size w wr)∧Hid (Blk wr w.heap.size 29 #[.slice ao n c])∧Hid (Blk wr (w.heap.size+1) 29 #[.slice bo n d])) (fun i _=>n-(intOf i).toNat)
  case atStart=>exact ⟨0,Nat.zero_le _,rfl,rfl,HW0,HX0,HY0⟩
  case round =>
   clear HX0 HY0 HW0
   obtain ⟨k,hk,rfl,HP,HW,HBX,HBY⟩:=hrel
   have hz:=HW.out.size
   have hz2:=HBY.out.lt
   by_cases hlt:k<n
   ·obtain ⟨b1,o1,r,rfl,hbk1,HX,HRF,HWF,x0,x1,x2,x3,x4,x5,x6,x7⟩:=(HA.out.below (HW.out.mono hB)).gr hlt
    obtain ⟨b2,o2,s,rfl,hbk2,HY,HRG,HWG,y0,y1,y2,y3,y4,y5,y6,y7⟩:=(HB.out.below (HW.out.mono hB)).gr hlt
    have hbr1:b1<wr.heap.size:=by omega
    have hbr2:b2<wr.heap.size:=by omega
    have d0:wr.cell? ⟨w.heap.size,0,none⟩=some (.slice (some ⟨b1,o1,none⟩) n c):=HBX.out.cell 0
    have d1:wr.cell? ⟨w.heap.size+1,0,none⟩=some (.slice (some ⟨b2,o2,none⟩) n d):=HBY.out.cell 0
    have b0:r.gr.params.length≤140737488351232:=by have:=HWF.out.pl;omega
    have b0':s.gr.params.length≤140737488351232:=by have:=HWG.out.pl;omega
    have b1l:=HWF.out.kl
    have b1l':=HWG.out.kl
    have b3:r.gr.init.length≤140737488351232:=by have:=HWF.out.il;omega
    have b3':s.gr.init.length≤140737488351232:=by have:=HWG.out.il;omega
    have b6:r.gr.nodes.length≤140737488351232:=by have:=HWF.out.nl;omega
    have b6':s.gr.nodes.length≤140737488351232:=by have:=HWG.out.nl;omega
    obtain ⟨nP,e0⟩:∃ x,r.gr.params.length=x:=⟨_,rfl⟩
    obtain ⟨nK,e1⟩:∃ x,r.gr.kinds.length=x:=⟨_,rfl⟩
    obtain ⟨nI,e3⟩:∃ x,r.gr.init.length=x:=⟨_,rfl⟩
    obtain ⟨nN,e6⟩:∃ x,r.gr.nodes.length=x:=⟨_,rfl⟩
    obtain ⟨nP',f0⟩:∃ x,s.gr.params.length=x:=⟨_,rfl⟩
    obtain ⟨nK',f1⟩:∃ x,s.gr.kinds.length=x:=⟨_,rfl⟩
    obtain ⟨nI',f3⟩:∃ x,s.gr.init.length=x:=⟨_,rfl⟩
    obtain ⟨nN',f6⟩:∃ x,s.gr.nodes.length=x:=⟨_,rfl⟩
    rw [e0] at b0 x0
    rw [e1] at b1l x1
    rw [e3] at b3 x3
    rw [e6] at b6 x6
    rw [f0] at b0' y0
    rw [f1] at b1l' y1
    rw [f3] at b3' y3
    rw [f6] at b6' y6
    have HE0:=Lib.hid e0
    have HE1:=Lib.hid e1
    have HE3:=Lib.hid e3
    have HE6:=Lib.hid e6
    have HF0:=Lib.hid f0
    have HF1:=Lib.hid f1
    have HF3:=Lib.hid f3
    have HF6:=Lib.hid f6
    clear e0 e1 e3 e6 f0 f1 f3 f6
    go_upto_region 6 with fail
    go_cut [6,7] (fun s6 s7 wx=>∃ q6 q7:Nat,s6=.pointer (some ⟨q6,0,none⟩)∧s7=.pointer (some ⟨q7,0,none⟩)∧Hid (Below wr.heap.size wr wx)∧Hid (Blk wx q6 45 #[.slice r.po nP r.pc,.slice r.ko nK r.kc,.int .i64 r.gr.cells,.slice r.io nI r.ic,.bool r.gr.result,.int .i64 r.gr.keep,.slice r.no nN r.nc,.int .i64 r.gr.entry]) ∧
     Hid (Blk wx q7 45 #[.slice s.po nP' s.pc,.slice s.ko nK' s.kc,.int .i64 s.gr.cells,.slice s.io nI' s.ic,.bool s.gr.result,.int .i64 s.gr.keep,.slice s.no nN' s.nc,.int .i64 s.gr.entry]))
    case first =>
     go_region_held3 (fun W=>W.cell? ⟨w.heap.size,0,none⟩=some (.slice (some ⟨b1,o1,none⟩) n c)∧W.cell? ⟨w.heap.size+1,0,none⟩=some (.slice (some ⟨b2,o2,none⟩) n d) ∧
      W.cell? ⟨b1,o1+k*8,none⟩=some (.slice r.po nP r.pc)∧W.cell? ⟨b1,o1+k*8+1,none⟩=some (.slice r.ko nK r.kc)∧W.cell? ⟨b1,o1+k*8+2,none⟩=some (.int .i64 r.gr.cells)∧W.cell? ⟨b1,o1+k*8+3,none⟩=some (.slice r.io nI r.ic)∧W.cell? ⟨b1,o1+k*8+4,none⟩=some (.bool r.gr.result)∧W.cell? ⟨b1,o1+k*8+5,none⟩=some (.int .i64 r.gr.keep)∧W.cell? ⟨b1,o1+k*8+6,none⟩=some (.slice r.no nN r.nc)∧W.cell? ⟨b1,o1+k*8+7,none⟩=some (.int .i64 r.gr.entry)∧W.cell? ⟨b2,o2+k*8,none⟩=some (.slice s.po nP' s.pc)∧W.cell? ⟨b2,o2+k*8+1,none⟩=some (.slice s.ko nK' s.kc)∧W.cell? ⟨b2,o2+k*8+2,none⟩=some (.int .i64 s.gr.cells)∧W.cell? ⟨b2,o2+k*8+3,none⟩=some (.slice s.io nI' s.ic)∧W.cell? ⟨b2,o2+k*8+4,none⟩=some (.bool s.gr.result)∧W.cell? ⟨b2,o2+k*8+5,none⟩=some (.int .i64 s.gr.keep)∧W.cell? ⟨b2,o2+k*8+6,none⟩=some (.slice s.no nN' s.nc)∧W.cell? ⟨b2,o2+k*8+7,none⟩=some (.int .i64 s.gr.entry))
      (first | go_keep) (fail)
     all_goals
      go_wp2
      go_meet
     case rel=>exact ⟨wr.heap.size,wr.heap.size+1,rfl,rfl,below_two _ _ _ _ _,(Blk.new wr _ _).alloc _,blk_2nd _ _ _ _ _⟩
     case rel=>exact ⟨wr.heap.size+1,wr.heap.size,rfl,rfl,below_two _ _ _ _ _,blk_2nd _ _ _ _ _,(Blk.new wr _ _).alloc _⟩
    case rest =>
     obtain ⟨q6,q7,rfl,rfl,HC,HQ6,HQ7⟩:=hcut
     have HWC:=Lib.hid (HW.out.trans (HC.out.mono hz))
     have HBX2:=Lib.hid (HBX.out.below HC.out HBX.out.lt)
     have HBY2:=Lib.hid (HBY.out.below HC.out HBY.out.lt)
     have HXK:Hid ((grs ra)[k]?=some r.gr):=Lib.hid (by unfold grs;rw [List.getElem?_map,HX.out];rfl)
     have HYK:Hid ((grs rb)[k]?=some s.gr):=Lib.hid (by unfold grs;rw [List.getElem?_map,HY.out];rfl)
     have HRF2:=Lib.hid (HRF.out.keep fun p hp=>HC.out.cell (p:=p) (by omega))
     have HRG2:=Lib.hid (HRG.out.keep fun p hp=>HC.out.cell (p:=p) (by omega))
     have HNE:Hid (r.gr≠s.gr→decide (grs ra=grs rb)=false):=fun h=>eq_at HXK.out HYK.out h
     have HRP:Hid (Reads wc B 1 r.po nP (i64c r.gr.params)):=Lib.hid (by rw [← HE0.out];exact HRF2.out.params)
     have HRK:Hid (Reads wc B 1 r.ko nK (u8c r.gr.kinds)):=Lib.hid (by rw [← HE1.out];exact HRF2.out.kinds)
     have HRI:Hid (Reads wc B 1 r.io nI (i64c r.gr.init)):=Lib.hid (by rw [← HE3.out];exact HRF2.out.init)
     have HRN:Hid (RdNs wc B r.no nN r.ns):=Lib.hid (by rw [← HE6.out];exact HRF2.out.nodes)
     have HSP:Hid (Reads wc B 1 s.po nP' (i64c s.gr.params)):=Lib.hid (by rw [← HF0.out];exact HRG2.out.params)
     have HSK:Hid (Reads wc B 1 s.ko nK' (u8c s.gr.kinds)):=Lib.hid (by rw [← HF1.out];exact HRG2.out.kinds)
     have HSI:Hid (Reads wc B 1 s.io nI' (i64c s.gr.init)):=Lib.hid (by rw [← HF3.out];exact HRG2.out.init)
     have HSN:Hid (RdNs wc B s.no nN' s.ns):=Lib.hid (by rw [← HF6.out];exact HRG2.out.nodes)
     have HNN:Hid (nds r.ns=r.gr.nodes):=HRF.out.nd
     have HNS:Hid (nds s.ns=s.gr.nodes):=HRG.out.nd
     obtain ⟨rb1,hrb1⟩:∃ b,r.gr.result=b:=⟨_,rfl⟩
     obtain ⟨rb2,hrb2⟩:∃ b,s.gr.result=b:=⟨_,rfl⟩
     have HRB1:=Lib.hid hrb1
     have HRB2:=Lib.hid hrb2
     rw [hrb1] at HQ6
     rw [hrb2] at HQ7
     clear x0 x1 x2 x3 x4 x5 x6 x7 y0 y1 y2 y3 y4 y5 y6 y7 d0 d1 hrb1 hrb2 HRF HRG HRF2 HRG2 HX HY
     have z0:wc.cell? ⟨q6,0,none⟩=some (.slice r.po nP r.pc):=HQ6.out.cell 0
     have z1:wc.cell? ⟨q6,1,none⟩=some (.slice r.ko nK r.kc):=HQ6.out.cell 1
     have z2:wc.cell? ⟨q6,2,none⟩=some (.int .i64 r.gr.cells):=HQ6.out.cell 2
     have z3:wc.cell? ⟨q6,3,none⟩=some (.slice r.io nI r.ic):=HQ6.out.cell 3
     have z4:wc.cell? ⟨q6,4,none⟩=some (.bool rb1):=HQ6.out.cell 4
     have z5:wc.cell? ⟨q6,5,none⟩=some (.int .i64 r.gr.keep):=HQ6.out.cell 5
     have z6:wc.cell? ⟨q6,6,none⟩=some (.slice r.no nN r.nc):=HQ6.out.cell 6
     have z7:wc.cell? ⟨q6,7,none⟩=some (.int .i64 r.gr.entry):=HQ6.out.cell 7
     have y0:wc.cell? ⟨q7,0,none⟩=some (.slice s.po nP' s.pc):=HQ7.out.cell 0
     have y1:wc.cell? ⟨q7,1,none⟩=some (.slice s.ko nK' s.kc):=HQ7.out.cell 1
     have y2:wc.cell? ⟨q7,2,none⟩=some (.int .i64 s.gr.cells):=HQ7.out.cell 2
     have y3:wc.cell? ⟨q7,3,none⟩=some (.slice s.io nI' s.ic):=HQ7.out.cell 3
     have y4:wc.cell? ⟨q7,4,none⟩=some (.bool rb2):=HQ7.out.cell 4
     have y5:wc.cell? ⟨q7,5,none⟩=some (.int .i64 s.gr.keep):=HQ7.out.cell 5
     have y6:wc.cell? ⟨q7,6,none⟩=some (.slice s.no nN' s.nc):=HQ7.out.cell 6
     have y7:wc.cell? ⟨q7,7,none⟩=some (.int .i64 s.gr.entry):=HQ7.out.cell 7
     by_cases c0:r.gr.params=s.gr.params
     rotate_left
     ·have HR:=Lib.hid (HNE.out fun h=>c0 (congrArg Gr.params h))
      have HQ0:Hid (decide (r.gr.params=s.gr.params)=false):=Lib.hid (by simpa using c0)
      clear c0
      go_wp2_with (first
      | (go_at_call 25;with_reducible refine (rsi_any B r.po s.po nP nP' r.pc s.pc r.gr.params s.gr.params _ (by with_unfolding_all exact HRP.out.keep fun _ _=>rfl) (by with_unfolding_all exact HSP.out.keep fun _ _=>rfl) HE0.out HF0.out b0 b0').mono ?_;rintro ee w2 ⟨rfl,q0,rfl⟩;rw [HQ0.out])
      | (go_at_call 26;with_reducible refine (rsk_any B r.ko s.ko nK nK' r.kc s.kc r.gr.kinds s.gr.kinds _ (by with_unfolding_all exact HRK.out.keep fun _ _=>rfl) (by with_unfolding_all exact HSK.out.keep fun _ _=>rfl) HE1.out HF1.out b1l b1l').mono ?_;rintro ee w2 ⟨rfl,q1,rfl⟩;rw [HQ1.out])
      | (go_at_call 25;with_reducible refine (rsi_any B r.io s.io nI nI' r.ic s.ic r.gr.init s.gr.init _ (by with_unfolding_all exact HRI.out.keep fun _ _=>rfl) (by with_unfolding_all exact HSI.out.keep fun _ _=>rfl) HE3.out HF3.out b3 b3').mono ?_;rintro ee w2 ⟨rfl,q3,rfl⟩;rw [HQ3.out]))
      go_ret
      exact ⟨by rw [HR.out];rfl,by first | exact HWC.out | exact below_drewN HWC.out _ | exact below_drewN (below_drewN HWC.out _) _ | exact below_drewN (below_drewN (below_drewN HWC.out _) _) _⟩
     have HQ0:Hid (decide (r.gr.params=s.gr.params)=true):=Lib.hid (by simpa using c0)
     by_cases c1:r.gr.kinds=s.gr.kinds
     rotate_left
     ·have HR:=Lib.hid (HNE.out fun h=>c1 (congrArg Gr.kinds h))
      have HQ1:Hid (decide (r.gr.kinds=s.gr.kinds)=false):=Lib.hid (by simpa using c1)
      clear c1 c0
      go_wp2_with (first
      | (go_at_call 25;with_reducible refine (rsi_any B r.po s.po nP nP' r.pc s.pc r.gr.params s.gr.params _ (by with_unfolding_all exact HRP.out.keep fun _ _=>rfl) (by with_unfolding_all exact HSP.out.keep fun _ _=>rfl) HE0.out HF0.out b0 b0').mono ?_;rintro ee w2 ⟨rfl,q0,rfl⟩;rw [HQ0.out])
      | (go_at_call 26;with_reducible refine (rsk_any B r.ko s.ko nK nK' r.kc s.kc r.gr.kinds s.gr.kinds _ (by with_unfolding_all exact HRK.out.keep fun _ _=>rfl) (by with_unfolding_all exact HSK.out.keep fun _ _=>rfl) HE1.out HF1.out b1l b1l').mono ?_;rintro ee w2 ⟨rfl,q1,rfl⟩;rw [HQ1.out])
      | (go_at_call 25;with_reducible refine (rsi_any B r.io s.io nI nI' r.ic s.ic r.gr.init s.gr.init _ (by with_unfolding_all exact HRI.out.keep fun _ _=>rfl) (by with_unfolding_all exact HSI.out.keep fun _ _=>rfl) HE3.out HF3.out b3 b3').mono ?_;rintro ee w2 ⟨rfl,q3,rfl⟩;rw [HQ3.out]))
      go_ret
      exact ⟨by rw [HR.out];rfl,by first | exact HWC.out | exact below_drewN HWC.out _ | exact below_drewN (below_drewN HWC.out _) _ | exact below_drewN (below_drewN (below_drewN HWC.out _) _) _⟩
     have HQ1:Hid (decide (r.gr.kinds=s.gr.kinds)=true):=Lib.hid (by simpa using c1)
     by_cases c2:r.gr.cells=s.gr.cells
     rotate_left
     ·have HR:=Lib.hid (HNE.out fun h=>c2 (congrArg Gr.cells h))
      have g2:(r.gr.cells != s.gr.cells)=true:=by simpa using c2
      clear c2 c0 c1
      go_wp2_with (first
      | (go_at_call 25;with_reducible refine (rsi_any B r.po s.po nP nP' r.pc s.pc r.gr.params s.gr.params _ (by with_unfolding_all exact HRP.out.keep fun _ _=>rfl) (by with_unfolding_all exact HSP.out.keep fun _ _=>rfl) HE0.out HF0.out b0 b0').mono ?_;rintro ee w2 ⟨rfl,q0,rfl⟩;rw [HQ0.out])
      | (go_at_call 26;with_reducible refine (rsk_any B r.ko s.ko nK nK' r.kc s.kc r.gr.kinds s.gr.kinds _ (by with_unfolding_all exact HRK.out.keep fun _ _=>rfl) (by with_unfolding_all exact HSK.out.keep fun _ _=>rfl) HE1.out HF1.out b1l b1l').mono ?_;rintro ee w2 ⟨rfl,q1,rfl⟩;rw [HQ1.out])
      | (go_at_call 25;with_reducible refine (rsi_any B r.io s.io nI nI' r.ic s.ic r.gr.init s.gr.init _ (by with_unfolding_all exact HRI.out.keep fun _ _=>rfl) (by with_unfolding_all exact HSI.out.keep fun _ _=>rfl) HE3.out HF3.out b3 b3').mono ?_;rintro ee w2 ⟨rfl,q3,rfl⟩;rw [HQ3.out]))
      go_ret
      exact ⟨by rw [HR.out];rfl,by first | exact HWC.out | exact below_drewN HWC.out _ | exact below_drewN (below_drewN HWC.out _) _ | exact below_drewN (below_drewN (below_drewN HWC.out _) _) _⟩
     have g2:(r.gr.cells != s.gr.cells)=false:=by simpa using c2
     by_cases c3:r.gr.init=s.gr.init
     rotate_left
     ·have HR:=Lib.hid (HNE.out fun h=>c3 (congrArg Gr.init h))
      have HQ3:Hid (decide (r.gr.init=s.gr.init)=false):=Lib.hid (by simpa using c3)
      clear c3 c0 c1 c2
      go_wp2_with (first
      | (go_at_call 25;with_reducible refine (rsi_any B r.po s.po nP nP' r.pc s.pc r.gr.params s.gr.params _ (by with_unfolding_all exact HRP.out.keep fun _ _=>rfl) (by with_unfolding_all exact HSP.out.keep fun _ _=>rfl) HE0.out HF0.out b0 b0').mono ?_;rintro ee w2 ⟨rfl,q0,rfl⟩;rw [HQ0.out])
      | (go_at_call 26;with_reducible refine (rsk_any B r.ko s.ko nK nK' r.kc s.kc r.gr.kinds s.gr.kinds _ (by with_unfolding_all exact HRK.out.keep fun _ _=>rfl) (by with_unfolding_all exact HSK.out.keep fun _ _=>rfl) HE1.out HF1.out b1l b1l').mono ?_;rintro ee w2 ⟨rfl,q1,rfl⟩;rw [HQ1.out])
      | (go_at_call 25;with_reducible refine (rsi_any B r.io s.io nI nI' r.ic s.ic r.gr.init s.gr.init _ (by with_unfolding_all exact HRI.out.keep fun _ _=>rfl) (by with_unfolding_all exact HSI.out.keep fun _ _=>rfl) HE3.out HF3.out b3 b3').mono ?_;rintro ee w2 ⟨rfl,q3,rfl⟩;rw [HQ3.out]))
      go_ret
      exact ⟨by rw [HR.out];rfl,by first | exact HWC.out | exact below_drewN HWC.out _ | exact below_drewN (below_drewN HWC.out _) _ | exact below_drewN (below_drewN (below_drewN HWC.out _) _) _⟩
     have HQ3:Hid (decide (r.gr.init=s.gr.init)=true):=Lib.hid (by simpa using c3)
     by_cases c4:rb1=rb2
     rotate_left
     ·have HR:=Lib.hid (HNE.out fun h=>c4 (by rw [← HRB1.out,← HRB2.out,h]))
      have HC4:=Lib.hid c4
      clear c4 c0 c1 c2 c3
      cases rb1 <;> cases rb2
      ·exact absurd rfl HC4.out
      rotate_right
      ·exact absurd rfl HC4.out
      all_goals
       go_wp2_with (first
      | (go_at_call 25;with_reducible refine (rsi_any B r.po s.po nP nP' r.pc s.pc r.gr.params s.gr.params _ (by with_unfolding_all exact HRP.out.keep fun _ _=>rfl) (by with_unfolding_all exact HSP.out.keep fun _ _=>rfl) HE0.out HF0.out b0 b0').mono ?_;rintro ee w2 ⟨rfl,q0,rfl⟩;rw [HQ0.out])
      | (go_at_call 26;with_reducible refine (rsk_any B r.ko s.ko nK nK' r.kc s.kc r.gr.kinds s.gr.kinds _ (by with_unfolding_all exact HRK.out.keep fun _ _=>rfl) (by with_unfolding_all exact HSK.out.keep fun _ _=>rfl) HE1.out HF1.out b1l b1l').mono ?_;rintro ee w2 ⟨rfl,q1,rfl⟩;rw [HQ1.out])
      | (go_at_call 25;with_reducible refine (rsi_any B r.io s.io nI nI' r.ic s.ic r.gr.init s.gr.init _ (by with_unfolding_all exact HRI.out.keep fun _ _=>rfl) (by with_unfolding_all exact HSI.out.keep fun _ _=>rfl) HE3.out HF3.out b3 b3').mono ?_;rintro ee w2 ⟨rfl,q3,rfl⟩;rw [HQ3.out]))
       go_ret
       exact ⟨by rw [HR.out];rfl,by first | exact HWC.out | exact below_drewN HWC.out _ | exact below_drewN (below_drewN HWC.out _) _ | exact below_drewN (below_drewN (below_drewN HWC.out _) _) _⟩
     subst c4
     have g4:(rb1 != rb1)=false:=by simp
     by_cases c5:r.gr.keep=s.gr.keep
     rotate_left
     ·have HR:=Lib.hid (HNE.out fun h=>c5 (congrArg Gr.keep h))
      have g5:(r.gr.keep != s.gr.keep)=true:=by simpa using c5
      clear c5 c0 c1 c2 c3
      go_wp2_with (first
      | (go_at_call 25;with_reducible refine (rsi_any B r.po s.po nP nP' r.pc s.pc r.gr.params s.gr.params _ (by with_unfolding_all exact HRP.out.keep fun _ _=>rfl) (by with_unfolding_all exact HSP.out.keep fun _ _=>rfl) HE0.out HF0.out b0 b0').mono ?_;rintro ee w2 ⟨rfl,q0,rfl⟩;rw [HQ0.out])
      | (go_at_call 26;with_reducible refine (rsk_any B r.ko s.ko nK nK' r.kc s.kc r.gr.kinds s.gr.kinds _ (by with_unfolding_all exact HRK.out.keep fun _ _=>rfl) (by with_unfolding_all exact HSK.out.keep fun _ _=>rfl) HE1.out HF1.out b1l b1l').mono ?_;rintro ee w2 ⟨rfl,q1,rfl⟩;rw [HQ1.out])
      | (go_at_call 25;with_reducible refine (rsi_any B r.io s.io nI nI' r.ic s.ic r.gr.init s.gr.init _ (by with_unfolding_all exact HRI.out.keep fun _ _=>rfl) (by with_unfolding_all exact HSI.out.keep fun _ _=>rfl) HE3.out HF3.out b3 b3').mono ?_;rintro ee w2 ⟨rfl,q3,rfl⟩;rw [HQ3.out]))
      go_ret
      exact ⟨by rw [HR.out];rfl,by first | exact HWC.out | exact below_drewN HWC.out _ | exact below_drewN (below_drewN HWC.out _) _ | exact below_drewN (below_drewN (below_drewN HWC.out _) _) _⟩
     have g5:(r.gr.keep != s.gr.keep)=false:=by simpa using c5
     by_cases c7:r.gr.entry=s.gr.entry
     rotate_left
     ·have HR:=Lib.hid (HNE.out fun h=>c7 (congrArg Gr.entry h))
      have g7:(r.gr.entry != s.gr.entry)=true:=by simpa using c7
      clear c7 c0 c1 c2 c3 c5
      go_wp2_with (first
      | (go_at_call 25;with_reducible refine (rsi_any B r.po s.po nP nP' r.pc s.pc r.gr.params s.gr.params _ (by with_unfolding_all exact HRP.out.keep fun _ _=>rfl) (by with_unfolding_all exact HSP.out.keep fun _ _=>rfl) HE0.out HF0.out b0 b0').mono ?_;rintro ee w2 ⟨rfl,q0,rfl⟩;rw [HQ0.out])
      | (go_at_call 26;with_reducible refine (rsk_any B r.ko s.ko nK nK' r.kc s.kc r.gr.kinds s.gr.kinds _ (by with_unfolding_all exact HRK.out.keep fun _ _=>rfl) (by with_unfolding_all exact HSK.out.keep fun _ _=>rfl) HE1.out HF1.out b1l b1l').mono ?_;rintro ee w2 ⟨rfl,q1,rfl⟩;rw [HQ1.out])
      | (go_at_call 25;with_reducible refine (rsi_any B r.io s.io nI nI' r.ic s.ic r.gr.init s.gr.init _ (by with_unfolding_all exact HRI.out.keep fun _ _=>rfl) (by with_unfolding_all exact HSI.out.keep fun _ _=>rfl) HE3.out HF3.out b3 b3').mono ?_;rintro ee w2 ⟨rfl,q3,rfl⟩;rw [HQ3.out]))
      go_ret
      exact ⟨by rw [HR.out];rfl,by first | exact HWC.out | exact below_drewN HWC.out _ | exact below_drewN (below_drewN HWC.out _) _ | exact below_drewN (below_drewN (below_drewN HWC.out _) _) _⟩
     have g7:(r.gr.entry != s.gr.entry)=false:=by simpa using c7
     by_cases c6:nN=nN'
     rotate_left
     ·have HR:=Lib.hid (HNE.out fun h=>c6 (by rw [← HE6.out,← HF6.out];exact congrArg (fun g:Gr=>g.nodes.length) h))
      have g6:(nN != nN')=true:=by simpa using c6
      clear c6 c0 c1 c2 c3 c5 c7
      go_wp2_with (first
      | (go_at_call 25;with_reducible refine (rsi_any B r.po s.po nP nP' r.pc s.pc r.gr.params s.gr.params _ (by with_unfolding_all exact HRP.out.keep fun _ _=>rfl) (by with_unfolding_all exact HSP.out.keep fun _ _=>rfl) HE0.out HF0.out b0 b0').mono ?_;rintro ee w2 ⟨rfl,q0,rfl⟩;rw [HQ0.out])
      | (go_at_call 26;with_reducible refine (rsk_any B r.ko s.ko nK nK' r.kc s.kc r.gr.kinds s.gr.kinds _ (by with_unfolding_all exact HRK.out.keep fun _ _=>rfl) (by with_unfolding_all exact HSK.out.keep fun _ _=>rfl) HE1.out HF1.out b1l b1l').mono ?_;rintro ee w2 ⟨rfl,q1,rfl⟩;rw [HQ1.out])
      | (go_at_call 25;with_reducible refine (rsi_any B r.io s.io nI nI' r.ic s.ic r.gr.init s.gr.init _ (by with_unfolding_all exact HRI.out.keep fun _ _=>rfl) (by with_unfolding_all exact HSI.out.keep fun _ _=>rfl) HE3.out HF3.out b3 b3').mono ?_;rintro ee w2 ⟨rfl,q3,rfl⟩;rw [HQ3.out]))
      go_ret
      exact ⟨by rw [HR.out];rfl,by first | exact HWC.out | exact below_drewN HWC.out _ | exact below_drewN (below_drewN HWC.out _) _ | exact below_drewN (below_drewN (below_drewN HWC.out _) _) _⟩
     subst c6
     have g6:(nN != nN)=false:=by simp
     have HGR:Hid (nds r.ns=nds s.ns→r.gr=s.gr):=Lib.hid fun h=>gr_ext c0 c1 c2 c3 (by rw [HRB1.out,HRB2.out]) c5 (by rw [← HNN.out,← HNS.out,h]) c7
     have HNL:Hid ((nds r.ns).length=nN):=Lib.hid (by rw [HNN.out,HE6.out])
     have HNL':Hid ((nds s.ns).length=nN):=Lib.hid (by rw [HNS.out,HF6.out])
     clear c0 c1 c2 c3 c5 c7
     go_wp2_with (first
      | (go_at_call 25;with_reducible refine (rsi_any B r.po s.po nP nP' r.pc s.pc r.gr.params s.gr.params _ (by with_unfolding_all exact HRP.out.keep fun _ _=>rfl) (by with_unfolding_all exact HSP.out.keep fun _ _=>rfl) HE0.out HF0.out b0 b0').mono ?_;rintro ee w2 ⟨rfl,q0,rfl⟩;rw [HQ0.out])
      | (go_at_call 26;with_reducible refine (rsk_any B r.ko s.ko nK nK' r.kc s.kc r.gr.kinds s.gr.kinds _ (by with_unfolding_all exact HRK.out.keep fun _ _=>rfl) (by with_unfolding_all exact HSK.out.keep fun _ _=>rfl) HE1.out HF1.out b1l b1l').mono ?_;rintro ee w2 ⟨rfl,q1,rfl⟩;rw [HQ1.out])
      | (go_at_call 25;with_reducible refine (rsi_any B r.io s.io nI nI' r.ic s.ic r.gr.init s.gr.init _ (by with_unfolding_all exact HRI.out.keep fun _ _=>rfl) (by with_unfolding_all exact HSI.out.keep fun _ _=>rfl) HE3.out HF3.out b3 b3').mono ?_;rintro ee w2 ⟨rfl,q3,rfl⟩;rw [HQ3.out]))
     obtain ⟨wo,rfl⟩:∃ wo:World,wo=wr:=⟨_,rfl⟩
     go_loopw [94] (fun i wr=>∃ j:Nat,j≤nN∧i=.int .i64 j∧Hid ((nds s.ns).take j=(nds r.ns).take j)∧Hid (Below wc.heap.size wc wr)) (fun i _=>nN-(intOf i).toNat)
     case atStart=>exact ⟨0,Nat.zero_le _,rfl,rfl,by first | exact Below.refl _ _ | exact below_drewN (Below.refl _ _) _ | exact below_drewN (below_drewN (Below.refl _ _) _) _ | exact below_drewN (below_drewN (below_drewN (Below.refl _ _) _) _) _⟩
     case round =>
      clear z0 z1 z2 z3 z4 z5 z7 y0 y1 y2 y3 y4 y5 y7
      obtain ⟨j,hj,rfl,HPJ,HWJ⟩:=hrel
      have hcz:=HC.out.size
      have hwz:=HWJ.out.size
      have hq6:=HQ6.out.lt
      have hq7:=HQ7.out.lt
      by_cases hjl:j<nN
      ·obtain ⟨b3,o3,i,hlo,hbk3,HXJ,HI,HIW,u0,u1,u2,u3,u4,u5,u6,u7,u8,u9,u10,u11⟩:=(HRN.out.below (HWJ.out.mono (by omega))).nd hjl
       obtain ⟨b4,o4,l,hlo',hbk4,HYJ,HL,HLW,v0,v1,v2,v3,v4,v5,v6,v7,v8,v9,v10,v11⟩:=(HSN.out.below (HWJ.out.mono (by omega))).nd hjl
       have z6':wr.cell? ⟨q6,6,none⟩=some (.slice r.no nN r.nc):=(HWJ.out.cell (p:=⟨q6,6,none⟩) hq6).trans z6
       have y6':wr.cell? ⟨q7,6,none⟩=some (.slice s.no nN s.nc):=(HWJ.out.cell (p:=⟨q7,6,none⟩) hq7).trans y6
       rw [hlo] at z6'
       rw [hlo'] at y6'
       have HXN:Hid ((nds r.ns)[j]?=some i.nd):=Lib.hid (by unfold nds;rw [List.getElem?_map,HXJ.out];rfl)
       have HYN:Hid ((nds s.ns)[j]?=some l.nd):=Lib.hid (by unfold nds;rw [List.getElem?_map,HYJ.out];rfl)
       have hBw:B≤wr.heap.size:=by omega
       have HLO:=Lib.hid hlo
       have HLO':=Lib.hid hlo'
       clear hlo hlo'
       by_cases hxy:i.nd=l.nd
       ·have HD:Hid (decide (i.nd=l.nd)=true):=Lib.hid (by simpa using hxy)
        have HT:Hid ((nds s.ns).take (j+1)=(nds r.ns).take (j+1)):=Lib.hid (by rw [take_one HXN.out,take_one HYN.out,HPJ.out,hxy])
        clear hxy
        go_wp2
        go_still_tail 10,(by kernel_rfl)
        change wpList _ _ _ _ _ wr.drew
        go_wp2_with (first | (go_at_call 27;refine (rsn_rn B i l _ (by with_unfolding_all exact HI.out.keep fun _ _=>rfl) (by with_unfolding_all exact HL.out.keep fun _ _=>rfl) HIW.out HLW.out (by with_unfolding_all exact hBw)).mono ?_;rintro e w2 ⟨rfl,hb2⟩;have HB2:Hid (Below wr.heap.size wr w2):=Lib.hid (by first | exact hb2 | exact (Below.refl _ _).drew.trans hb2 | exact (below_drewN (Below.refl _ _) _).trans hb2);clear hb2;rw [HD.out]))
        go_roundw
        case rel=>exact ⟨j+1,by omega,by go_num,HT,by first | exact HWJ.out.trans (HB2.out.mono hwz) | exact below_drewN (HWJ.out.trans (HB2.out.mono hwz)) _⟩
        case measure=>simp [intOf];omega
       ·have HD:Hid (decide (i.nd=l.nd)=false):=Lib.hid (by simpa using hxy)
        have HR:=Lib.hid (HNE.out fun h=>hxy (by
         have h2:nds r.ns=nds s.ns:=by rw [HNN.out,HNS.out,h]
         have h3:=HXN.out
         rw [h2,HYN.out] at h3
         exact (by simpa using h3.symm)))
        clear hxy
        go_wp2
        go_still_tail 10,(by kernel_rfl)
        change wpList _ _ _ _ _ wr.drew
        go_wp2_with (first | (go_at_call 27;refine (rsn_rn B i l _ (by with_unfolding_all exact HI.out.keep fun _ _=>rfl) (by with_unfolding_all exact HL.out.keep fun _ _=>rfl) HIW.out HLW.out (by with_unfolding_all exact hBw)).mono ?_;rintro e w2 ⟨rfl,hb2⟩;have HB2:Hid (Below wr.heap.size wr w2):=Lib.hid (by first | exact hb2 | exact (Below.refl _ _).drew.trans hb2 | exact (below_drewN (Below.refl _ _) _).trans hb2);clear hb2;rw [HD.out]))
        go_ret
        exact ⟨by rw [HR.out];rfl,by first | exact HWC.out.trans ((HWJ.out.trans (HB2.out.mono hwz)).mono (by omega)) | exact below_drewN (HWC.out.trans ((HWJ.out.trans (HB2.out.mono hwz)).mono (by omega))) _⟩
      ·obtain rfl:nN=j:=by omega
       clear hjl hj
       have HRS:Hid (r.gr=s.gr):=Lib.hid (HGR.out (by
        have h:=HPJ.out
        rw [List.take_of_length_le (by rw [HNL'.out];omega),List.take_of_length_le (by rw [HNL.out];omega)] at h
        exact h.symm))
       have HT1:Hid ((grs rb).take (k+1)=(grs ra).take (k+1)):=Lib.hid (by rw [take_one HXK.out,take_one HYK.out,HP.out,HRS.out])
       have HBX3:=Lib.hid (HBX2.out.below HWJ.out HBX2.out.lt)
       have HBY3:=Lib.hid (HBY2.out.below HWJ.out HBY2.out.lt)
       have HWE:=Lib.hid (HWC.out.trans (HWJ.out.mono (by omega)))
       go_wp2
       go_roundw
       case rel=>exact ⟨k+1,by omega,by go_num,HT1,HWE,HBX3,HBY3⟩
       case measure=>simp [intOf];omega
   ·obtain rfl:n=k:=by omega
    have hr:decide (grs ra=grs rb)=true:=by
     have h:=HP.out
     rw [List.take_of_length_le (by rw [HM.out];omega),List.take_of_length_le (by rw [HN.out];omega)] at h
     rw [h];simp
    have HR:=Lib.hid hr
    clear hr
    go_wp2
    go_ret
    exact ⟨by rw [HR.out];rfl,HW.out⟩
end Go.Proofs.Ytgekmjkfnhogkaa
