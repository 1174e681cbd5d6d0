/-
  Texts of one seat, one behind the other: BGr0, BGra, BFac.
-/
import Derived.Deep.RegionLaw
import Derived.Deep.DeepCutAuto
import Derived.Test.YtgekmjkfnhogkaaMA7
import Derived.Test.YtgekmjkfnhogkaaMA40

set_option linter.unusedVariables false
set_option linter.unusedSimpArgs false
set_option maxRecDepth 100000
set_option maxHeartbeats 51200000
namespace Go.Proofs.Ytgekmjkfnhogkaa
open Go.ChangeShapes Go.WideShapes Go.ChangeAt Go.RowKit
structure GrP (W:World) (p3:Nat) (PA IA KA:Option Addr) (pc ic kc:Nat) (params init kinds:List Int) (cnt kp:Int) (res:Bool) (wr:World):Prop where
 out:Blk wr W.heap.size 45 #[.slice none 0 0,.slice none 0 0,.int .i64 0,.slice none 0 0,.bool false,.int .i64 0,.slice none 0 0,.int .i64 0]
 box:Blk wr p3 45 #[.slice PA params.length pc,.slice KA kinds.length kc,.int .i64 cnt,.slice IA init.length ic,.bool res,.int .i64 kp,.slice none 0 0,.int .i64 0]
 lp:W.heap.size<p3
 po:wr.ownsRow W.heap.size 3 1 (.slice PA params.length pc) params.length (i64c params)
 io:wr.ownsRow W.heap.size 3 1 (.slice IA init.length ic) init.length (i64c init)
 ko:wr.ownsRow W.heap.size 46 1 (.slice KA kinds.length kc) kinds.length (u8c kinds)
 dis:∀ g,(Value.slice PA params.length pc).ownBlock=some g→(Value.slice IA init.length ic).ownBlock≠some g
 below:Below W.heap.size W wr
section
variable {W wr w':World} {p3:Nat} {PA IA KA:Option Addr} {pc ic kc:Nat} {params init kinds:List Int} {cnt kp:Int} {res:Bool} {o:Obj} {v':Value} {x:Int}
theorem GrP.drew (h:GrP W p3 PA IA KA pc ic kc params init kinds cnt kp res wr):GrP W p3 PA IA KA pc ic kc params init kinds cnt kp res wr.drew:=⟨h.out.drew,h.box.drew,h.lp,h.po,h.io,h.ko,h.dis,h.below.drew⟩
theorem GrP.pushP (h:GrP W p3 PA IA KA pc ic kc params init kinds cnt kp res wr) (hown:w'.ownsRow W.heap.size 3 1 v' (params.length+1) (i64c params ++ [.int .i64 x])) (hg:(wr.alloc o).grownBy w' (Value.slice PA params.length pc).ownBlock) (hor:v'.ownBlock=(Value.slice PA params.length pc).ownBlock∨v'.ownBlock=some (wr.alloc o).heap.size) :
  ∃ A' c',v'=.slice A' (params.length+1) c'∧w'.frozen? ⟨p3,0,none⟩=false∧(∃ y,w'.cell? ⟨p3,0,none⟩=some y)∧Hid (GrP W p3 A' IA KA c' ic kc (params ++ [x]) init kinds cnt kp res (w'.setCell ⟨p3,0,none⟩ v')):=by
 obtain ⟨A',c',rfl⟩:=own_slice hown
 have ho:=own_alloc h.po o
 have hz:=h.below.size
 have hout:=blk_grown (h.out.alloc o) ho hg (by decide)
 have hbox:=blk_grown (h.box.alloc o) ho hg (by decide)
 have hb:Below W.heap.size W w':=(h.below.alloc hz o).grown hg (by simp;omega) fun g he=>(own_block_le ho he).1
 have lp:=h.lp
 have hio:w'.ownsRow W.heap.size 3 1 (.slice IA init.length ic) init.length (i64c init):=own_kept (own_alloc h.io o) fun g hgi=>hg.block g (own_block_le (own_alloc h.io o) hgi).2 fun e=>h.dis g e.symm hgi
 have hl:(params ++ [x]).length=params.length+1:=by simp
 refine ⟨A',c',rfl,hbox.frozen 0,⟨_,hbox.cell 0⟩,Lib.hid ⟨hout.far (p:=⟨p3,0,none⟩) (by show W.heap.size≠p3;omega) _,?_,lp,?_,own_far hio hbox (by decide) _ _,own_far (own_grown ho (own_alloc h.ko o) hg (by decide)) hbox (by decide) _ _,?_,hb.setCell (p:=⟨p3,0,none⟩) (by show W.heap.size≤p3;omega) _⟩⟩
 ·rw [hl]
  exact hbox.set_ 0 (.slice A' (params.length+1) c')
 ·rw [hl,i64c_append]
  exact own_far hown hbox (by decide) _ _
 ·intro g hga hgi
  rw [hl] at hga
  rcases hor with e | e
  ·exact h.dis g (by rw [← e];exact hga) hgi
  ·rw [e] at hga
   injection hga with hga
   have:=(own_block_le h.io hgi).2
   simp at hga
   omega
theorem GrP.pushI (h:GrP W p3 PA IA KA pc ic kc params init kinds cnt kp res wr) (hown:w'.ownsRow W.heap.size 3 1 v' (init.length+1) (i64c init ++ [.int .i64 x])) (hg:(wr.alloc o).grownBy w' (Value.slice IA init.length ic).ownBlock) (hor:v'.ownBlock=(Value.slice IA init.length ic).ownBlock∨v'.ownBlock=some (wr.alloc o).heap.size) :
  ∃ A' c',v'=.slice A' (init.length+1) c'∧w'.frozen? ⟨p3,3,none⟩=false∧(∃ y,w'.cell? ⟨p3,3,none⟩=some y)∧Hid (GrP W p3 PA A' KA pc c' kc params (init ++ [x]) kinds cnt kp res (w'.setCell ⟨p3,3,none⟩ v'))∧Hid (Below W.heap.size W w'):=by
 obtain ⟨A',c',rfl⟩:=own_slice hown
 have ho:=own_alloc h.io o
 have hz:=h.below.size
 have hout:=blk_grown (h.out.alloc o) ho hg (by decide)
 have hbox:=blk_grown (h.box.alloc o) ho hg (by decide)
 have hb:Below W.heap.size W w':=(h.below.alloc hz o).grown hg (by simp;omega) fun g he=>(own_block_le ho he).1
 have lp:=h.lp
 have hpo:w'.ownsRow W.heap.size 3 1 (.slice PA params.length pc) params.length (i64c params):=own_kept (own_alloc h.po o) fun g hgi=>hg.block g (own_block_le (own_alloc h.po o) hgi).2 fun e=>h.dis g hgi e.symm
 have hl:(init ++ [x]).length=init.length+1:=by simp
 refine ⟨A',c',rfl,hbox.frozen 3,⟨_,hbox.cell 3⟩,Lib.hid ⟨hout.far (p:=⟨p3,3,none⟩) (by show W.heap.size≠p3;omega) _,?_,lp,own_far hpo hbox (by decide) _ _,?_,own_far (own_grown ho (own_alloc h.ko o) hg (by decide)) hbox (by decide) _ _,?_,hb.setCell (p:=⟨p3,3,none⟩) (by show W.heap.size≤p3;omega) _⟩,Lib.hid hb⟩
 ·rw [hl]
  exact hbox.set_ 3 (.slice A' (init.length+1) c')
 ·rw [hl,i64c_append]
  exact own_far hown hbox (by decide) _ _
 ·intro g hga hgi
  rw [hl] at hgi
  rcases hor with e | e
  ·exact h.dis g hga (by rw [← e];exact hgi)
  ·rw [e] at hgi
   injection hgi with hgi
   have:=(own_block_le h.po hga).2
   simp at hgi
   omega
theorem GrP.keep (h:GrP W p3 PA IA KA pc ic kc params init kinds cnt kp res wr) (z:Int):GrP W p3 PA IA KA pc ic kc params init kinds cnt z res (wr.setCell ⟨p3,5,none⟩ (.int .i64 z)):=by
 have lp:=h.lp
 exact ⟨h.out.far (p:=⟨p3,5,none⟩) (by show W.heap.size≠p3;omega) _,h.box.set_ 5 (.int .i64 z),lp,own_far h.po h.box (by decide) _ _,own_far h.io h.box (by decide) _ _,own_far h.ko h.box (by decide) _ _,h.dis,h.below.setCell (p:=⟨p3,5,none⟩) (by show W.heap.size≤p3;omega) _⟩
end
structure GrN (W:World) (p3:Nat) (PA IA KA NA:Option Addr) (pc ic kc nc:Nat) (params init kinds:List Int) (cnt kp:Int) (res:Bool) (ns:List RN) (wr:World):Prop where
 out:Blk wr W.heap.size 45 #[.slice none 0 0,.slice none 0 0,.int .i64 0,.slice none 0 0,.bool false,.int .i64 0,.slice none 0 0,.int .i64 0]
 box:Blk wr p3 45 #[.slice PA params.length pc,.slice KA kinds.length kc,.int .i64 cnt,.slice IA init.length ic,.bool res,.int .i64 kp,.slice NA ns.length nc,.int .i64 0]
 lp:W.heap.size<p3
 po:wr.ownsRow W.heap.size 3 1 (.slice PA params.length pc) params.length (i64c params)
 io:wr.ownsRow W.heap.size 3 1 (.slice IA init.length ic) init.length (i64c init)
 ko:wr.ownsRow W.heap.size 46 1 (.slice KA kinds.length kc) kinds.length (u8c kinds)
 no:wr.ownsRow W.heap.size 70 12 (.slice NA ns.length nc) ns.length (rnc ns)
 ar:∀ i ∈ ns,wr.ownsRow W.heap.size 3 1 (.slice i.ao i.nd.args.length i.ac) i.nd.args.length (i64c i.nd.args)
 below:Below W.heap.size W wr
section
variable {W wr w':World} {p3:Nat} {PA IA KA NA:Option Addr} {pc ic kc nc:Nat} {params init kinds:List Int} {cnt kp:Int} {res:Bool} {ns:List RN} {o:Obj} {v':Value} {i:RN}
theorem GrP.nodes (h:GrP W p3 PA IA KA pc ic kc params init kinds cnt kp res wr):GrN W p3 PA IA KA none pc ic kc 0 params init kinds cnt kp res [] wr :=
 ⟨h.out,h.box,h.lp,h.po,h.io,h.ko,own_none _ _ _ _,(fun i hi=>by cases hi),h.below⟩
theorem GrN.on (h:GrN W p3 PA IA KA NA pc ic kc nc params init kinds cnt kp res ns wr) (hb:Below wr.heap.size wr w'):GrN W p3 PA IA KA NA pc ic kc nc params init kinds cnt kp res ns w' :=
 ⟨h.out.below hb h.out.lt,h.box.below hb h.box.lt,h.lp,own_below h.po hb,own_below h.io hb,own_below h.ko hb,own_below h.no hb,fun i hi=>own_below (h.ar i hi) hb,h.below.trans (hb.mono h.below.size)⟩
theorem GrN.push (h:GrN W p3 PA IA KA NA pc ic kc nc params init kinds cnt kp res ns wr) (ha:wr.ownsRow W.heap.size 3 1 (.slice i.ao i.nd.args.length i.ac) i.nd.args.length (i64c i.nd.args)) (hown:w'.ownsRow W.heap.size 70 12 v' (ns.length+1) (rnc ns ++ rnOne i)) (hg:(wr.alloc o).grownBy w' (Value.slice NA ns.length nc).ownBlock) :
  ∃ A' c',v'=.slice A' (ns.length+1) c'∧w'.frozen? ⟨p3,6,none⟩=false∧(∃ y,w'.cell? ⟨p3,6,none⟩=some y)∧Hid (GrN W p3 PA IA KA A' pc ic kc c' params init kinds cnt kp res (ns ++ [i]) (w'.setCell ⟨p3,6,none⟩ v')):=by
 obtain ⟨A',c',rfl⟩:=own_slice hown
 have ho:=own_alloc h.no o
 have hz:=h.below.size
 have hout:=blk_grown (h.out.alloc o) ho hg (by decide)
 have hbox:=blk_grown (h.box.alloc o) ho hg (by decide)
 have hb:Below W.heap.size W w':=(h.below.alloc hz o).grown hg (by simp;omega) fun g he=>(own_block_le ho he).1
 have lp:=h.lp
 have hl:(ns ++ [i]).length=ns.length+1:=by simp
 have gr:∀ {v:Value} {k:Nat} {e:TypeId} {s:Nat} {xs:List Value},wr.ownsRow W.heap.size e s v k xs→e≠70→e≠45→(w'.setCell ⟨p3,6,none⟩ (.slice A' (ns.length+1) c')).ownsRow W.heap.size e s v k xs:=fun hh h1 h2=>own_far (own_grown ho (own_alloc hh o) hg h1) hbox h2 _ _
 refine ⟨A',c',rfl,hbox.frozen 6,⟨_,hbox.cell 6⟩,Lib.hid ⟨hout.far (p:=⟨p3,6,none⟩) (by show W.heap.size≠p3;omega) _,?_,lp,gr h.po (by decide) (by decide),gr h.io (by decide) (by decide),gr h.ko (by decide) (by decide),?_,fun j hj=>?_,hb.setCell (p:=⟨p3,6,none⟩) (by show W.heap.size≤p3;omega) _⟩⟩
 ·rw [hl]
  exact hbox.set_ 6 (.slice A' (ns.length+1) c')
 ·rw [hl,rnc_append]
  have h1:=own_far hown hbox (by decide) 6 (.slice A' (ns.length+1) c')
  simpa [rnc] using h1
 ·rcases List.mem_append.1 hj with hj | hj
  ·exact gr (h.ar j hj) (by decide) (by decide)
  ·obtain rfl:j=i:=by simpa using hj
   exact gr ha (by decide) (by decide)
end
structure OwnB (w:World) (base:Nat) (r:RG):Prop where
 po:w.ownsRow base 3 1 (.slice r.po r.gr.params.length r.pc) r.gr.params.length (i64c r.gr.params)
 ko:w.ownsRow base 46 1 (.slice r.ko r.gr.kinds.length r.kc) r.gr.kinds.length (u8c r.gr.kinds)
 io:w.ownsRow base 3 1 (.slice r.io r.gr.init.length r.ic) r.gr.init.length (i64c r.gr.init)
 no:w.ownsRow base 70 12 (.slice r.no r.gr.nodes.length r.nc) r.gr.nodes.length (rnc r.ns)
 ar:∀ i ∈ r.ns,w.ownsRow base 3 1 (.slice i.ao i.nd.args.length i.ac) i.nd.args.length (i64c i.nd.args)
 nd:nds r.ns=r.gr.nodes
theorem OwnB.below {w w':World} {base:Nat} {r:RG} (h:OwnB w base r) (hb:Below w.heap.size w w'):OwnB w' base r:=⟨own_below h.po hb,own_below h.ko hb,own_below h.io hb,own_below h.no hb,fun i hi=>own_below (h.ar i hi) hb,h.nd⟩
theorem OwnB.more {w:World} {base base':Nat} {r:RG} (h:OwnB w base r) (hb:base'≤base):OwnB w base' r:=⟨own_more h.po hb,own_more h.ko hb,own_more h.io hb,own_more h.no hb,fun i hi=>own_more (h.ar i hi) hb,h.nd⟩
def GraphPost (W:World) (g:Gr) (e:Ending) (w':World):Prop:=∃ r:RG,r.gr=g∧e=.returned (.agg (rgOne r).toArray)∧OwnB w' W.heap.size r∧Below W.heap.size W w'
theorem GrN.ownG {W wr:World} {p3:Nat} {PA IA KA NA:Option Addr} {pc ic kc nc:Nat} {params init kinds:List Int} {cnt kp:Int} {res:Bool} {ns:List RN} (h:GrN W p3 PA IA KA NA pc ic kc nc params init kinds cnt kp res ns wr):OwnB wr W.heap.size ⟨⟨params,kinds,cnt,init,res,kp,nds ns,0⟩,PA,pc,KA,kc,IA,ic,NA,nc,ns⟩ :=
 ⟨h.po,h.ko,h.io,by show wr.ownsRow _ _ _ (.slice NA (nds ns).length nc) (nds ns).length _;rw [length_nds];exact h.no,h.ar,rfl⟩
structure BG (W:World) (bb:Nat) (fa:Option Addr) (n nc:Nat) (rs:List Q.Raw) (r:Q.Raw) (ca:Option Addr) (cc:Nat) (cells:List Int) (cnt:Nat) (na:Option Addr) (nnc:Nat) (nodes:List Int) (sb m ssc:Nat) (l:List (Option Q.Stk)):Prop where
 br:BR W W.heap.size bb fa n nc rs r ca cc cells
 c1:W.cell? ⟨bb,1,none⟩=some (.int .i64 r.fn.params)
 c4:W.cell? ⟨bb,4,none⟩=some (.int .i64 r.fn.keep)
 c5:W.cell? ⟨bb,5,none⟩=some (.slice r.co r.fn.code.length r.cc)
 c6:W.cell? ⟨bb,6,none⟩=some (.slice (some ⟨sb,0,none⟩) m ssc)
 c7:W.cell? ⟨bb,7,none⟩=some (.slice na nodes.length nnc)
 c9:W.cell? ⟨bb,9,none⟩=some (.int .i64 cnt)
 co:Reads W W.heap.size 3 r.co r.fn.code.length (Q.insc r.fn.code)
 sbl:sb<W.heap.size
 st:∀ (k:Nat) s,l[k]?=some (some s)→∃ SA sc,W.cell? ⟨sb,k,none⟩=some (.slice SA s.length sc)∧Reads W W.heap.size 1 SA s.length (u8c s)
 no:Reads W W.heap.size 1 na nodes.length (i64c nodes)
structure BGb (W:World) (B bb:Nat) (fa:Option Addr) (n nc:Nat) (rs:List Q.Raw) (r:Q.Raw) (ca:Option Addr) (cc:Nat) (cells:List Int) (cnt:Nat) (na:Option Addr) (nnc:Nat) (nodes:List Int) (sb m ssc:Nat) (l:List (Option Q.Stk)):Prop where
 br:BR W B bb fa n nc rs r ca cc cells
 c1:W.cell? ⟨bb,1,none⟩=some (.int .i64 r.fn.params)
 c4:W.cell? ⟨bb,4,none⟩=some (.int .i64 r.fn.keep)
 c5:W.cell? ⟨bb,5,none⟩=some (.slice r.co r.fn.code.length r.cc)
 c6:W.cell? ⟨bb,6,none⟩=some (.slice (some ⟨sb,0,none⟩) m ssc)
 c7:W.cell? ⟨bb,7,none⟩=some (.slice na nodes.length nnc)
 c9:W.cell? ⟨bb,9,none⟩=some (.int .i64 cnt)
 co:Reads W B 3 r.co r.fn.code.length (Q.insc r.fn.code)
 sbl:sb<B
 st:∀ (k:Nat) s,l[k]?=some (some s)→∃ SA sc,W.cell? ⟨sb,k,none⟩=some (.slice SA s.length sc)∧Reads W B 1 SA s.length (u8c s)
 no:Reads W B 1 na nodes.length (i64c nodes)
section
variable {W W':World} {B bb n nc cc cnt nnc sb m ssc:Nat} {fa ca na:Option Addr} {rs:List Q.Raw} {r:Q.Raw} {cells nodes:List Int} {l:List (Option Q.Stk)}
theorem BG.b (h:BG W bb fa n nc rs r ca cc cells cnt na nnc nodes sb m ssc l):BGb W W.heap.size bb fa n nc rs r ca cc cells cnt na nnc nodes sb m ssc l:=⟨h.br,h.c1,h.c4,h.c5,h.c6,h.c7,h.c9,h.co,h.sbl,h.st,h.no⟩
theorem BGb.below (h:BGb W B bb fa n nc rs r ca cc cells cnt na nnc nodes sb m ssc l) (hb:Below B W W'):BGb W' B bb fa n nc rs r ca cc cells cnt na nnc nodes sb m ssc l :=
 have k:∀ {i:Nat} {v:Value},W.cell? ⟨bb,i,none⟩=some v→W'.cell? ⟨bb,i,none⟩=some v:=fun hc=>(hb.cell (p:=⟨bb,_,none⟩) h.br.lt).trans hc
 ⟨h.br.below hb,k h.c1,k h.c4,k h.c5,k h.c6,k h.c7,k h.c9,h.co.below hb,h.sbl,fun j s hs=>by
  obtain ⟨SA,sc,h1,h2⟩:=h.st j s hs
  exact ⟨SA,sc,(hb.cell (p:=⟨sb,j,none⟩) h.sbl).trans h1,h2.below hb⟩,h.no.below hb⟩
end
structure GraphAsk (rs:List Q.Raw) (r:Q.Raw) (l:List (Option Q.Stk)) (np:Nat) (kp:Int):Prop where
 sol:Q.Sol (Q.fns rs) r.fn l
 okI:∀ i ∈ r.fn.code,Q.okI i=true
 ref:∀ i ∈ r.fn.code,Q.insRef (Q.fns rs) r.fn i=true
 par:ParOk rs
 loc:∀ x ∈ r.fn.locals,0≤x∧x≤255
 stk:∀ (k:Nat) s,l[k]?=some (some s)→s.length≤100000∧∀ x ∈ s,0≤x∧x≤255
 cod:r.fn.code.length≤256
 ll:r.fn.locals.length≤16
 npe:r.fn.params=np
 npl:np≤r.fn.locals.length
 kpo:r.fn.keep=-1∨∃ k:Nat,r.fn.keep=k∧k<r.fn.locals.length
 kpe:r.fn.keep=kp
def nodesK (fs:List Q.Fn) (f:Q.Fn) (l:List (Option Q.Stk)) (cells nodes:List Int) (k:Nat):List Nd:=(List.range k).filterMap fun k=>match l[k]?,f.code[k]? with
 | some (some s),some i=>some (nodeB fs f cells nodes k i s)
 | _,_=>none
theorem nodesK_none {fs:List Q.Fn} {f:Q.Fn} {l:List (Option Q.Stk)} {cells nodes:List Int} {k:Nat} (h:l[k]?=some none):nodesK fs f l cells nodes (k+1)=nodesK fs f l cells nodes k:=by
 unfold nodesK
 rw [List.range_succ,List.filterMap_append]
 simp [h]
theorem nodesK_some {fs:List Q.Fn} {f:Q.Fn} {l:List (Option Q.Stk)} {cells nodes:List Int} {k:Nat} {s:Q.Stk} {i:Q.Ins} (h:l[k]?=some (some s)) (hi:f.code[k]?=some i):nodesK fs f l cells nodes (k+1)=nodesK fs f l cells nodes k ++ [nodeB fs f cells nodes k i s]:=by
 unfold nodesK
 rw [List.range_succ,List.filterMap_append]
 simp [h,hi]
theorem nodesK_le (fs:List Q.Fn) (f:Q.Fn) (l:List (Option Q.Stk)) (cells nodes:List Int) (k:Nat):(nodesK fs f l cells nodes k).length≤k:=by
 unfold nodesK
 refine Nat.le_trans (List.length_filterMap_le _ _) ?_
 simp
def rangeI (k:Nat):List Int:=(List.range k).map fun (j:Nat)=>(j:Int)
def initK (cells:List Int) (k:Nat):List Int:=(List.range k).map fun j=>cells.getD j 0
theorem rangeI_succ (k:Nat):rangeI (k+1)=rangeI k ++ [(k:Int)]:=by simp [rangeI,List.range_succ]
theorem initK_succ (cells:List Int) (k:Nat):initK cells (k+1)=initK cells k ++ [cells.getD k 0]:=by simp [initK,List.range_succ]
theorem rangeI_len (k:Nat):(rangeI k).length=k:=by simp [rangeI]
theorem initK_len (cells:List Int) (k:Nat):(initK cells k).length=k:=by simp [initK]
theorem box8 {w:World} {p:Nat} {t:TypeId} (h:Blk w p t #[.slice none 0 0,.slice none 0 0,.int .i64 0,.slice none 0 0,.bool false,.int .i64 0,.slice none 0 0,.int .i64 0]) :
  w.cell? ⟨p,0,none⟩=some (.slice none 0 0)∧w.cell? ⟨p,1,none⟩=some (.slice none 0 0)∧w.cell? ⟨p,2,none⟩=some (.int .i64 0)∧w.cell? ⟨p,3,none⟩=some (.slice none 0 0)∧w.cell? ⟨p,4,none⟩=some (.bool false)∧w.cell? ⟨p,5,none⟩=some (.int .i64 0)∧w.cell? ⟨p,6,none⟩=some (.slice none 0 0)∧w.cell? ⟨p,7,none⟩=some (.int .i64 0)∧∀ i,w.frozen? ⟨p,i,none⟩=false :=
 ⟨h.cell 0,h.cell 1,h.cell 2,h.cell 3,h.cell 4,h.cell 5,h.cell 6,h.cell 7,h.frozen⟩
theorem GrP.at_alloc {W w2:World} {KA:Option Addr} {kc m:Nat} {kinds:List Int} {cnt:Int} {res:Bool} (hkl:kinds.length=m) (hg:Blk w2 W.heap.size 45 #[.slice none 0 0,.slice none 0 0,.int .i64 0,.slice none 0 0,.bool false,.int .i64 0,.slice none 0 0,.int .i64 0]) (lp:W.heap.size<w2.heap.size) (ho:w2.ownsRow W.heap.size 46 1 (.slice KA m kc) m (u8c kinds)) (hb:Below W.heap.size W w2) :
  GrP W w2.heap.size none none KA 0 0 kc [] [] kinds cnt (-1) res (w2.alloc (.cells #[.slice none 0 0,.slice KA m kc,.int .i64 cnt,.slice none 0 0,.bool res,.int .i64 (-1),.slice none 0 0,.int .i64 0] 45)):=by
 subst hkl
 exact ⟨hg.alloc _,Blk.new w2 _ _,lp,own_none _ _ _ _,own_none _ _ _ _,own_alloc ho _,(fun g hg=>by cases hg),hb.alloc (by omega) _⟩
theorem GrP.at_set8 {W w2:World} {p:Nat} {KA:Option Addr} {kc m:Nat} {kinds:List Int} {cnt:Int} {res:Bool} (hkl:kinds.length=m) (hg:Blk w2 W.heap.size 45 #[.slice none 0 0,.slice none 0 0,.int .i64 0,.slice none 0 0,.bool false,.int .i64 0,.slice none 0 0,.int .i64 0]) (hx:Blk w2 p 45 #[.slice none 0 0,.slice none 0 0,.int .i64 0,.slice none 0 0,.bool false,.int .i64 0,.slice none 0 0,.int .i64 0]) (lp:W.heap.size<p) (ho:w2.ownsRow W.heap.size 46 1 (.slice KA m kc) m (u8c kinds)) (hb:Below W.heap.size W w2) :
  GrP W p none none KA 0 0 kc [] [] kinds cnt (-1) res ((((((((w2.setCell ⟨p,0,none⟩ (.slice none 0 0)).setCell ⟨p,1,none⟩ (.slice KA m kc)).setCell ⟨p,2,none⟩ (.int .i64 cnt)).setCell ⟨p,3,none⟩ (.slice none 0 0)).setCell ⟨p,4,none⟩ (.bool res)).setCell ⟨p,5,none⟩ (.int .i64 (-1))).setCell ⟨p,6,none⟩ (.slice none 0 0)).setCell ⟨p,7,none⟩ (.int .i64 0)):=by
 subst hkl
 have hne:W.heap.size≠p:=by omega
 have hle:W.heap.size≤p:=by omega
 have one:∀ {w:World} {cs:Array Value} (i:Nat) (u:Value),(Blk w W.heap.size 45 #[.slice none 0 0,.slice none 0 0,.int .i64 0,.slice none 0 0,.bool false,.int .i64 0,.slice none 0 0,.int .i64 0]∧Blk w p 45 cs∧w.ownsRow W.heap.size 46 1 (.slice KA kinds.length kc) kinds.length (u8c kinds)∧Below W.heap.size W w) →
   (Blk (w.setCell ⟨p,i,none⟩ u) W.heap.size 45 #[.slice none 0 0,.slice none 0 0,.int .i64 0,.slice none 0 0,.bool false,.int .i64 0,.slice none 0 0,.int .i64 0]∧Blk (w.setCell ⟨p,i,none⟩ u) p 45 (cs.setIfInBounds i u)∧(w.setCell ⟨p,i,none⟩ u).ownsRow W.heap.size 46 1 (.slice KA kinds.length kc) kinds.length (u8c kinds)∧Below W.heap.size W (w.setCell ⟨p,i,none⟩ u)) :=
  fun i u h=>⟨h.1.far (p:=⟨p,i,none⟩) hne u,h.2.1.set_ i u,own_far h.2.2.1 h.2.1 (by decide) i u,h.2.2.2.setCell (p:=⟨p,i,none⟩) hle u⟩
 obtain ⟨a,b,c,d⟩:=one 7 (.int .i64 0) (one 6 (.slice none 0 0) (one 5 (.int .i64 (-1)) (one 4 (.bool res) (one 3 (.slice none 0 0) (one 2 (.int .i64 cnt) (one 1 (.slice KA kinds.length kc) (one 0 (.slice none 0 0) ⟨hg,hx,ho,hb⟩)))))))
 exact ⟨a,b,lp,own_none _ _ _ _,own_none _ _ _ _,c,(fun g hg=>by cases hg),d⟩
theorem GrP.pushP' {W wr w':World} {p3:Nat} {PA IA KA:Option Addr} {pc ic kc m:Nat} {params init kinds:List Int} {cnt kp:Int} {res:Bool} {o:Obj} {v':Value} {x:Int} (h:GrP W p3 PA IA KA pc ic kc params init kinds cnt kp res wr) (hl:params.length=m) (hown:w'.ownsRow W.heap.size 3 1 v' (m+1) (i64c params ++ [.int .i64 x])) (hg:(wr.alloc o).grownBy w' (Value.slice PA m pc).ownBlock) (hor:v'.ownBlock=(Value.slice PA m pc).ownBlock∨v'.ownBlock=some (wr.alloc o).heap.size) :
  ∃ A' c',v'=.slice A' (m+1) c'∧w'.frozen? ⟨p3,0,none⟩=false∧(∃ y,w'.cell? ⟨p3,0,none⟩=some y)∧Hid (GrP W p3 A' IA KA c' ic kc (params ++ [x]) init kinds cnt kp res (w'.setCell ⟨p3,0,none⟩ v')):=by
 subst hl
 exact h.pushP hown hg hor
theorem GrP.pushI' {W wr w':World} {p3:Nat} {PA IA KA:Option Addr} {pc ic kc m:Nat} {params init kinds:List Int} {cnt kp:Int} {res:Bool} {o:Obj} {v':Value} {x:Int} (h:GrP W p3 PA IA KA pc ic kc params init kinds cnt kp res wr) (hl:init.length=m) (hown:w'.ownsRow W.heap.size 3 1 v' (m+1) (i64c init ++ [.int .i64 x])) (hg:(wr.alloc o).grownBy w' (Value.slice IA m ic).ownBlock) (hor:v'.ownBlock=(Value.slice IA m ic).ownBlock∨v'.ownBlock=some (wr.alloc o).heap.size) :
  ∃ A' c',v'=.slice A' (m+1) c'∧w'.frozen? ⟨p3,3,none⟩=false∧(∃ y,w'.cell? ⟨p3,3,none⟩=some y)∧Hid (GrP W p3 PA A' KA pc c' kc params (init ++ [x]) kinds cnt kp res (w'.setCell ⟨p3,3,none⟩ v')):=by
 subst hl
 obtain ⟨A',c',a,b,c,d,_⟩:=h.pushI hown hg hor
 exact ⟨A',c',a,b,c,d⟩
theorem grown_of_drew {a b:World} {row:Option Nat} (h:a.drew.grownBy b row):a.grownBy b row:=⟨h.os,h.tape,h.output,h.size,h.block⟩
theorem OwnB.set {w:World} {base p:Nat} {cs:Array Value} {r:RG} (h:OwnB w base r) (hx:Blk w p 45 cs) (i:Nat) (u:Value):OwnB (w.setCell ⟨p,i,none⟩ u) base r :=
 ⟨own_far h.po hx (by decide) i u,own_far h.ko hx (by decide) i u,own_far h.io hx (by decide) i u,own_far h.no hx (by decide) i u,fun a ha=>own_far (h.ar a ha) hx (by decide) i u,h.nd⟩
theorem GrN.fin {W wr:World} {p3:Nat} {PA IA KA NA:Option Addr} {pc ic kc nc:Nat} {params init kinds:List Int} {cnt kp:Int} {res:Bool} {ns:List RN} (h:GrN W p3 PA IA KA NA pc ic kc nc params init kinds cnt kp res ns wr) (v0 v1 v2 v3 v4 v5 v6 v7:Value) :
  ∀ w',w'=(((((((wr.setCell ⟨W.heap.size,0,none⟩ v0).setCell ⟨W.heap.size,1,none⟩ v1).setCell ⟨W.heap.size,2,none⟩ v2).setCell ⟨W.heap.size,3,none⟩ v3).setCell ⟨W.heap.size,4,none⟩ v4).setCell ⟨W.heap.size,5,none⟩ v5).setCell ⟨W.heap.size,6,none⟩ v6).setCell ⟨W.heap.size,7,none⟩ v7 →
  Blk w' W.heap.size 45 #[v0,v1,v2,v3,v4,v5,v6,v7]∧OwnB w' W.heap.size ⟨⟨params,kinds,cnt,init,res,kp,nds ns,0⟩,PA,pc,KA,kc,IA,ic,NA,nc,ns⟩∧Below W.heap.size W w':=by
 rintro w' rfl
 have b0:=h.out.set_ 0 v0
 have o0:=h.ownG.set h.out 0 v0
 have d0:=h.below.setCell (p:=⟨W.heap.size,0,none⟩) (Nat.le_refl _) v0
 have b1:=b0.set_ 1 v1
 have o1:=o0.set b0 1 v1
 have d1:=d0.setCell (p:=⟨W.heap.size,1,none⟩) (Nat.le_refl _) v1
 have b2:=b1.set_ 2 v2
 have o2:=o1.set b1 2 v2
 have d2:=d1.setCell (p:=⟨W.heap.size,2,none⟩) (Nat.le_refl _) v2
 have b3:=b2.set_ 3 v3
 have o3:=o2.set b2 3 v3
 have d3:=d2.setCell (p:=⟨W.heap.size,3,none⟩) (Nat.le_refl _) v3
 have b4:=b3.set_ 4 v4
 have o4:=o3.set b3 4 v4
 have d4:=d3.setCell (p:=⟨W.heap.size,4,none⟩) (Nat.le_refl _) v4
 have b5:=b4.set_ 5 v5
 have o5:=o4.set b4 5 v5
 have d5:=d4.setCell (p:=⟨W.heap.size,5,none⟩) (Nat.le_refl _) v5
 have b6:=b5.set_ 6 v6
 have o6:=o5.set b5 6 v6
 have d6:=d5.setCell (p:=⟨W.heap.size,6,none⟩) (Nat.le_refl _) v6
 have b7:=b6.set_ 7 v7
 have o7:=o6.set b6 7 v7
 have d7:=d6.setCell (p:=⟨W.heap.size,7,none⟩) (Nat.le_refl _) v7
 refine ⟨?_,o7,d7⟩
 have e:(((((((#[Value.slice none 0 0,.slice none 0 0,.int .i64 0,.slice none 0 0,.bool false,.int .i64 0,.slice none 0 0,.int .i64 0].setIfInBounds 0 v0).setIfInBounds 1 v1).setIfInBounds 2 v2).setIfInBounds 3 v3).setIfInBounds 4 v4).setIfInBounds 5 v5).setIfInBounds 6 v6).setIfInBounds 7 v7=#[v0,v1,v2,v3,v4,v5,v6,v7]:=rfl
 rw [e] at b7
 exact b7
theorem GrN.cells {W wr:World} {p3:Nat} {PA IA KA NA:Option Addr} {pc ic kc nc:Nat} {params init kinds:List Int} {cnt kp:Int} {res:Bool} {ns:List RN} (h:GrN W p3 PA IA KA NA pc ic kc nc params init kinds cnt kp res ns wr) :
  wr.cell? ⟨p3,0,none⟩=some (.slice PA params.length pc)∧wr.cell? ⟨p3,1,none⟩=some (.slice KA kinds.length kc)∧wr.cell? ⟨p3,2,none⟩=some (.int .i64 cnt)∧wr.cell? ⟨p3,3,none⟩=some (.slice IA init.length ic)∧wr.cell? ⟨p3,4,none⟩=some (.bool res)∧wr.cell? ⟨p3,5,none⟩=some (.int .i64 kp)∧wr.cell? ⟨p3,6,none⟩=some (.slice NA ns.length nc)∧wr.cell? ⟨p3,7,none⟩=some (.int .i64 0) :=
 ⟨h.box.cell 0,h.box.cell 1,h.box.cell 2,h.box.cell 3,h.box.cell 4,h.box.cell 5,h.box.cell 6,h.box.cell 7⟩
theorem graph_any (bb : Nat) (fa : Option Addr) (n nc : Nat) (rs : List Q.Raw) (r : Q.Raw) (ca : Option Addr) (cc : Nat) (cells : List Int) (cnt : Nat) (na : Option Addr) (nnc : Nat) (sb m ssc np : Nat) (kp : Int) (l : List (Option Q.Stk)) (W : World) (h : BG W bb fa n nc rs r ca cc cells cnt na nnc (nodesB 0 l) sb m ssc l) (ha : GraphAsk rs r l np kp) (hm : m = r.fn.code.length) (hce : cells = (cellsB r.fn l).1) (hct : cnt = (cellsB r.fn l).2) :
    Calls Try.prog 16 #[.pointer (some ⟨bb, 0, none⟩)] W (GraphPost W (graphB (Q.fns rs) r.fn l)) := by
  have HCE := Lib.hid hce
  have HCT := Lib.hid hct
  clear hce hct
  have HA := Lib.hid ha
  obtain ⟨W1, hW1⟩ : ∃ W1, W1 = W.alloc (.cells #[.slice none 0 0, .slice none 0 0, .int .i64 0, .slice none 0 0, .bool false, .int .i64 0, .slice none 0 0, .int .i64 0] 45) := ⟨_, rfl⟩
  have hb1 : Below W.heap.size W W1 := by rw [hW1]; exact (Below.refl _ _).alloc (Nat.le_refl _) _
  have hz1 : W1.heap.size = W.heap.size + 1 := by rw [hW1]; simp
  have hg1 : Blk W1 W.heap.size 45 #[.slice none 0 0, .slice none 0 0, .int .i64 0, .slice none 0 0, .bool false, .int .i64 0, .slice none 0 0, .int .i64 0] := by rw [hW1]; exact Blk.new _ _ _
  have HH := Lib.hid h.b
  have H1 := Lib.hid (h.b.below hb1)
  have HB1 := Lib.hid hb1
  have HG1 := Lib.hid hg1
  have HZ1 := Lib.hid hz1
  have HK := Lib.hid (fun X (hx : Below W.heap.size W X) => bkinds_any bb W.heap.size r.lo r.fn.locals.length r.lc r.fn.locals X (h.b.below hx).br.c2 (h.b.below hx).br.lo rfl (by have := h.br.ll; omega) hx.size)
  clear h ha hb1 hg1 hz1
  go_enter Try.func16, Try.ntmps16
  go_upto_region 1 with fail
  rw [← hW1]
  clear hW1
  go_cut [3] (fun s3 wx => ∃ p3 KA kc, s3 = .pointer (some ⟨p3, 0, none⟩) ∧ Hid (GrP W p3 none none KA 0 0 kc [] [] (kindsB r.fn) cnt (-1) r.fn.result wx))
  case first =>
    have HC : Hid (∀ X, Below W.heap.size W X → X.cell? ⟨bb, 9, none⟩ = some (.int .i64 cnt) ∧ X.cell? ⟨bb, 3, none⟩ = some (.bool r.fn.result)) := Lib.hid fun X hx => ⟨(HH.out.below hx).c9, (HH.out.below hx).br.c3⟩
    obtain ⟨x9, x3⟩ := HC.out W1 HB1.out
    have x9' : ∀ o, (W1.alloc o).cell? ⟨bb, 9, none⟩ = some (.int .i64 cnt) := fun o => (HC.out _ (HB1.out.alloc (by have := HZ1.out; omega) o)).1
    have x3' : ∀ o, (W1.alloc o).cell? ⟨bb, 3, none⟩ = some (.bool r.fn.result) := fun o => (HC.out _ (HB1.out.alloc (by have := HZ1.out; omega) o)).2
    have HE1 : Hid (∀ o, Below W.heap.size W (W1.alloc o).drew) := Lib.hid fun o => (HB1.out.alloc (by have := HZ1.out; omega) o).drew
    have HE0 : Hid (Below W.heap.size W W1.drew) := Lib.hid HB1.out.drew
    go_region_law (go_simp; go_at_call 34; refine (HK.out _ (by first | exact HE0.out | exact HE1.out _)).mono ?_; rintro e w2 ⟨KA, kc, rfl, ho2, hb2⟩; have HO2 := Lib.hid ho2; have HB2 := Lib.hid hb2; have hw2 : Below W.heap.size W w2 := (by first | exact HE0.out.trans (hb2.mono (HE0.out).size) | exact (HE1.out _).trans (hb2.mono (HE1.out _).size)); obtain ⟨y9, y3⟩ := HC.out w2 hw2; have y9' : ∀ o, (w2.alloc o).cell? ⟨bb, 9, none⟩ = some (.int .i64 cnt) := fun o => (HC.out _ (hw2.alloc hw2.size o)).1; have y3' : ∀ o, (w2.alloc o).cell? ⟨bb, 3, none⟩ = some (.bool r.fn.result) := fun o => (HC.out _ (hw2.alloc hw2.size o)).2; have HW2 := Lib.hid hw2; (try (obtain ⟨z0, z1, z2, z3, z4, z5, z6, z7, zf⟩ := box8 ((Blk.new W1 _ _).drew.below hb2 (by simp)); have hz2s := hb2.size; simp at hz2s)); clear ho2 hb2 hw2)
    all_goals
      go_wp2_with fail
      go_meet
      have hkl : (kindsB r.fn).length = r.fn.locals.length + 32 := by
        unfold kindsB
        rw [kinds_len]
      have hz1 := HZ1.out
      first
      | (have hz2 : W1.heap.size ≤ w2.heap.size := HB2.out.size
         refine ⟨w2.heap.size, KA, kc, rfl, Lib.hid (GrP.at_alloc hkl ?_ ?_ ?_ HW2.out)⟩
         · exact HG1.out.drew.below HB2.out (by show _ < W1.heap.size; omega)
         · omega
         · exact own_more HO2.out (by show _ ≤ W1.heap.size; omega))
      | (refine ⟨W1.heap.size, KA, kc, rfl, Lib.hid (GrP.at_set8 hkl ?_ ?_ ?_ ?_ HW2.out)⟩
         · exact (HG1.out.alloc _).drew.below HB2.out (by simp; omega)
         · exact (Blk.new W1 _ _).drew.below HB2.out (by simp)
         · omega
         · exact own_more HO2.out (by simp; omega))
  case rest =>
    obtain ⟨p3, KA, kc, rfl, HP0⟩ := hcut
    have c1 : wc.cell? ⟨bb, 1, none⟩ = some (.int .i64 np) := by
      have h := (HH.out.below HP0.out.below).c1
      rw [HA.out.npe] at h
      exact h
    go_wp2
    go_loopw [24] (fun i wr => ∃ (j : Nat) (PA IA : Option Addr) (pc ic : Nat), j ≤ np ∧ i = .int .i64 j ∧ Hid (GrP W p3 PA IA KA pc ic kc (rangeI j) (initK cells j) (kindsB r.fn) cnt (-1) r.fn.result wr)) (fun i _ => np - (intOf i).toNat)
    case atStart => exact ⟨0, none, none, 0, 0, by omega, rfl, HP0⟩
    case round =>
      obtain ⟨j, PA, IA, pc, ic, hj, rfl, HI⟩ := hrel
      have hnp : np ≤ 100000 := by have := HA.out.npl; have := HA.out.ll; omega
      by_cases hlt : j < np
      · have gj : IntKind.i64.wrap (j : Int) = (j : Int) := bi64 (by omega)
        have gj1 : IntKind.i64.wrap ((j : Int) + 1) = ((j + 1 : Nat) : Int) := by
          rw [show (j : Int) + 1 = ((j + 1 : Nat) : Int) by omega]
          exact bi64 (by omega)
        have c0 : ∀ o, (wr.alloc o).cell? ⟨p3, 0, none⟩ = some (.slice PA j pc) := fun o => by
          have h := (HI.out.box.alloc o).cell 0
          rw [rangeI_len] at h
          exact h
        have c0' : wr.cell? ⟨p3, 0, none⟩ = some (.slice PA j pc) := by
          have h := HI.out.box.cell 0
          rw [rangeI_len] at h
          exact h
        have HPO : Hid (wr.ownsRow W.heap.size 3 1 (.slice PA j pc) j (i64c (rangeI j))) := Lib.hid (by
          have h := HI.out.po
          rw [rangeI_len] at h
          exact h)
        have hwz := HI.out.below.size
        go_upto_region 6 with (at_builtin; refine app_int rfl (.tmp 28) (.tmp 30) rfl W.heap.size (.slice PA j pc) j (i64c (rangeI j)) rfl (own_alloc HPO.out _) (wr.heap.size + 1) (some ⟨wr.heap.size, 0, none⟩) 1 1 [.int .i64 (j : Int)] rfl (one_reads _ _ [.int .i64 (j : Int)] 1 rfl) (ints_oneCell .i64 [(j : Int)]) (by omega) (by simp; omega) ?_; intro v' w' hown hgr hor; obtain ⟨A', c', rfl, f0, ⟨y0, hy0⟩, HG⟩ := HI.out.pushP' (rangeI_len j) hown hgr hor; clear hown hgr hor)
        obtain ⟨w5, hw5⟩ : ∃ w5, w5 = w'.setCell ⟨p3, 0, none⟩ (.slice A' (j + 1) c') := ⟨_, rfl⟩
        rw [← hw5] at HG ⊢
        rw [← rangeI_succ] at HG
        clear hw5 hy0 f0 c0 c0'
        have hw5z := HG.out.below.size
        have H5 := Lib.hid (HH.out.below HG.out.below)
        obtain ⟨cb, co, hcae, hcb, hcc⟩ := H5.out.br.ce.lit (by rw [H5.out.br.cl]; have := HA.out.npl; omega) (by omega)
        have hjc : j < cells.length := by rw [H5.out.br.cl]; have := HA.out.npl; omega
        have b8 : w5.cell? ⟨bb, 8, none⟩ = some (.slice (some ⟨cb, co, none⟩) cells.length cc) := by rw [← hcae]; exact H5.out.br.c8
        have b8' : ∀ o, (w5.alloc o).cell? ⟨bb, 8, none⟩ = some (.slice (some ⟨cb, co, none⟩) cells.length cc) := fun o => (World.cell?_alloc_lt w5 o ⟨bb, 8, none⟩ (by have := H5.out.br.lt; show bb < _; omega)).trans b8
        obtain ⟨x, hx⟩ : ∃ x, x = cells.getD j 0 := ⟨_, rfl⟩
        have bx : w5.cell? ⟨cb, co + j, none⟩ = some (.int .i64 x) := by rw [hx]; exact hcc _ _ (i64c_at (list_at hjc))
        have bx' : ∀ o, (w5.alloc o).cell? ⟨cb, co + j, none⟩ = some (.int .i64 x) := fun o => (World.cell?_alloc_lt w5 o ⟨cb, co + j, none⟩ (by show cb < _; omega)).trans bx
        have c3 : ∀ o, (w5.alloc o).cell? ⟨p3, 3, none⟩ = some (.slice IA j ic) := fun o => by
          have h := (HG.out.box.alloc o).cell 3
          rw [initK_len] at h
          exact h
        have c3' : w5.cell? ⟨p3, 3, none⟩ = some (.slice IA j ic) := by
          have h := HG.out.box.cell 3
          rw [initK_len] at h
          exact h
        have HIO : Hid (w5.ownsRow W.heap.size 3 1 (.slice IA j ic) j (i64c (initK cells j))) := Lib.hid (by
          have h := HG.out.io
          rw [initK_len] at h
          exact h)
        have HOX := Lib.hid (own_alloc HIO.out (.cells #[.int .i64 x] 3))
        have HRd := Lib.hid (one_reads w5 3 [.int .i64 x] 1 rfl)
        have HIX : Hid (initK cells (j + 1) = initK cells j ++ [x]) := Lib.hid (by rw [hx]; exact initK_succ cells j)
        clear hx hcae hcb hcc
        go_region_law (refine step_int rfl _ _ rfl W.heap.size (.slice IA j ic) j (i64c (initK cells j)) rfl HOX.out (w5.heap.size + 1) (some ⟨w5.heap.size, 0, none⟩) 1 1 [.int .i64 x] rfl HRd.out (ints_oneCell .i64 [x]) (by omega) (by simp; omega) ?_; intro v8 w8 hown hgr hor; obtain ⟨A8, c8, rfl, f8, ⟨y8, hy8⟩, HG8⟩ := HG.out.pushI' (initK_len cells j) hown (grown_of_drew hgr) hor; clear hown hgr hor)
        all_goals
          clear b8 b8' bx bx' c3 c3'
          go_wp2
          go_roundw
          case rel => exact ⟨j + 1, A', A8, c', c8, by omega, by go_num, by rw [HIX.out]; exact HG8⟩
          case measure => simp [intOf]; omega
      · obtain rfl : j = np := by omega
        obtain ⟨kv, hkv⟩ : ∃ kv : Int, kv = (if r.fn.keep = -1 then -1 else cells.getD r.fn.keep.toNat 0) := ⟨_, rfl⟩
        have HKV := Lib.hid hkv
        clear hkv
        have H5 := Lib.hid (HH.out.below HI.out.below)
        have c4 : wr.cell? ⟨bb, 4, none⟩ = some (.int .i64 kp) := by
          have h := H5.out.c4
          rw [HA.out.kpe] at h
          exact h
        go_upto_if 51 with fail
        go_cut [3] (fun s3 wx => s3 = .pointer (some ⟨p3, 0, none⟩) ∧ Hid (GrP W p3 PA IA KA pc ic kc (rangeI j) (initK cells j) (kindsB r.fn) cnt kv r.fn.result wx))
        case first =>
          by_cases hk1 : kp = -1
          · have g1 : (kp != -1) = false := by simpa using hk1
            have HKE : Hid (kv = -1) := Lib.hid (by rw [HKV.out, HA.out.kpe, if_pos hk1])
            clear hk1
            go_wp2_with fail
            go_meet
            exact ⟨rfl, by rw [HKE.out]; exact HI⟩
          · have g1 : (kp != -1) = true := by simpa using hk1
            obtain ⟨k0, hk0, hk0l⟩ : ∃ k : Nat, kp = k ∧ k < r.fn.locals.length := by
              rcases HA.out.kpo with h | h
              · exact absurd (HA.out.kpe.symm.trans h) hk1
              · rw [HA.out.kpe] at h
                exact h
            have HKE : Hid (kv = cells.getD k0 0) := Lib.hid (by rw [HKV.out, HA.out.kpe, if_neg hk1, hk0, Int.toNat_natCast])
            subst hk0
            have hkc : k0 < cells.length := by rw [H5.out.br.cl]; exact hk0l
            have hll : r.fn.locals.length ≤ 16 := HA.out.ll
            have hcl : cells.length ≤ 100000 := by rw [H5.out.br.cl]; omega
            obtain ⟨cb, co, hcae, hcb, hcc⟩ := H5.out.br.ce.lit (by omega) (by omega)
            have b8 : wr.cell? ⟨bb, 8, none⟩ = some (.slice (some ⟨cb, co, none⟩) cells.length cc) := by rw [← hcae]; exact H5.out.br.c8
            have bx : wr.cell? ⟨cb, co + k0, none⟩ = some (.int .i64 kv) := by rw [HKE.out]; exact hcc _ _ (i64c_at (list_at hkc))
            have z5 : wr.cell? ⟨p3, 5, none⟩ = some (.int .i64 (-1)) := HI.out.box.cell 5
            have f5 : wr.frozen? ⟨p3, 5, none⟩ = false := HI.out.box.frozen 5
            have gk : IntKind.i64.wrap (k0 : Int) = (k0 : Int) := bi64 (by omega)
            clear hk1 hcae hcb hcc hll hk0l
            go_wp2_with fail
            go_region_law fail
            all_goals
              go_wp2_with fail
              go_meet
              exact ⟨rfl, by first | exact Lib.hid (HI.out.keep kv) | exact Lib.hid (HI.out.drew.keep kv)⟩
        case rest =>
          obtain ⟨rfl, HQ0⟩ := hcut
          have HN0 : Hid (GrN W p3 PA IA KA none pc ic kc 0 (rangeI j) (initK cells j) (kindsB r.fn) cnt kv r.fn.result [] wc) := Lib.hid HQ0.out.nodes
          have hnl : (nodesB 0 l).length = m := by rw [nodesB_len, HA.out.sol.len, hm]
          have hm6 : m ≤ 256 := by rw [hm]; exact HA.out.cod
          have c7 : wc.cell? ⟨bb, 7, none⟩ = some (.slice na m nnc) := by
            have h := (HH.out.below HQ0.out.below).c7
            rw [hnl] at h
            exact h
          clear HI HP0 c1 HQ0 c4 H5
          go_wp2
          go_loopw [69] (fun i wr => ∃ (k : Nat) (NA : Option Addr) (nc' : Nat) (ns : List RN), k ≤ m ∧ i = .int .i64 k ∧ Hid (GrN W p3 PA IA KA NA pc ic kc nc' (rangeI j) (initK cells j) (kindsB r.fn) cnt kv r.fn.result ns wr) ∧ Hid (nds ns = nodesK (Q.fns rs) r.fn l cells (nodesB 0 l) k)) (fun i _ => m - (intOf i).toNat)
          case atStart => exact ⟨0, none, 0, [], by omega, rfl, HN0, Lib.hid rfl⟩
          case round =>
            obtain ⟨k, NA, nc', ns, hk, rfl, HI, HS⟩ := hrel
            by_cases hlt : k < m
            · have H5 := Lib.hid (HH.out.below HI.out.below)
              have gk : IntKind.i64.wrap (k : Int) = (k : Int) := bi64 (by omega)
              have gk1 : IntKind.i64.wrap ((k : Int) + 1) = ((k + 1 : Nat) : Int) := by
                rw [show (k : Int) + 1 = ((k + 1 : Nat) : Int) by omega]
                exact bi64 (by omega)
              obtain ⟨y, hy⟩ : ∃ y, l[k]? = some y := ⟨_, List.getElem?_eq_getElem (by rw [HA.out.sol.len]; omega)⟩
              obtain ⟨nb, no, hnae, hnb, hnc⟩ := H5.out.no.lit (by omega) (by omega)
              subst hnae
              have hat := nodesB_at l 0 k y hy
              have hrow : (i64c (nodesB 0 l))[k]? = some (.int .i64 (if y.isSome = true then ((0 + cntB l k : Nat) : Int) else -1)) := i64c_at hat
              have bn := hnc _ _ hrow
              rw [Nat.zero_add] at bn
              have HY := Lib.hid hy
              clear hat hrow hnc hy
              have hwz := HI.out.below.size
              cases y with
              | none =>
                simp only [Option.isSome_none, Bool.false_eq_true, if_false] at bn
                go_wp2
                go_roundw
                case rel => exact ⟨k + 1, NA, nc', ns, by omega, by go_num, HI, Lib.hid (by rw [nodesK_none HY.out]; exact HS.out)⟩
                case measure => simp [intOf]; omega
              | some s =>
                simp only [Option.isSome_some, if_true] at bn
                obtain ⟨z, hz⟩ : ∃ z : Int, z = ((cntB l k : Nat) : Int) := ⟨_, rfl⟩
                rw [← hz] at bn
                have gz : (z != -1) = true := by
                  have : z ≠ -1 := by omega
                  simpa using this
                clear hz
                obtain ⟨i, hi⟩ : ∃ i, r.fn.code[k]? = some i := ⟨_, List.getElem?_eq_getElem (by omega)⟩
                obtain ⟨s', haf, hsu⟩ := HA.out.sol.next HY.out hi
                have himem := List.mem_of_getElem? hi
                obtain ⟨hsl, hsk⟩ := HA.out.stk k s HY.out
                obtain ⟨nv, hnv⟩ : ∃ nv, nv = nodeB (Q.fns rs) r.fn cells (nodesB 0 l) k i s := ⟨_, rfl⟩
                have HND : Hid (∀ X, Below W.heap.size W X → Calls Try.prog 35 #[.pointer (some ⟨bb, 0, none⟩), .int .i64 k] X (EffPost X nv)) := Lib.hid fun X hx => by
                  have h := HH.out.below hx
                  obtain ⟨SA, ssc', x6, hs⟩ := h.st k s HY.out
                  rw [hnv]
                  exact node_any h.br hx.size h.c5 h.co hi (by have := HA.out.cod; omega) h.c6 h.sbl hlt (by rw [Nat.zero_add]; exact x6) hs hsl hsk h.c7 h.no rfl (by rw [hnl, hm]) (HA.out.okI i himem) (HA.out.ref i himem) haf (fun b hb => by
                    have h1 := hsu b hb
                    rw [← HA.out.sol.len]
                    exact (List.getElem?_eq_some_iff.1 h1).1) HA.out.par HA.out.loc
                have HNS := Lib.hid (show nodesK (Q.fns rs) r.fn l cells (nodesB 0 l) (k + 1) = nodesK (Q.fns rs) r.fn l cells (nodesB 0 l) k ++ [nv] by rw [hnv]; exact nodesK_some HY.out hi)
                clear hi haf hsu himem hsl hsk hnv
                have hnk : ns.length ≤ k := by
                  have h := nodesK_le (Q.fns rs) r.fn l cells (nodesB 0 l) k
                  rw [← HS.out, length_nds] at h
                  exact h
                have c6 : wr.cell? ⟨p3, 6, none⟩ = some (.slice NA ns.length nc') := HI.out.box.cell 6
                go_upto_region 14 with fail
                go_region_law (first
                  | (go_simp; go_at_call 35; refine (HND.out _ (by exact HI.out.below.drew)).mono ?_; rintro e w9 ⟨A9, c9, rfl, ho9, hb9⟩; unfold ndV; have HG9 := Lib.hid ((HI.out.on (Below.refl _ _).drew).on (w' := w9) (by exact hb9)); have HO9 : Hid (w9.ownsRow W.heap.size 3 1 (.slice A9 nv.args.length c9) nv.args.length (i64c nv.args)) := Lib.hid (own_more ho9 (by exact hwz)); clear ho9 hb9; have d6 : w9.cell? ⟨p3, 6, none⟩ = some (.slice NA ns.length nc') := HG9.out.box.cell 6; have d6' : ∀ o, (w9.alloc o).cell? ⟨p3, 6, none⟩ = some (.slice NA ns.length nc') := fun o => (HG9.out.box.alloc o).cell 6)
                  | (refine step_node rfl _ _ rfl W.heap.size (.slice NA ns.length nc') ns.length (rnc ns) rfl (own_alloc HG9.out.no _) (w9.heap.size + 1) (some ⟨w9.heap.size, 0, none⟩) 1 1 (rnOne ⟨nv, A9, c9⟩) rfl (one_reads w9 70 (rnOne ⟨nv, A9, c9⟩) 12 rfl) (rnOne_one _) (by omega) (by have := HG9.out.below.size; simp; omega) ?_; intro v8 w8 hown hgr hor; obtain ⟨A8, c8, rfl, f8, ⟨y8, hy8⟩, HG8⟩ := HG9.out.push (i := ⟨nv, A9, c9⟩) HO9.out hown hgr; clear hown hgr hor))
                all_goals
                  clear c6 bn
                  go_wp2
                  go_roundw
                  case rel => exact ⟨k + 1, A8, c8, ns ++ [⟨nv, A9, c9⟩], by omega, by go_num, HG8, Lib.hid (by rw [HNS.out, ← HS.out]; simp [nds])⟩
                  case measure => simp [intOf]; omega
            · obtain rfl : k = m := by omega
              have HGR : Hid ((⟨rangeI j, kindsB r.fn, (cnt : Int), initK cells j, r.fn.result, kv, nds ns, 0⟩ : Gr) = graphB (Q.fns rs) r.fn l) := Lib.hid (by
                unfold graphB
                dsimp only
                have e1 : r.fn.params.toNat = j := by rw [HA.out.npe]; simp
                have e2 : l.length = k := by rw [HA.out.sol.len, hm]
                rw [e1, e2, ← HCE.out, ← HCT.out, ← HKV.out, HS.out]
                rfl)
              obtain ⟨a0, a1, a2, a3, a4, a5, a6, a7⟩ := HI.out.cells
              obtain ⟨z0, z1, z2, z3, z4, z5, z6, z7, zf⟩ := box8 HI.out.out
              go_wp2
              refine (fun (hg : ∀ wf, wf = (((((((wr.setCell ⟨W.heap.size, 0, none⟩ (.slice PA (rangeI j).length pc)).setCell ⟨W.heap.size, 1, none⟩ (.slice KA (kindsB r.fn).length kc)).setCell ⟨W.heap.size, 2, none⟩ (.int .i64 cnt)).setCell ⟨W.heap.size, 3, none⟩ (.slice IA (initK cells j).length ic)).setCell ⟨W.heap.size, 4, none⟩ (.bool r.fn.result)).setCell ⟨W.heap.size, 5, none⟩ (.int .i64 kv)).setCell ⟨W.heap.size, 6, none⟩ (.slice NA ns.length nc')).setCell ⟨W.heap.size, 7, none⟩ (.int .i64 0) → bodyPost _ _ _ _ _ wf) => hg _ rfl) ?_
              intro wf hwf
              obtain ⟨hbx, hog, hbl⟩ := HI.out.fin _ _ _ _ _ _ _ _ _ hwf
              have e0 : wf.cell? ⟨W.heap.size, 0, none⟩ = some (.slice PA (rangeI j).length pc) := hbx.cell 0
              have e1 : wf.cell? ⟨W.heap.size, 1, none⟩ = some (.slice KA (kindsB r.fn).length kc) := hbx.cell 1
              have e2 : wf.cell? ⟨W.heap.size, 2, none⟩ = some (.int .i64 cnt) := hbx.cell 2
              have e3 : wf.cell? ⟨W.heap.size, 3, none⟩ = some (.slice IA (initK cells j).length ic) := hbx.cell 3
              have e4 : wf.cell? ⟨W.heap.size, 4, none⟩ = some (.bool r.fn.result) := hbx.cell 4
              have e5 : wf.cell? ⟨W.heap.size, 5, none⟩ = some (.int .i64 kv) := hbx.cell 5
              have e6 : wf.cell? ⟨W.heap.size, 6, none⟩ = some (.slice NA ns.length nc') := hbx.cell 6
              have e7 : wf.cell? ⟨W.heap.size, 7, none⟩ = some (.int .i64 0) := hbx.cell 7
              clear hwf
              refine bodyPost_ret (v := .agg #[.slice PA (rangeI j).length pc, .slice KA (kindsB r.fn).length kc, .int .i64 cnt, .slice IA (initK cells j).length ic, .bool r.fn.result, .int .i64 kv, .slice NA ns.length nc', .int .i64 0]) (by simp [results, Try.results16, go_sem, e0, e1, e2, e3, e4, e5, e6, e7]) rfl ?_
              refine ⟨⟨⟨rangeI j, kindsB r.fn, (cnt : Int), initK cells j, r.fn.result, kv, nds ns, 0⟩, PA, pc, KA, kc, IA, ic, NA, nc', ns⟩, HGR.out, ?_, hog, hbl⟩
              simp [rgOne, length_nds]
end Go.Proofs.Ytgekmjkfnhogkaa
namespace Go.Proofs.Ytgekmjkfnhogkaa
set_option linter.unusedVariables false
set_option linter.unusedSimpArgs false
open Go.ChangeShapes Go.WideShapes Go.ChangeAt Go.RowKit
namespace Q
theorem leavesK_kind {fs:List Fn} {f:Fn} {i:Ins} {t x:Int} (hl:∀ x ∈ f.locals,x=0∨x=1) (ht:t=0∨t=1) (h:x ∈ leavesK fs f i t):x=0∨x=1:=by
 unfold leavesK at h
 split at h
 ·simp at h;exact .inl h
 split at h
 ·simp at h
  subst h
  unfold locK
  rw [List.getD_eq_getElem?_getD]
  cases hh:f.locals[i.arg.toNat]? with
  | none=>exact .inl rfl
  | some y=>exact hl y (List.mem_of_getElem? hh)
 split at h
 ·simp at h;exact .inr h
 split at h
 ·unfold resK at h
  split at h
  ·unfold resOf at h
   split at h
   ·simp at h;exact .inl h
   ·simp at h
  ·simp at h
 split at h
 ·simp at h;exact .inl h
 split at h
 ·simp at h;subst h;exact ht
 split at h
 ·simp at h;exact .inl h
 ·simp at h
theorem reach_kind {fs:List Fn} {f:Fn} (hl:∀ x ∈ f.locals,x=0∨x=1) {a:Nat} {s:Stk} (h:Reach fs f a s):∀ x ∈ s,x=0∨x=1:=by
 induction h with
 | base=>intro x hx;cases hx
 | @step a s i s' b hr hc ha hb ih =>
  intro x hx
  unfold afterK at ha
  split at ha
  ·injection ha with ha
   rw [← ha] at hx
   rcases List.mem_append.1 hx with h | h
   ·exact ih x (List.mem_of_mem_take h)
   ·refine leavesK_kind hl ?_ h
    unfold topK
    cases hh:s.getLast? with
    | none=>exact .inl rfl
    | some y=>exact ih y (List.mem_of_getLast? hh)
  ·cases ha
theorem verd_zero {fs:List Fn} (h:verd fs=0):okP fs=true∧bnd fs=true∧refB fs=true∧¬ Deep fs:=by
 unfold verd at h
 split at h
 ·simp at h
 ·next h1 =>
  split at h
  ·simp at h
  ·next h2 =>
   split at h
   ·simp at h
   ·next h3 =>
    split at h
    ·simp at h
    ·split at h
     ·simp at h
     ·next h5=>exact ⟨by simpa using h1,by simpa using h2,by simpa using h3,h5⟩
end Q
theorem numL_lt {f:Q.Fn} {x:Int} (h:Q.numL f x=true):x<f.locals.length:=by
 unfold Q.numL at h
 rw [Bool.and_eq_true] at h
 simpa using h.1
theorem ask_of {rs:List Q.Raw} {r:Q.Raw} {k:Nat} {l:List (Option Q.Stk)} (hv:Q.verd (Q.fns rs)=0) (hr:rs[k]?=some r) (hs:Q.Sol (Q.fns rs) r.fn l):GraphAsk rs r l r.fn.params.toNat r.fn.keep:=by
 obtain ⟨h1,h2,h3,h4⟩:=Q.verd_zero hv
 have hm:r.fn ∈ Q.fns rs:=List.mem_map.2 ⟨r,List.mem_of_getElem? hr,rfl⟩
 unfold Q.okP at h1
 rw [Bool.and_eq_true,List.all_eq_true] at h1
 have h1:=h1.2
 have ho:=h1 _ hm
 unfold Q.okF at ho
 simp only [Bool.and_eq_true,List.all_eq_true,decide_eq_true_eq] at ho
 obtain ⟨⟨⟨⟨⟨⟨⟨o1,o2⟩,o3⟩,o4⟩,o5⟩,o6⟩,o7⟩,o8⟩:=ho
 unfold Q.bnd at h2
 rw [Bool.and_eq_true,List.all_eq_true] at h2
 have hb:=h2.2 _ hm
 unfold Q.bndF at hb
 simp only [Bool.and_eq_true,decide_eq_true_eq] at hb
 obtain ⟨⟨b1,b2⟩,b3⟩:=hb
 unfold Q.refB at h3
 rw [Bool.and_eq_true,List.all_eq_true] at h3
 have hf:=h3.2 _ hm
 unfold Q.fnRef at hf
 rw [Bool.and_eq_true,List.all_eq_true] at hf
 obtain ⟨f1,f2⟩:=hf
 have hk:∀ x ∈ r.fn.locals,x=0∨x=1:=fun x hx=>by
  have:=o7 x hx
  unfold Q.kindB at this
  simpa using this
 refine ⟨hs,o8,f2,fun g hg=>?_,fun x hx=>?_,fun j s hj=>?_,b3,b2,by omega,by omega,?_,rfl⟩
 ·have hg':=h1 g.fn (List.mem_map.2 ⟨g,hg,rfl⟩)
  unfold Q.okF at hg'
  simp only [Bool.and_eq_true,decide_eq_true_eq] at hg'
  omega
 ·rcases hk x hx with h | h <;> omega
 ·have hre:=(hs.iff j s).1 hj
  refine ⟨?_,fun x hx=>by rcases Q.reach_kind hk hre x hx with h | h <;> omega⟩
  have:¬ 16<s.length:=fun hl=>h4 ⟨r.fn,hm,j,s,hre,hl⟩
  omega
 ·unfold Q.keepsB at f1
  split at f1
  ·next h=>exact .inl h
  ·next h =>
   have:=numL_lt f1
   exact .inr ⟨r.fn.keep.toNat,by omega,by omega⟩
end Go.Proofs.Ytgekmjkfnhogkaa
