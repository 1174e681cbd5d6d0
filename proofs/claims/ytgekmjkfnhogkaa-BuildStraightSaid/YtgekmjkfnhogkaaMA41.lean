/-
  Texts of one seat, one behind the other: OCel, Rw, Rp, Cp, Cg.
-/
import Derived.Deep.RegionLaw
import Derived.Test.YtgekmjkfnhogkaaMA2
import Derived.Test.YtgekmjkfnhogkaaMA3

set_option linter.unusedVariables false
set_option linter.unusedSimpArgs false
set_option maxRecDepth 100000
set_option maxHeartbeats 51200000
namespace Go.Proofs.Ytgekmjkfnhogkaa
open Go.ChangeShapes Go.WideShapes Go.ChangeAt Go.RowKit
theorem cells8 {w:World} {g:Nat} {t:TypeId} {a0 a1 a2 a3 a4 a5 a6 a7:Value} (h:Blk w g t #[a0,a1,a2,a3,a4,a5,a6,a7]) :
  w.cell? ⟨g,0,none⟩=some a0∧w.cell? ⟨g,1,none⟩=some a1∧w.cell? ⟨g,2,none⟩=some a2∧w.cell? ⟨g,3,none⟩=some a3∧w.cell? ⟨g,4,none⟩=some a4∧w.cell? ⟨g,5,none⟩=some a5∧w.cell? ⟨g,6,none⟩=some a6∧w.cell? ⟨g,7,none⟩=some a7 :=
 ⟨h.cell 0,h.cell 1,h.cell 2,h.cell 3,h.cell 4,h.cell 5,h.cell 6,h.cell 7⟩
theorem cells12 {w:World} {g:Nat} {t:TypeId} {a0 a1 a2 a3 a4 a5 a6 a7 a8 a9 a10 a11:Value} (h:Blk w g t #[a0,a1,a2,a3,a4,a5,a6,a7,a8,a9,a10,a11]) :
  w.cell? ⟨g,0,none⟩=some a0∧w.cell? ⟨g,1,none⟩=some a1∧w.cell? ⟨g,2,none⟩=some a2∧w.cell? ⟨g,3,none⟩=some a3∧w.cell? ⟨g,4,none⟩=some a4∧w.cell? ⟨g,5,none⟩=some a5∧w.cell? ⟨g,6,none⟩=some a6∧w.cell? ⟨g,7,none⟩=some a7∧w.cell? ⟨g,8,none⟩=some a8∧w.cell? ⟨g,9,none⟩=some a9∧w.cell? ⟨g,10,none⟩=some a10∧w.cell? ⟨g,11,none⟩=some a11 :=
 ⟨h.cell 0,h.cell 1,h.cell 2,h.cell 3,h.cell 4,h.cell 5,h.cell 6,h.cell 7,h.cell 8,h.cell 9,h.cell 10,h.cell 11⟩
theorem lit_reads (w:World) (t:TypeId) (cs:List Value) (n:Nat) (hs:cs.length=n):Reads (w.alloc (.cells cs.toArray t)) (w.heap.size+1) 1 (some ⟨w.heap.size,0,none⟩) n cs :=
 ⟨by omega,fun _=>⟨_,rfl,by simp,fun j u hj=>by
  have ea:(⟨w.heap.size,0,none⟩:Addr).add j=⟨w.heap.size,j,none⟩:=by simp [Addr.add];exact Eq.symm
  rw [ea,(Blk.new w t _).cell]
  simpa using hj⟩⟩
theorem NewI.mk' {w w' w1:World} {l l':List Int} {A:Option Addr} {n c:Nat} (hl:l=l') (hn:l.length=n) (hr:Reads w' w'.heap.size 1 A n (i64c l)) (hc:n≤c) (hb:Below w1.heap.size w1 w') (hw:Below w.heap.size w w1):NewI w l' (.returned (.slice A n c)) w':=by
 subst hl
 subst hn
 exact ⟨A,c,rfl,hr,hc,hw.trans (hb.mono hw.size)⟩
theorem op_cases {op:Int} (h0:0≤op) (h:op≤255):op=1∨op=2∨op=3∨op=4∨op=5∨op=6∨op=7∨op=8∨op=9∨op=10∨op=11∨op=12∨op=13∨op=14∨op=15∨op=16∨op=17∨op=18∨(op<1∨18<op):=by omega
def wantOf (op:Int):List Int :=
 if op=1 then [110,45,45,45] else if op=2 then [61,45,61,45] else if op=3 then [110,45,110,110] else if op=4 then [110,45,45,45]
 else if op=5 then [45,45,110,45] else if op=6 then [112,45,45,45] else if op=7 then [110,45,112,45] else if op=8 then [45,45,112,110]
 else if op=9 then [45,45,110,45] else if op=10 then [45,45,45,45] else if op=11 then [45,45,45,45] else if op=12 then [45,45,45,45]
 else if op=13 then [45,45,45,45] else if op=14 then [45,45,110,45] else if op=15 then [110,110,45,45] else if op=16 then [110,45,45,45]
 else [45,45,110,45]
def asked (ks:List Int) (bd:Bool) (c p:Int):Prop:=(c=110→fits ks bd p 0)∧(c=112→fits ks bd p 1)
def restOf (gs:List Gr) (g:Gr) (bd:Bool) (n:Nd):Prop :=
 if n.op=2 then (fits g.kinds bd n.d 0∧fits g.kinds bd n.a 0)∨(fits g.kinds bd n.d 1∧fits g.kinds bd n.a 1)
 else if n.op=3 then 7≤n.bop∧n.bop≤20
 else if n.op=4∨n.op=5∨n.op=6 then isOne n.cell g.cells
 else if n.op=15 then n.d≠n.e
 else if n.op=12 then (if n.a=-1 then g.result=false else g.result=true∧fits g.kinds bd n.a 0)
 else if n.op=11 then hands gs g bd n.f n.args∧gets gs g bd n.f n.d
 else if n.op=13 then hands gs g bd n.f n.args
 else True
instance (gs:List Gr) (g:Gr) (bd:Bool) (n:Nd):Decidable (restOf gs g bd n):=by unfold restOf;infer_instance
def rnode (gs:List Gr) (g:Gr) (bd:Bool) (n:Nd):Prop :=
 (1≤n.op∧n.op≤18)∧(∀ x ∈ nextsOf n,isOne x g.nodes.length)∧(∀ i,i<4→asked g.kinds bd ((wantOf n.op).getD i 45) ([n.d,n.e,n.a,n.b].getD i 0))∧restOf gs g bd n
theorem all4 (Q:Nat→Prop):(∀ i,i<4→Q i)↔Q 0∧Q 1∧Q 2∧Q 3 :=
 ⟨fun h=>⟨h 0 (by omega),h 1 (by omega),h 2 (by omega),h 3 (by omega)⟩,fun ⟨h0,h1,h2,h3⟩ i hi=>by
  match i,hi with
  | 0,_=>exact h0
  | 1,_=>exact h1
  | 2,_=>exact h2
  | 3,_=>exact h3⟩
theorem kind_mem {ks:List Int} {p:Int} (h:isOne p ks.length):kindAt ks p ∈ ks:=by
 unfold kindAt
 have hl:p.toNat<ks.length:=by have:=h.1;have:=h.2;omega
 rw [List.getD_eq_getElem?_getD,List.getElem?_eq_getElem hl]
 exact List.getElem_mem hl
theorem move_eq {ks:List Int} {bd:Bool} {d a:Int} (hk:∀ k ∈ ks,k=0∨k=1) :
  ((fits ks bd d 0∧fits ks bd a 0)∨(fits ks bd d 1∧fits ks bd a 1))↔isOne a ks.length∧fits ks bd d (kindAt ks a):=by
 cases bd
 ·constructor
  ·rintro (⟨h1,h2⟩ | ⟨h1,h2⟩)
   ·have e:kindAt ks a=0:=by rcases h2.2 with h | h;cases h;exact h
    rw [e];exact ⟨h2.1,h1⟩
   ·have e:kindAt ks a=1:=by rcases h2.2 with h | h;cases h;exact h
    rw [e];exact ⟨h2.1,h1⟩
  ·rintro ⟨h1,h2⟩
   rcases hk _ (kind_mem h1) with h | h
   ·rw [h] at h2;exact .inl ⟨h2,h1,.inr h⟩
   ·rw [h] at h2;exact .inr ⟨h2,h1,.inr h⟩
 ·constructor
  ·rintro (⟨h1,h2⟩ | ⟨h1,h2⟩)
   ·exact ⟨h2.1,h1.1,.inl rfl⟩
   ·exact ⟨h2.1,h1.1,.inl rfl⟩
  ·rintro ⟨h1,h2⟩
   exact .inl ⟨⟨h2.1,.inl rfl⟩,h1,.inl rfl⟩
theorem ret_eq {ks:List Int} {bd:Bool} {a:Int} {r:Bool}:(if a=-1 then r=false else r=true∧fits ks bd a 0)↔(if r=true then fits ks bd a 0 else a=-1):=by
 by_cases h:a=-1
 ·rw [if_pos h]
  cases r
  ·simp [h]
  ·rw [if_pos rfl]
   constructor
   ·intro h1;cases h1
   ·intro h1;exfalso;have:=h1.1.1;omega
 ·rw [if_neg h]
  cases r
  ·simp [h]
  ·simp
theorem rnode_eq {gs:List Gr} {g:Gr} {bd:Bool} {n:Nd} (hk:∀ k ∈ g.kinds,k=0∨k=1) (h0:0≤n.op) (h1:n.op≤255):rnode gs g bd n↔nodeHolds gs g bd n:=by
 obtain ⟨op,bop,d,e,a,b,f,cell,imm,args,nx,el⟩:=n
 have h0:0≤op:=h0
 have h1:op≤255:=h1
 unfold rnode nodeHolds
 rw [all4]
 have hm:=@move_eq g.kinds bd d a hk
 have hr:=@ret_eq g.kinds bd a g.result
 rcases op_cases h0 h1 with rfl | rfl | rfl | rfl | rfl | rfl | rfl | rfl | rfl | rfl | rfl | rfl | rfl | rfl | rfl | rfl | rfl | rfl | h
 case inr.inr.inr.inr.inr.inr.inr.inr.inr.inr.inr.inr.inr.inr.inr.inr.inr.inr =>
  constructor
  ·rintro ⟨⟨h2,h3⟩,_⟩
   have h2:1≤op:=h2
   have h3:op≤18:=h3
   omega
  ·rintro ⟨h2,_⟩
   exfalso
   unfold uses at h2
   simp only at h2
   repeat (rw [if_neg (by omega)] at h2)
   exact h2
 case inl=>simp [asked,wantOf,restOf,uses,and_comm]
 case inr.inl=>simp only [restOf,uses,if_pos];rw [hm];simp [asked,wantOf,and_comm]
 all_goals first
  | (simp [asked,wantOf,restOf,uses,and_comm,and_assoc];done)
  | (simp [asked,wantOf,restOf,uses,hr,and_comm];done)
  | skip

def rparam (g:Gr) (bd:Bool) (i:Nat):Prop :=
 isOne (g.params.getD i 0) g.kinds.length∧g.params.getD i 0 ∉ g.params.take i∧(bd=true→g.params.getD i 0=i) ∧
  -1≤g.init.getD i 0∧g.init.getD i 0<g.cells∧(0≤g.init.getD i 0→fits g.kinds bd (g.params.getD i 0) 0)
def rhead (g:Gr) (bd:Bool):Prop :=
 g.kinds.length≤1024∧(bd=true→16≤g.kinds.length)∧g.params.length≤4∧g.init.length=g.params.length∧0≤g.cells∧g.cells≤64∧-1≤g.keep∧g.keep<g.cells ∧
  (∀ k ∈ g.kinds,k≤1)∧(∀ i,i<g.params.length→rparam g bd i)∧1≤g.nodes.length∧g.nodes.length≤4096∧isOne g.entry g.nodes.length
theorem not_take {l:List Int} {i:Nat} (h:∀ j,j<l.length→l.getD j 0=j) (hi:i<l.length):l.getD i 0 ∉ l.take i:=by
 intro hm
 obtain ⟨j,hj,e⟩:=List.mem_iff_getElem.1 hm
 rw [List.length_take] at hj
 rw [List.getElem_take] at e
 have h1:=h j (by omega)
 have h2:=h i hi
 rw [List.getD_eq_getElem?_getD,List.getElem?_eq_getElem (by omega)] at h1
 simp only [Option.getD_some] at h1
 rw [h1,h2] at e
 omega
theorem rhead_eq {g:Gr} {bd:Bool} (hb:Byt g.kinds):rhead g bd↔headHolds g bd:=by
 obtain ⟨ps,ks,cells,is,res,keep,nodes,entry⟩:=g
 have hb:Byt ks:=hb
 constructor
 ·rintro ⟨h1,h2,h3,h4,h5,h6,h7,h8,h9,h10,h11,h12,h13⟩
  have h10:∀ i,i<ps.length→rparam ⟨ps,ks,cells,is,res,keep,nodes,entry⟩ bd i:=h10
  have h3:ps.length≤4:=h3
  have h4:is.length=ps.length:=h4
  have h7:-1≤keep:=h7
  have h8:keep<cells:=h8
  refine ⟨⟨h1,h2,fun k hk=>?_⟩,h5,h6,⟨h3,?_⟩,⟨h4,fun i hi=>?_⟩,?_,h12,h13⟩
  ·have:=(hb k hk).1;have:=h9 k hk;omega
  ·show if bd=true then inOrder ps else ∀ i,i<ps.length→isOne (ps.getD i 0) ks.length∧ps.getD i 0 ∉ ps.take i
   cases bd
   ·rw [if_neg (by decide)]
    intro i hi
    exact ⟨(h10 i hi).1,(h10 i hi).2.1⟩
   ·rw [if_pos rfl]
    intro i hi
    exact (h10 i hi).2.2.1 rfl
  ·have hi:i<is.length:=hi
   obtain ⟨k1,k2,k3,k4,k5,k6⟩:=h10 i (by omega)
   have k4:-1≤is.getD i 0:=k4
   have k5:is.getD i 0<cells:=k5
   by_cases hn:is.getD i 0=-1
   ·exact .inl hn
   ·have k0:0≤is.getD i 0:=by omega
    exact .inr ⟨⟨k0,k5⟩,(k6 k0).2⟩
  ·show keep=-1∨isOne keep cells
   by_cases hn:keep=-1
   ·exact .inl hn
   ·exact .inr ⟨by omega,h8⟩
 ·rintro ⟨⟨h1,h2,h9⟩,h5,h6,⟨h3,h10⟩,⟨h4,h11⟩,h7,h12,h13⟩
  have h3:ps.length≤4:=h3
  have h4:is.length=ps.length:=h4
  have h5:0≤cells:=h5
  have h7:keep=-1∨isOne keep cells:=h7
  have h10:if bd=true then inOrder ps else ∀ i,i<ps.length→isOne (ps.getD i 0) ks.length∧ps.getD i 0 ∉ ps.take i:=h10
  have h13':isOne entry nodes.length:=h13
  have h2':bd=true→16≤ks.length:=h2
  refine ⟨h1,h2,h3,h4,h5,h6,?_,?_,fun k hk=>?_,fun i hi=>?_,?_,h12,h13⟩
  ·show -1≤keep
   rcases h7 with h | h
   ·omega
   ·have:=h.1;omega
  ·show keep<cells
   rcases h7 with h | h
   ·omega
   ·exact h.2
  ·rcases h9 k hk with h | h <;> omega
  ·have hi:i<ps.length:=hi
   have h14:=h11 i (by show i<is.length;omega)
   have hone:isOne (ps.getD i 0) ks.length∧ps.getD i 0 ∉ ps.take i∧(bd=true→ps.getD i 0=i):=by
    cases bd
    ·rw [if_neg (by decide)] at h10
     exact ⟨(h10 i hi).1,(h10 i hi).2,fun h=>by cases h⟩
    ·rw [if_pos rfl] at h10
     have h15:=h10 i hi
     have h16:=h2' rfl
     refine ⟨?_,not_take h10 hi,fun _=>h15⟩
     rw [h15]
     exact ⟨by omega,by omega⟩
   refine ⟨hone.1,hone.2.1,hone.2.2,?_,?_,fun h0=>⟨hone.1,?_⟩⟩
   ·show -1≤is.getD i 0
    rcases h14 with h | h
    ·have h:is.getD i 0=-1:=h
     omega
    ·have:=h.1.1;have h:0≤is.getD i 0:=this;omega
   ·show is.getD i 0<cells
    rcases h14 with h | h
    ·have h:is.getD i 0=-1:=h
     omega
    ·exact h.1.2
   ·rcases h14 with h | h
    ·exfalso
     have h:is.getD i 0=-1:=h
     have h0:0≤is.getD i 0:=h0
     omega
    ·exact h.2
  ·show 1≤nodes.length
   have:=h13'.1;have:=h13'.2;omega
theorem own_set {w:World} {base size n c g i:Nat} {e:TypeId} {xs:List Value} {u:Value} (h:w.ownsRow base e size (.slice (some ⟨g,0,none⟩) n c) n xs):(w.setCell ⟨g,i,none⟩ u).ownsRow base e size (.slice (some ⟨g,0,none⟩) n c) n (xs.set i u):=by
 obtain ⟨h1,h2⟩:=h
 refine ⟨by rw [List.length_set];exact h1,?_⟩
 rcases h2 with ⟨h2,_⟩ | ⟨g',cap,cur,he,hg,hb,hn,hm,hc,ht⟩
 ·cases h2
 ·injection he with he hc1 hc2
  injection he with he
  injection he with he
  subst he hc2
  refine .inr ⟨g,c,cur.setIfInBounds i u,rfl,hg,Blk.set_ (t:=e) (cs:=cur) hb i u,hn,hm,by simpa using hc,?_⟩
  rw [← ht]
  simp [List.take_set]
def OwnN (w:World) (base:Nat) (i:RN):Prop:=w.ownsRow base 3 1 (.slice i.ao i.nd.args.length i.ac) i.nd.args.length (i64c i.nd.args)
structure OwnG (w:World) (base:Nat) (r:RG):Prop where
 params:w.ownsRow base 3 1 (.slice r.po r.gr.params.length r.pc) r.gr.params.length (i64c r.gr.params)
 kinds:w.ownsRow base 46 1 (.slice r.ko r.gr.kinds.length r.kc) r.gr.kinds.length (u8c r.gr.kinds)
 init:w.ownsRow base 3 1 (.slice r.io r.gr.init.length r.ic) r.gr.init.length (i64c r.gr.init)
 nodes:w.ownsRow base 70 12 (.slice r.no r.gr.nodes.length r.nc) r.gr.nodes.length (rnc r.ns)
 each:∀ i ∈ r.ns,OwnN w base i
 nd:nds r.ns=r.gr.nodes
theorem OwnN.below {w w':World} {base:Nat} {i:RN} (h:OwnN w base i) (hb:Below w.heap.size w w'):OwnN w' base i:=own_below h hb
theorem OwnG.below {w w':World} {base:Nat} {r:RG} (h:OwnG w base r) (hb:Below w.heap.size w w'):OwnG w' base r :=
 ⟨own_below h.params hb,own_below h.kinds hb,own_below h.init hb,own_below h.nodes hb,fun i hi=>(h.each i hi).below hb,h.nd⟩
theorem OwnG.more {w:World} {base base':Nat} {r:RG} (h:OwnG w base r) (hb:base'≤base):OwnG w base' r :=
 ⟨own_more h.params hb,own_more h.kinds hb,own_more h.init hb,own_more h.nodes hb,fun i hi=>own_more (h.each i hi) hb,h.nd⟩
theorem OwnG.rd {w:World} {base:Nat} {r:RG} (h:OwnG w base r) (hw:WfG r.gr):RdG w w.heap.size r:=by
 refine ⟨Reads.of_own h.params,Reads.of_own h.kinds,Reads.of_own h.init,⟨Reads.of_own h.nodes,by rw [← length_nds,h.nd],fun i hi=>⟨Reads.of_own (h.each i hi),own_cap (h.each i hi)⟩,fun i hi=>hw.nodes _ (by rw [← h.nd];exact List.mem_map_of_mem hi)⟩,h.nd,own_cap h.params⟩
theorem rnc_set {ns:List RN} {k:Nat} {i:RN} (h:ns[k]?=some i) (ao:Option Addr) (ac:Nat):(rnc ns).set (k*12+9) (.slice ao i.nd.args.length ac)=rnc (ns.set k ⟨i.nd,ao,ac⟩):=by
 induction ns generalizing k with
 | nil=>cases h
 | cons x ns ih =>
  cases k with
  | zero =>
   obtain rfl:x=i:=by simpa using h
   show (rnOne x ++ rnc ns).set (0*12+9) _=rnOne _ ++ rnc ns
   rfl
  | succ k =>
   show (rnOne x ++ rnc ns).set ((k+1)*12+9) _=rnOne x ++ rnc (ns.set k _)
   rw [← ih (by simpa using h),List.set_append_right _ _ (by show 12≤_;omega)]
   congr 2
   show (k+1)*12+9-12=_
   omega
theorem own_blk {w:World} {base size n c g:Nat} {e:TypeId} {xs:List Value} (h:w.ownsRow base e size (.slice (some ⟨g,0,none⟩) n c) n xs):∃ cur,Blk w g e cur:=by
 rcases h.2 with ⟨h2,_⟩ | ⟨g',cap,cur,he,_,hb,_⟩
 ·cases h2
 ·injection he with he
  injection he with he
  injection he with he
  subst he
  exact ⟨cur,hb⟩
structure CgI (w:World) (r:RG) (Ap Ak Ai An:Option Addr) (cp ck ci cn nP nK nI nN:Nat) (k:Nat) (ns:List RN) (wr:World):Prop where
 box:Blk wr w.heap.size 45 #[.slice Ap nP cp,.slice Ak nK ck,.int .i64 r.gr.cells,.slice Ai nI ci,.bool r.gr.result,.int .i64 r.gr.keep,.slice An nN cn,.int .i64 r.gr.entry]
 res:Blk wr (w.heap.size+1) 45 #[.slice none 0 0,.slice none 0 0,.int .i64 0,.slice none 0 0,.bool false,.int .i64 0,.slice none 0 0,.int .i64 0]
 params:wr.ownsRow w.heap.size 3 1 (.slice Ap nP cp) nP (i64c r.gr.params)
 kinds:wr.ownsRow w.heap.size 46 1 (.slice Ak nK ck) nK (u8c r.gr.kinds)
 init:wr.ownsRow w.heap.size 3 1 (.slice Ai nI ci) nI (i64c r.gr.init)
 nodes:wr.ownsRow w.heap.size 70 12 (.slice An nN cn) nN (rnc ns)
 nd:nds ns=r.gr.nodes
 new:∀ j i,j<k→ns[j]?=some i→OwnN wr w.heap.size i
 old:∀ j,k≤j→ns[j]?=r.ns[j]?
 below:Below w.heap.size w wr
theorem CgI.step {w:World} {r:RG} {Ap Ak Ai An:Option Addr} {cp ck ci cn nP nK nI nN k g c':Nat} {A':Option Addr} {ns:List RN} {wr w2:World} {i:RN} (h:CgI w r Ap Ak Ai An cp ck ci cn nP nK nI nN k ns wr) (hi:ns[k]?=some i) (hA:An=some ⟨g,0,none⟩) (hb:Below wr.heap.size wr w2)
  (ho:w2.ownsRow wr.heap.size 3 1 (.slice A' i.nd.args.length c') i.nd.args.length (i64c i.nd.args)) :
  CgI w r Ap Ak Ai An cp ck ci cn nP nK nI nN (k+1) (ns.set k ⟨i.nd,A',c'⟩) (w2.setCell ⟨g,k*12+9,none⟩ (.slice A' i.nd.args.length c')):=by
 subst hA
 have hn2:=own_below h.nodes hb
 obtain ⟨cur,hcur⟩:=own_blk hn2
 have hx2:=h.box.below hb h.box.lt
 have hy2:=h.res.below hb h.res.lt
 have hz:=h.below.size
 have hbl2:=h.below.trans (hb.mono hz)
 have hkl:k<ns.length:=(List.getElem?_eq_some_iff.1 hi).1
 have hgb:w.heap.size≤g:=(own_block_le hn2 (i:=g) (by rfl)).1
 refine ⟨hx2.far (p:=⟨g,k*12+9,none⟩) (hx2.ne_ hcur (by decide)) _,hy2.far (p:=⟨g,k*12+9,none⟩) (hy2.ne_ hcur (by decide)) _,own_far (own_below h.params hb) hcur (by decide) _ _,own_far (own_below h.kinds hb) hcur (by decide) _ _,own_far (own_below h.init hb) hcur (by decide) _ _,?_,?_,?_,?_,hbl2.setCell (p:=⟨g,k*12+9,none⟩) hgb _⟩
 ·have:=own_set (i:=k*12+9) (u:=.slice A' i.nd.args.length c') hn2
  rwa [rnc_set hi] at this
 ·rw [← h.nd]
  unfold nds
  rw [List.map_set]
  show (ns.map RN.nd).set k i.nd=_
  refine List.ext_getElem? fun j=>?_
  rw [List.getElem?_set]
  split
  ·rename_i hkj
   subst hkj
   rw [List.getElem?_map,hi]
   simp [hkl]
  ·rfl
 ·intro j i' hj hij
  rw [List.getElem?_set] at hij
  split at hij
  ·rename_i hkj
   subst hkj
   injection hij with hij
   subst hij
   exact own_far (own_more ho hz) hcur (by decide) _ _
  ·rename_i hkj
   exact own_far (own_below (h.new j i' (by omega) hij) hb) hcur (by decide) _ _
 ·intro j hj
  rw [List.getElem?_set,if_neg (by omega)]
  exact h.old j (by omega)
theorem OwnG.set {w:World} {base p j:Nat} {r:RG} {u:Value} {cs:Array Value} (h:OwnG w base r) (hb:Blk w p 45 cs):OwnG (w.setCell ⟨p,j,none⟩ u) base r :=
 ⟨own_far h.params hb (by decide) _ _,own_far h.kinds hb (by decide) _ _,own_far h.init hb (by decide) _ _,own_far h.nodes hb (by decide) _ _,fun i hi=>own_far (h.each i hi) hb (by decide) _ _,h.nd⟩
theorem blk_2nd (w:World) (a b:Array Value) (s t:TypeId):Blk ((w.alloc (.cells a s)).alloc (.cells b t)) (w.heap.size+1) t b:=by
 have:=Blk.new (w.alloc (.cells a s)) t b
 rwa [show (w.alloc (.cells a s)).heap.size=w.heap.size+1 by simp] at this
end Go.Proofs.Ytgekmjkfnhogkaa
