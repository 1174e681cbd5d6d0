/-
  ScanRight is true for every program of graphs and every number: every graph's places get places of the machine by which none is in another's way and none is lost in a call, and the graphs are unchanged; no condition.
-/
import Derived.Deep.Slices
import Derived.Deep.Fields
import Derived.ChangeSame
import Derived.Lib.SmallJoins
import Derived.OpenShut
import Derived.ShutString
import Derived.SizedLaws
import Derived.Lib.LaidTab
import Derived.Test.YtedmcfaghfgpoaaGreatDoorCards
import Derived.Test.YtedmcfaghfgpoaaGreatDoorTie
import Derived.WalkKit
import Derived.ProofKit
import Derived.ChangeOld
import Derived.Below
import Derived.Deep.DeepHandedRow
import Derived.LaidMore
import Derived.Deep.DeepWitnessRowRef
import Derived.SevenTiedAt
import Derived.Test.YtedmcfaghfgpoaaGreatDoorMA2
import Derived.Test.YtedmcfaghfgpoaaGreatDoorMA5
import Derived.Test.YtedmcfaghfgpoaaGreatDoorMA33

set_option linter.unusedVariables false
set_option linter.unusedSimpArgs false
set_option maxRecDepth 100000
set_option maxHeartbeats 51200000
namespace Go.Proofs.YtedmcfaghfgpoaaGreatDoor
open Go.ChangeShapes Go.WideShapes Go.ChangeAt Go.RowKit Go.Joins
open Go.Deep
section
variable {H:Type} {enc:TypeId × Value→H} {P:Program} {w:World} {base:Nat} {spare:Nat→Bool} {held:Bool}
theorem open_slice_fields {t e:TypeId} {fs:Array Field} {fuel:Nat} {cs:List Value} {x:DataW H × List MemPlace} (ht:P.underlying t=some (.slice e)) (he:P.underlying e=some (.struct fs))
  (hone:oneCellFields P fs=true) (hC:P.cellsOf e=fs.size) (h:DataW.trod enc P w base spare held fuel t cs=some x) :
  (cs=[.slice none 0 0]∧x=(.nil,[])) ∨
  ∃ (a:Addr) (len cap m:Nat) (D:Nat→DataW H) (Pl:Nat→List MemPlace),cs=[.slice (some a) len cap]∧base≤a.block∧len≤cap∧cap≤maxLen∧m=(if spare a.block then cap else len) ∧
   x=(.slice ((List.range len).map D) ((List.range (m-len)).map fun j=>D (len+j)),MemPlace.row a (m*fs.size) ++ (List.range m).flatMap Pl) ∧
   ∀ i,i<m→∃ (ys:List (DataW H × List MemPlace)) (n:Nat),D i=.agg (ys.map (·.1))∧Pl i=ys.flatMap (·.2)∧ys.length=fs.size ∧
    ∀ (j:Nat) (f:Field),fs[j]?=some f→∃ (v:Value) (y:DataW H × List MemPlace),w.cell? (a.add (i*fs.size+j))=some v∧ys[j]?=some y∧DataW.trod enc P w base spare held n f.type [v]=some y:=by
 rcases open_slice ht h with h0 | ⟨a,len,cap,m,n,D,Pl,hcs,hb,hl,hm,hmm,hx,hi⟩
 ·exact .inl h0
 ·refine .inr ⟨a,len,cap,m,D,Pl,hcs,hb,hl,hm,hmm,by rw [hC] at hx;exact hx,fun i him=>?_⟩
  obtain ⟨cs',hc,ht'⟩:=hi i him
  rw [hC] at hc
  obtain ⟨ys,n',hn',hy,hlen,hyl,hf⟩:=DataW.trod_struct he ht'
  obtain ⟨_,hcl,hat⟩:=World.cells?_some hc
  simp only [Prod.mk.injEq] at hy
  refine ⟨ys,n',hy.1,hy.2,hyl,fun j f hj=>?_⟩
  obtain ⟨ho,hk⟩:=hone_of hone j f hj
  have hjl:j<fs.size:=(Array.getElem?_eq_some_iff.1 hj).1
  have hcell:=hat j hjl
  have hv:cs'[j]?=some (cs'[j]'(by omega)):=List.getElem?_eq_getElem (by omega)
  have h1:=hf j f hj
  rw [ho,hk] at h1
  have hone':(cs'.drop j).take 1=[cs'[j]'(by omega)]:=by
   rw [List.drop_eq_getElem_cons (by omega)]
   rfl
  rw [hone'] at h1
  have hys:ys[j]?=some (ys[j]'(by omega)):=List.getElem?_eq_getElem (by omega)
  refine ⟨_,_,?_,hys,h1.trans hys⟩
  rw [← Go.Deep.add_add,hcell,hv]
end
theorem row_of {α:Type} {P:Nat→α→Prop}:∀ (n:Nat),(∀ i,i<n→∃ x,P i x)→∃ l:List α,l.length=n∧∀ (i:Nat) (x:α),l[i]?=some x→P i x
 | 0,_=>⟨[],rfl,fun i x h=>by simp at h⟩
 | n+1,h=>by
  obtain ⟨l,hl,hP⟩:=row_of n fun i hi=>h i (by omega)
  obtain ⟨x,hx⟩:=h n (by omega)
  refine ⟨l ++ [x],by simp [hl],fun i y hy=>?_⟩
  rcases Nat.lt_trichotomy i n with h1 | h1 | h1
  ·rw [List.getElem?_append_left (by omega)] at hy
   exact hP i y hy
  ·subst h1
   rw [List.getElem?_append_right (by omega)] at hy
   simp [hl] at hy
   subst hy
   exact hx
  ·rw [List.getElem?_eq_none (by simp;omega)] at hy
   cases hy

theorem wf_i64 {n:Int} (h:(Lit.int .i64 n).wf=true):-9223372036854775808≤n∧n≤9223372036854775807:=by
 simp [Lit.wf,IntKind.min,IntKind.max,IntKind.signed,IntKind.bits] at h
 exact h
theorem wf_u64 {n:Int} (h:(Lit.int .u64 n).wf=true):0≤n∧n<18446744073709551616:=by
 simp [Lit.wf,IntKind.min,IntKind.max,IntKind.signed,IntKind.bits] at h
 omega

theorem wf_u8 {n:Int} (h:(Lit.int .u8 n).wf=true):0≤n∧n≤255:=by
 simp [Lit.wf,IntKind.min,IntKind.max,IntKind.signed,IntKind.bits] at h
 omega
theorem flat_inv {α:Type} (f:α→List Value) (m:Nat) (hm:0<m) (hf:∀ x,(f x).length=m) (l:List α) (j:Nat) (u:Value) (h:(l.flatMap f)[j]?=some u):∃ i x k,l[i]?=some x∧k<m∧j=i*m+k∧(f x)[k]?=some u:=by
 induction l generalizing j with
 | nil=>simp at h
 | cons y l ih =>
  rw [List.flatMap_cons] at h
  by_cases hj:j<m
  ·rw [List.getElem?_append_left (by rw [hf];exact hj)] at h
   exact ⟨0,y,j,rfl,hj,by omega,h⟩
  ·rw [List.getElem?_append_right (by rw [hf];omega),hf] at h
   obtain ⟨i,x,k,hx,hk,hjk,hu⟩:=ih (j-m) h
   exact ⟨i+1,x,k,by simpa using hx,hk,by rw [Nat.succ_mul];omega,hu⟩

section
variable {H:Type} {enc:TypeId × Value→H} {W:World}
theorem block_of_cell {W:World} {a:Addr} {u:Value} (h:W.cell? (a.add 0)=some u):a.block<W.heap.size:=by
 rcases Nat.lt_or_ge a.block W.heap.size with hlt | hge
 ·exact hlt
 ·have:a.add 0=a:=by simp [Addr.add]
  rw [this] at h
  simp [World.cell?,Array.getElem?_eq_none hge] at h

theorem open_u8 {t e:TypeId} (ht:Tryz.prog.underlying t=some (.slice e)) (he:Tryz.prog.underlying e=some (.int .u8)) (hc1:Tryz.prog.cellsOf e=1) {fuel:Nat} {cs:List Value} {x:DataW H × List MemPlace}
  (h:DataW.trod enc Tryz.prog W 0 (fun _=>true) true fuel t cs=some x) :
  ∃ (ao:Option Addr) (c:Nat) (l:List Int),cs=[.slice ao l.length c]∧Reads W W.heap.size 1 ao l.length (u8c l)∧Byt l∧l.length≤c∧c≤maxLen∧(ao=none→c=0) ∧
   ((x.1=.nil∧c=0)∨∃ elems spare,x.1=.slice elems spare∧elems.length+spare.length=c):=by
 rcases open_ints ht he hc1 h with ⟨hcs,hx⟩ | ⟨a,len,cap,zs,hcs,_,hl,hm,hz,hx,hcell,hwz⟩
 ·exact ⟨none,0,[],hcs,Reads.none_,Byt.nil,Nat.le_refl _,Nat.zero_le _,fun _=>rfl,.inl ⟨by rw [hx],rfl⟩⟩
 ·simp only [if_true] at hz
  have hlen:(zs.take len).length=len:=by simp;omega
  refine ⟨some a,cap,zs.take len,by rw [hlen];exact hcs,?_,fun y hy=>wf_u8 (hwz y (List.mem_of_mem_take hy)),by rw [hlen];exact hl,hm,(fun h=>by cases h),.inr ⟨_,_,by rw [hx],by simp [lits];omega⟩⟩
  rw [hlen]
  refine ⟨by rw [length_u8c,hlen];simp,fun hn=>⟨a,rfl,block_of_cell (hcell 0 (by omega)),fun j u hu=>?_⟩⟩
  unfold u8c at hu
  rw [List.getElem?_map] at hu
  have hjl:j<(zs.take len).length:=by
   rcases Nat.lt_or_ge j (zs.take len).length with h1 | h1
   ·exact h1
   ·rw [List.getElem?_eq_none h1] at hu;cases hu
  have hjz:j<zs.length:=by simp at hjl;omega
  have hjn:j<len:=by simp at hjl;omega
  rw [hcell j hjz,← hu,List.getElem?_take,if_pos hjn,List.getElem?_eq_getElem hjz]
  simp [List.getD,hjz]

theorem open_i64 {t e:TypeId} (ht:Tryz.prog.underlying t=some (.slice e)) (he:Tryz.prog.underlying e=some (.int .i64)) (hc1:Tryz.prog.cellsOf e=1) {fuel:Nat} {cs:List Value} {x:DataW H × List MemPlace}
  (h:DataW.trod enc Tryz.prog W 0 (fun _=>true) true fuel t cs=some x) :
  ∃ (ao:Option Addr) (c:Nat) (l:List Int),cs=[.slice ao l.length c]∧Reads W W.heap.size 1 ao l.length (i64c l)∧(∀ y ∈ l,I64 y)∧l.length≤c∧c≤maxLen∧(ao=none→c=0) ∧
   ((x.1=.nil∧c=0)∨∃ elems spare,x.1=.slice elems spare∧elems.length+spare.length=c):=by
 rcases open_ints ht he hc1 h with ⟨hcs,hx⟩ | ⟨a,len,cap,zs,hcs,_,hl,hm,hz,hx,hcell,hwz⟩
 ·exact ⟨none,0,[],hcs,Reads.none_,(fun _ h=>by cases h),Nat.le_refl _,Nat.zero_le _,fun _=>rfl,.inl ⟨by rw [hx],rfl⟩⟩
 ·simp only [if_true] at hz
  have hlen:(zs.take len).length=len:=by simp;omega
  refine ⟨some a,cap,zs.take len,by rw [hlen];exact hcs,?_,fun y hy=>wf_i64 (hwz y (List.mem_of_mem_take hy)),by rw [hlen];exact hl,hm,(fun h=>by cases h),.inr ⟨_,_,by rw [hx],by simp [lits];omega⟩⟩
  rw [hlen]
  refine ⟨by rw [length_i64c,hlen];simp,fun hn=>⟨a,rfl,block_of_cell (hcell 0 (by omega)),fun j u hu=>?_⟩⟩
  unfold i64c at hu
  rw [List.getElem?_map] at hu
  have hjl:j<(zs.take len).length:=by
   rcases Nat.lt_or_ge j (zs.take len).length with h1 | h1
   ·exact h1
   ·rw [List.getElem?_eq_none h1] at hu;cases hu
  have hjz:j<zs.length:=by simp at hjl;omega
  have hjn:j<len:=by simp at hjl;omega
  rw [hcell j hjz,← hu,List.getElem?_take,if_pos hjn,List.getElem?_eq_getElem hjz]
  simp [List.getD,hjz]

def Small (t:TypeId) (d:DataW H):Prop:=∀ x ∈ d.weights Tryz.prog t,x≤reachBytes
theorem small_slice {t e:TypeId} {elems spare:List (DataW H)} {b:Nat} (h:Small t (DataW.slice elems spare)) (ht:Tryz.prog.underlying t=some (.slice e)) (hb:Tryz.prog.bytesOf e=b):(elems.length+spare.length)*b≤140737488351232:=by
 have:=h ((elems.length+spare.length)*Tryz.prog.bytesOf e) (by simp [DataW.weights,ht])
 rw [hb] at this
 simpa [reachBytes] using this
theorem mem_weightsAll {P:Program} {e:TypeId} {d:DataW H} {l:List (DataW H)} (hd:d ∈ l) {x:Nat} (hx:x ∈ d.weights P e):x ∈ DataW.weightsAll P e l:=by
 induction l with
 | nil=>cases hd
 | cons y l ih =>
  rw [DataW.weightsAll,List.mem_append]
  rcases List.mem_cons.1 hd with rfl | hd
  ·exact .inl hx
  ·exact .inr (ih hd)
theorem small_elem {t e:TypeId} {elems spare:List (DataW H)} (h:Small t (DataW.slice elems spare)) (ht:Tryz.prog.underlying t=some (.slice e)) {d:DataW H} (hd:d ∈ elems):Small e d:=by
 intro x hx
 refine h x ?_
 simp only [DataW.weights,ht,List.mem_cons,List.mem_append]
 exact .inr (.inl (mem_weightsAll hd hx))
theorem small_field {t:TypeId} {fs:Array Field} {parts:List (DataW H)} (h:Small t (DataW.agg parts)) (ht:Tryz.prog.underlying t=some (.struct fs)) {j:Nat} {f:Field} {d:DataW H} (hf:(fs.toList.map (·.type))[j]?=some f.type) (hd:parts[j]?=some d):Small f.type d:=by
 intro x hx
 refine h x ?_
 simp only [DataW.weights,ht]
 exact DataW.weights_mem_each hf hd x hx

theorem open_nodes {fuel:Nat} {cs:List Value} {x:DataW H × List MemPlace} (h:DataW.trod enc Tryz.prog W 0 (fun _=>true) true fuel 33 cs=some x) (hs:Small 33 x.1) :
  ∃ (ao:Option Addr) (n c:Nat) (ns:List RN),cs=[.slice ao n c]∧RdNs W W.heap.size ao n ns∧n*104≤140737488351232:=by
 rcases open_slice_fields Tryz.underlying33 Tryz.underlying47 (by kernel_rfl) (by kernel_rfl) h with ⟨hcs,hx⟩ | ⟨a,len,cap,m,D,Pl,hcs,_,hl,hm,hmm,hx,hi⟩
 ·exact ⟨none,0,0,[],hcs,⟨Reads.none_,rfl,(fun r hr=>by cases hr),(fun r hr=>by cases hr)⟩,by omega⟩
 ·simp only [if_true] at hmm
  subst hmm
  rw [hx] at hs
  have hsz:=small_slice hs Tryz.underlying33 (show Tryz.prog.bytesOf 47=104 by kernel_rfl)
  obtain ⟨l,hll,hlp⟩:=row_of (P:=fun i (x:RN)=>RdN W W.heap.size x∧WfN x.nd∧W.cell? (a.add (i*12))=some (.int .u8 x.nd.op)∧W.cell? (a.add (i*12+1))=some (.int .u8 x.nd.bop)∧W.cell? (a.add (i*12+2))=some (.int .i64 x.nd.d)∧W.cell? (a.add (i*12+3))=some (.int .i64 x.nd.e)∧W.cell? (a.add (i*12+4))=some (.int .i64 x.nd.a)∧W.cell? (a.add (i*12+5))=some (.int .i64 x.nd.b)∧W.cell? (a.add (i*12+6))=some (.int .i64 x.nd.f)∧W.cell? (a.add (i*12+7))=some (.int .i64 x.nd.cell)∧W.cell? (a.add (i*12+8))=some (.int .u64 x.nd.imm)∧W.cell? (a.add (i*12+9))=some (.slice x.ao x.nd.args.length x.ac)∧W.cell? (a.add (i*12+10))=some (.int .i64 x.nd.next)∧W.cell? (a.add (i*12+11))=some (.int .i64 x.nd.els)) len (fun i hin=>by
   obtain ⟨ys,k,hD,_,hyl,hj⟩:=hi i (by omega)
   have hsi:Small 47 (D i):=small_elem hs Tryz.underlying33 (List.mem_map.2 ⟨i,List.mem_range.2 hin,rfl⟩)
   rw [hD] at hsi
   obtain ⟨v0,y0,hc0,hy0,ht0⟩:=hj 0 _ rfl
   obtain ⟨v1,y1,hc1,hy1,ht1⟩:=hj 1 _ rfl
   obtain ⟨v2,y2,hc2,hy2,ht2⟩:=hj 2 _ rfl
   obtain ⟨v3,y3,hc3,hy3,ht3⟩:=hj 3 _ rfl
   obtain ⟨v4,y4,hc4,hy4,ht4⟩:=hj 4 _ rfl
   obtain ⟨v5,y5,hc5,hy5,ht5⟩:=hj 5 _ rfl
   obtain ⟨v6,y6,hc6,hy6,ht6⟩:=hj 6 _ rfl
   obtain ⟨v7,y7,hc7,hy7,ht7⟩:=hj 7 _ rfl
   obtain ⟨v8,y8,hc8,hy8,ht8⟩:=hj 8 _ rfl
   obtain ⟨v9,y9,hc9,hy9,ht9⟩:=hj 9 _ rfl
   obtain ⟨v10,y10,hc10,hy10,ht10⟩:=hj 10 _ rfl
   obtain ⟨v11,y11,hc11,hy11,ht11⟩:=hj 11 _ rfl
   obtain ⟨n0,e0,_,w0⟩:=DataW.trod_int Tryz.underlying43 ht0
   obtain ⟨n1,e1,_,w1⟩:=DataW.trod_int Tryz.underlying44 ht1
   obtain ⟨n2,e2,_,w2⟩:=DataW.trod_int Tryz.underlying3 ht2
   obtain ⟨n3,e3,_,w3⟩:=DataW.trod_int Tryz.underlying3 ht3
   obtain ⟨n4,e4,_,w4⟩:=DataW.trod_int Tryz.underlying3 ht4
   obtain ⟨n5,e5,_,w5⟩:=DataW.trod_int Tryz.underlying3 ht5
   obtain ⟨n6,e6,_,w6⟩:=DataW.trod_int Tryz.underlying3 ht6
   obtain ⟨n7,e7,_,w7⟩:=DataW.trod_int Tryz.underlying3 ht7
   obtain ⟨n8,e8,_,w8⟩:=DataW.trod_int Tryz.underlying45 ht8
   obtain ⟨ao,ac,xs9,e9,hr9,hw9,hac,_,_,hd9⟩:=open_i64 Tryz.underlying26 Tryz.underlying3 (by kernel_rfl) ht9
   obtain ⟨n10,e10,_,w10⟩:=DataW.trod_int Tryz.underlying3 ht10
   obtain ⟨n11,e11,_,w11⟩:=DataW.trod_int Tryz.underlying3 ht11
   have s9:Small 26 y9.1:=small_field hsi Tryz.underlying47 (j:=9) rfl (by rw [List.getElem?_map,hy9];rfl)
   have b9:xs9.length*8≤140737488351232:=by
    rcases hd9 with ⟨_,h0⟩ | ⟨elems,spare,he,hc⟩
    ·omega
    ·rw [he] at s9
     have:=small_slice s9 Tryz.underlying26 (show Tryz.prog.bytesOf 3=8 by kernel_rfl)
     omega
   have h0:=wf_u8 w0
   have h1:=wf_u8 w1
   have h2:=wf_i64 w2
   have h3:=wf_i64 w3
   have h4:=wf_i64 w4
   have h5:=wf_i64 w5
   have h6:=wf_i64 w6
   have h7:=wf_i64 w7
   have h8:=wf_u64 w8
   have h10:=wf_i64 w10
   have h11:=wf_i64 w11
   simp only [List.cons.injEq,and_true] at e0 e1 e2 e3 e4 e5 e6 e7 e8 e9 e10 e11
   subst e0 e1 e2 e3 e4 e5 e6 e7 e8 e9 e10 e11
   exact ⟨⟨⟨n0,n1,n2,n3,n4,n5,n6,n7,n8,xs9,n10,n11⟩,ao,ac⟩,⟨hr9,hac⟩,⟨h0.1,h0.2,h1.1,h1.2,h2,h3,h4,h5,h6,h7,h8.1,by show n8≤_;omega,hw9,h10,h11,b9⟩,hc0,hc1,hc2,hc3,hc4,hc5,hc6,hc7,hc8,hc9,hc10,hc11⟩)
  refine ⟨some a,len,m,l,hcs,⟨⟨by rw [length_rnc,hll],fun hn=>⟨a,rfl,?_,fun j u hu=>?_⟩⟩,hll,fun r hr=>?_,fun r hr=>?_⟩,?_⟩
  ·obtain ⟨x,hx0⟩:∃ x,l[0]?=some x:=⟨_,List.getElem?_eq_getElem (by omega)⟩
   exact block_of_cell (hlp 0 x hx0).2.2.1
  ·obtain ⟨i,x,k,hxi,hk,rfl,hv⟩:=flat_inv rnOne 12 (by omega) (fun _=>rfl) l j u hu
   have hp:=hlp i x hxi
   obtain rfl | rfl | rfl | rfl | rfl | rfl | rfl | rfl | rfl | rfl | rfl | rfl:k=0∨k=1∨k=2∨k=3∨k=4∨k=5∨k=6∨k=7∨k=8∨k=9∨k=10∨k=11:=by omega
   ·rw [← hv];exact hp.2.2.1
   ·rw [← hv];exact hp.2.2.2.1
   ·rw [← hv];exact hp.2.2.2.2.1
   ·rw [← hv];exact hp.2.2.2.2.2.1
   ·rw [← hv];exact hp.2.2.2.2.2.2.1
   ·rw [← hv];exact hp.2.2.2.2.2.2.2.1
   ·rw [← hv];exact hp.2.2.2.2.2.2.2.2.1
   ·rw [← hv];exact hp.2.2.2.2.2.2.2.2.2.1
   ·rw [← hv];exact hp.2.2.2.2.2.2.2.2.2.2.1
   ·rw [← hv];exact hp.2.2.2.2.2.2.2.2.2.2.2.1
   ·rw [← hv];exact hp.2.2.2.2.2.2.2.2.2.2.2.2.1
   ·rw [← hv];exact hp.2.2.2.2.2.2.2.2.2.2.2.2.2
  ·obtain ⟨i,hil,rfl⟩:=List.getElem_of_mem hr
   exact (hlp i _ (List.getElem?_eq_getElem hil)).1
  ·obtain ⟨i,hil,rfl⟩:=List.getElem_of_mem hr
   exact (hlp i _ (List.getElem?_eq_getElem hil)).2.1
  ·simp at hsz
   have:=Nat.mul_le_mul_right 104 hl
   omega

theorem open_graphs {fuel:Nat} {cs:List Value} {x:DataW H × List MemPlace} (h:DataW.trod enc Tryz.prog W 0 (fun _=>true) true fuel 22 cs=some x) (hs:Small 22 x.1) :
  ∃ (ao:Option Addr) (n c:Nat) (rs:List RG),cs=[.slice ao n c]∧RdP W W.heap.size ao n rs:=by
 rcases open_slice_fields Tryz.underlying22 Tryz.underlying35 (by kernel_rfl) (by kernel_rfl) h with ⟨hcs,hx⟩ | ⟨a,len,cap,m,D,Pl,hcs,_,hl,hm,hmm,hx,hi⟩
 ·exact ⟨none,0,0,[],hcs,⟨Reads.none_,rfl,(fun r hr=>by cases hr),(fun r hr=>by cases hr),by omega⟩⟩
 ·simp only [if_true] at hmm
  subst hmm
  rw [hx] at hs
  have hsz:=small_slice hs Tryz.underlying22 (show Tryz.prog.bytesOf 35=128 by kernel_rfl)
  obtain ⟨l,hll,hlp⟩:=row_of (P:=fun i (r:RG)=>RdG W W.heap.size r∧WfG r.gr∧W.cell? (a.add (i*8))=some (.slice r.po r.gr.params.length r.pc)∧W.cell? (a.add (i*8+1))=some (.slice r.ko r.gr.kinds.length r.kc)∧W.cell? (a.add (i*8+2))=some (.int .i64 r.gr.cells)∧W.cell? (a.add (i*8+3))=some (.slice r.io r.gr.init.length r.ic)∧W.cell? (a.add (i*8+4))=some (.bool r.gr.result)∧W.cell? (a.add (i*8+5))=some (.int .i64 r.gr.keep)∧W.cell? (a.add (i*8+6))=some (.slice r.no r.gr.nodes.length r.nc)∧W.cell? (a.add (i*8+7))=some (.int .i64 r.gr.entry)) len (fun i hin=>by
   obtain ⟨ys,k,hD,_,hyl,hj⟩:=hi i (by omega)
   have hsi:Small 35 (D i):=small_elem hs Tryz.underlying22 (List.mem_map.2 ⟨i,List.mem_range.2 hin,rfl⟩)
   rw [hD] at hsi
   obtain ⟨v0,y0,hc0,hy0,ht0⟩:=hj 0 _ rfl
   obtain ⟨v1,y1,hc1,hy1,ht1⟩:=hj 1 _ rfl
   obtain ⟨v2,y2,hc2,hy2,ht2⟩:=hj 2 _ rfl
   obtain ⟨v3,y3,hc3,hy3,ht3⟩:=hj 3 _ rfl
   obtain ⟨v4,y4,hc4,hy4,ht4⟩:=hj 4 _ rfl
   obtain ⟨v5,y5,hc5,hy5,ht5⟩:=hj 5 _ rfl
   obtain ⟨v6,y6,hc6,hy6,ht6⟩:=hj 6 _ rfl
   obtain ⟨v7,y7,hc7,hy7,ht7⟩:=hj 7 _ rfl
   have s0:Small 26 y0.1:=small_field hsi Tryz.underlying35 (j:=0) rfl (by rw [List.getElem?_map,hy0];rfl)
   obtain ⟨o0,c0,l0,e0,r0,w0,cap0,_,_,d0⟩:=open_i64 Tryz.underlying26 Tryz.underlying3 (by kernel_rfl) ht0
   have s1:Small 32 y1.1:=small_field hsi Tryz.underlying35 (j:=1) rfl (by rw [List.getElem?_map,hy1];rfl)
   obtain ⟨o1,c1,l1,e1,r1,w1,cap1,_,_,d1⟩:=open_u8 Tryz.underlying32 Tryz.underlying42 (by kernel_rfl) ht1
   obtain ⟨n2,e2,_,w2⟩:=DataW.trod_int Tryz.underlying3 ht2
   have s3:Small 26 y3.1:=small_field hsi Tryz.underlying35 (j:=3) rfl (by rw [List.getElem?_map,hy3];rfl)
   obtain ⟨o3,c3,l3,e3,r3,w3,cap3,_,_,d3⟩:=open_i64 Tryz.underlying26 Tryz.underlying3 (by kernel_rfl) ht3
   obtain ⟨n4,e4,_⟩:=DataW.trod_bool Tryz.underlying4 ht4
   obtain ⟨n5,e5,_,w5⟩:=DataW.trod_int Tryz.underlying3 ht5
   have s6:Small 33 y6.1:=small_field hsi Tryz.underlying35 (j:=6) rfl (by rw [List.getElem?_map,hy6];rfl)
   obtain ⟨o6,n6,c6,ns,e6,r6,b6⟩:=open_nodes ht6 s6
   obtain ⟨n7,e7,_,w7⟩:=DataW.trod_int Tryz.underlying3 ht7
   have b0:l0.length*8≤140737488351232:=by
    rcases d0 with ⟨_,h0⟩ | ⟨elems,spare,he,hc⟩
    ·omega
    ·rw [he] at s0
     have:=small_slice s0 Tryz.underlying26 (show Tryz.prog.bytesOf 3=8 by kernel_rfl)
     omega
   have b1:l1.length*1≤140737488351232:=by
    rcases d1 with ⟨_,h0⟩ | ⟨elems,spare,he,hc⟩
    ·omega
    ·rw [he] at s1
     have:=small_slice s1 Tryz.underlying32 (show Tryz.prog.bytesOf 42=1 by kernel_rfl)
     omega
   have b3:l3.length*8≤140737488351232:=by
    rcases d3 with ⟨_,h0⟩ | ⟨elems,spare,he,hc⟩
    ·omega
    ·rw [he] at s3
     have:=small_slice s3 Tryz.underlying26 (show Tryz.prog.bytesOf 3=8 by kernel_rfl)
     omega
   have h2:=wf_i64 w2
   have h5:=wf_i64 w5
   have h7:=wf_i64 w7
   have hnl:(nds ns).length=n6:=by rw [length_nds,r6.len]
   have hwn:∀ i ∈ nds ns,WfN i:=fun i hi=>by
    obtain ⟨z,hz,rfl⟩:=List.mem_map.1 hi
    exact r6.wf z hz
   simp only [List.cons.injEq,and_true] at e0 e1 e2 e3 e4 e5 e6 e7
   subst e0 e1 e2 e3 e4 e5 e6 e7
   subst hnl
   exact ⟨⟨⟨l0,l1,n2,l3,n4,n5,nds ns,n7⟩,o0,c0,o1,c1,o3,c3,o6,c6,ns⟩,⟨r0,r1,r3,r6,rfl,cap0⟩,⟨w0,w1,h2,w3,h5,hwn,h7,b0,by simpa using b1,b3,b6⟩,hc0,hc1,hc2,hc3,hc4,hc5,hc6,hc7⟩)
  refine ⟨some a,len,m,l,hcs,⟨⟨by rw [length_rgc,hll],fun hn=>⟨a,rfl,?_,fun j u hu=>?_⟩⟩,hll,fun r hr=>?_,fun r hr=>?_,?_⟩⟩
  ·obtain ⟨x,hx0⟩:∃ x,l[0]?=some x:=⟨_,List.getElem?_eq_getElem (by omega)⟩
   exact block_of_cell (hlp 0 x hx0).2.2.1
  ·obtain ⟨i,x,k,hxi,hk,rfl,hv⟩:=flat_inv rgOne 8 (by omega) (fun _=>rfl) l j u hu
   have hp:=hlp i x hxi
   obtain rfl | rfl | rfl | rfl | rfl | rfl | rfl | rfl:k=0∨k=1∨k=2∨k=3∨k=4∨k=5∨k=6∨k=7:=by omega
   ·rw [← hv];exact hp.2.2.1
   ·rw [← hv];exact hp.2.2.2.1
   ·rw [← hv];exact hp.2.2.2.2.1
   ·rw [← hv];exact hp.2.2.2.2.2.1
   ·rw [← hv];exact hp.2.2.2.2.2.2.1
   ·rw [← hv];exact hp.2.2.2.2.2.2.2.1
   ·rw [← hv];exact hp.2.2.2.2.2.2.2.2.1
   ·rw [← hv];exact hp.2.2.2.2.2.2.2.2.2
  ·obtain ⟨i,hil,rfl⟩:=List.getElem_of_mem hr
   exact (hlp i _ (List.getElem?_eq_getElem hil)).1
  ·obtain ⟨i,hil,rfl⟩:=List.getElem_of_mem hr
   exact (hlp i _ (List.getElem?_eq_getElem hil)).2.1
  ·simp at hsz
   have:=Nat.mul_le_mul_right 128 hl
   omega

theorem open_prog {base:Nat} {v:Value} {d:DataW H} {p:List MemPlace} (hv:Value.okWide Tryz.prog W .any base 24 v) (h:DataW.Trod enc Tryz.prog W 0 (fun _=>true) true 24 v d p) (hs:Small 24 d) :
  ∃ (ao:Option Addr) (n c:Nat) (rs:List RG),v=.agg #[.slice ao n c]∧RdP W W.heap.size ao n rs:=by
 obtain ⟨cs,rfl,hsz⟩:=okWide_struct Tryz.underlying24 hv
 obtain ⟨l⟩:=cs
 match l,hsz.trans (show Tryz.prog.cellsOf 24=1 by kernel_rfl) with
 | [c0],_ =>
  obtain ⟨fuel,hf⟩:=h
  obtain ⟨xs,n,_,hx,_,hlen,hg⟩:=DataW.trod_struct Tryz.underlying24 hf
  match xs,hlen with
  | [y0],_ =>
   simp only [Prod.mk.injEq] at hx
   have h0:DataW.trod enc Tryz.prog W 0 (fun _=>true) true n 22 [c0]=some y0:=by
    have:=hg 0 _ rfl
    simpa [Value.cells,show Tryz.prog.cellsOf 22=1 by kernel_rfl] using this
   rw [hx.1] at hs
   have s0:Small 22 y0.1:=small_field hs Tryz.underlying24 (j:=0) rfl rfl
   obtain ⟨ao,m,c,rs,e,hr⟩:=open_graphs h0 s0
   simp only [List.cons.injEq,and_true] at e
   subst e
   exact ⟨ao,m,c,rs,rfl,hr⟩
end
open Go.ChangeShapes Go.WideShapes Go.ChangeAt Go.RowKit
theorem gTz : Tryz.prog.globalNamed "math/bits.deBruijn64tab" = some 0 := by kernel_rfl
theorem gTzType:(Tryz.prog.globals[0]?).map (·.type)=some 163:=by kernel_rfl
theorem tz_data:(Rows.laid_math_bits_deBruijn64tab:DataW Unit)=Lib.tabData .u8 (Lib.deBruijn64tab.map fun x:Nat=>(x:Int)):=by kernel_rfl
theorem tz_tab {W : World} (h : laidMet Tryz.prog [("math/bits.deBruijn64tab", Rows.laid_math_bits_deBruijn64tab)] W) : TzTab W := by
 rw [tz_data] at h
 have ht:=Lib.tabIs_of_head gTz gTzType Tryz.underlying163 Tryz.underlying5 (by kernel_rfl) (by kernel_rfl) h
 intro j hj
 have hl:Lib.deBruijn64tab.length=64:=by decide
 have h1:=ht.cell gTz j (by rw [List.length_map,hl];exact hj)
 rw [h1]
 rw [List.getD_eq_getElem?_getD,List.getElem?_map,List.getD_eq_getElem?_getD,List.getElem?_eq_getElem (by rw [hl];exact hj)]
 rfl
end Go.Proofs.YtedmcfaghfgpoaaGreatDoor
namespace Go.Proofs.YtedmcfaghfgpoaaGreatDoor.scanRight
open Go.ChangeShapes Go.WideShapes Go.ChangeAt Go.RowKit
open Go.ChangeMaps (open_string shut_string)
theorem own:ownKnob Tryz.prog.godebug=none:=by kernel_rfl
theorem laidOut:laidOutB Tryz.prog=true:=by kernel_rfl
theorem door_met (os:Os) (args:Array Value):laidMetH Tryz.prog Rows.scanRightRow.laid ((World.doorLaid Tryz.prog 14 os).forCall (fun _ _=>0) ⟨#[],args,[]⟩).memory :=
 laidMet_of_run' 8 (by kernel_rfl) (by kernel_rfl)

theorem reads (os:Os) {H:Type} (enc:TypeId × Value→H):∃ places,DataW.whole enc Tryz.prog ((World.doorLaid Tryz.prog 14 os).forCall (fun _ _=>0) ⟨#[],#[.agg #[.slice none 0 0],.int .i64 0],[]⟩).memory Tryz.f3.params.toList Rows.scanRightSpec.vars false #[.agg #[.slice none 0 0],.int .i64 0].toList 8=some ([.agg [.nil],.lit (.int .i64 0)],[],places) :=
 ⟨[],by kernel_rfl⟩

theorem lifted (os:Os) (started:os.Started) (H:Type) (enc:TypeId × Value→H) (F:Stop.Interp) :
  ReturnsInHanded {} Tryz.checked os 3 .any ((OpenSpec.ofChange Rows.scanRightSpec).preRow enc Tryz.prog Tryz.f3 Rows.scanRightRow.domain false Rows.scanRightRow.laid) (((OpenSpec.ofChange Rows.scanRightSpec).at F).post enc Tryz.prog Tryz.f3 false true false false):=by
 obtain ⟨places,hx⟩:=reads os enc
 refine returnsInHanded_of_row (C:=Tryz.checked) (s:=OpenSpec.ofChange Rows.scanRightSpec) own started (by kernel_rfl) Tryz.func3
  (witness_row_at (enc:=enc) (C:=Tryz.checked) false (World.doorLaid Tryz.prog 14 os) #[.agg #[.slice none 0 0],.int .i64 0] rfl (by kernel_rfl) (by kernel_rfl) (by kernel_rfl)
   (OpenSpec.preRow_of_cond 8 hx (by kernel_rfl) (fun k hk=>by cases hk) (by kernel_rfl) (door_met os _))) ?_
 intro W base args ds gs before hval0 hW _ hcond hsz0 hL hsh _
 have hval:∀ (j:Nat) t v,Tryz.f3.params[j]?=some t→args[j]?=some v→Value.okWide Tryz.prog W .any base t v:=hval0
 have hsz:(DataW.weightsEach Tryz.prog (Tryz.f3.params.toList ++ Rows.scanRightSpec.plain.varTypes Tryz.prog) (ds ++ gs)).all (·≤reachBytes)=true:=hsz0
 clear hsz0 hcond
 have hW':=hW
 obtain ⟨p,q,hA0,hV,rfl,hfz,hnd⟩:=hW
 have hA:DataW.TrodAll enc Tryz.prog W 0 (fun _=>true) true Tryz.f3.params.toList args.toList ds p:=hA0
 rw [Tryz.params3] at hA hval hsz
 obtain ⟨v0,vs0,d0,ds0,p0,q0,hargs,rfl,rfl,h0,r0⟩:=trodAll_cons hA
 obtain ⟨v1,vs1,d1,ds1,p1,q1,rfl,rfl,rfl,h1,r1⟩:=trodAll_cons r0
 obtain ⟨rfl,rfl,rfl⟩:=trodAll_nil r1
 obtain rfl:args=#[v0,v1]:=by cases args;simp_all
 obtain ⟨rfl,rfl⟩:=trodVars_none hV
 have k0:=h0
 have lt0:∀ x ∈ p0,x.block<W.heap.size:=by obtain ⟨m,hm⟩:=k0;exact DataW.trod_lt m _ _ _ hm
 have sm0:Small 24 d0:=fun x hx=>by simpa using List.all_eq_true.1 hsz x (DataW.weights_mem_each (j:=0) rfl rfl x hx)
 obtain ⟨a0,n0,c0,l0,rfl,r0'⟩:=open_prog (hval 0 24 v0 rfl rfl) h0 sm0
 have k1:=h1
 have lt1:∀ x ∈ p1,x.block<W.heap.size:=by obtain ⟨m,hm⟩:=k1;exact DataW.trod_lt m _ _ _ hm
 obtain ⟨x1,rfl,_,_,w1⟩:=open_int Tryz.underlying3 (hval 1 3 v1 rfl rfl) h1
 clear hA0 hval0
 refine (sright_walk a0 n0 c0 l0 x1 W r0' (tz_tab hL)).mono fun e W' ⟨he,bel⟩=>?_
 subst he
 exact ⟨_,rfl,_,_,_,[],_,[],hW',trodAll_mk1 (shut_bool Tryz.underlying4 _),(trodAll_cons_mk (Below.trod laidOut (by kernel_rfl) (of_decide_eq_true (by kernel_rfl)) k0 bel lt0) (trodAll_cons_mk (Below.trod laidOut (by kernel_rfl) (of_decide_eq_true (by kernel_rfl)) k1 bel lt1) trodAll_mk0)),rfl,bel.frame _,fun h=>by cases h⟩

theorem said:Rows.ScanRightSaid :=
 OpenClaim.holds_of_cond 3 Tryz.f3 rfl rfl rfl rfl rfl rfl rfl ⟨rfl,rfl,rfl,rfl,rfl⟩ rfl rfl rfl rfl rfl (by kernel_rfl) Tryz.func3 (by kernel_rfl)
  (of_decide_eq_true (by kernel_rfl)) (by unfold Func.isWrapper;first | (rw [if_pos (by decide +kernel)];kernel_rfl) | (rw [if_neg (by decide +kernel)];exact ⟨rfl,rfl⟩))
  (fun os started H enc _ F=>by rw [OpenClaim.pre_eq_preRow];exact lifted os started H enc F)

theorem plain (f : FuncId) (fn : Func) (hf : Tryz.pinned.checked.prog.funcNamed "windlass/windlasslaw13.ScanRight" = some f) (hfn : Tryz.pinned.checked.prog.funcs[f]? = some fn) :
  true=Tryz.pinned.checked.prog.looks []∧∀ (j:Nat) t,fn.params[j]?=some t→Tryz.pinned.checked.prog.wantsStandIn t=false:=by
 obtain rfl : f = 3 := Option.some.inj ((show Tryz.prog.funcNamed "windlass/windlasslaw13.ScanRight" = some 3 by kernel_rfl).symm.trans hf) |>.symm
 obtain rfl:fn=Tryz.f3:=(Option.some.inj (Tryz.func3.symm.trans hfn)).symm
 refine ⟨by kernel_rfl,fun j t ht=>?_⟩
 rw [Tryz.params3] at ht
 have hm:t ∈ [24,3]:=by simpa using Array.mem_of_getElem? ht
 have hall:([24,3].all fun u=>!Tryz.prog.wantsStandIn u)=true:=by kernel_rfl
 exact (show Tryz.prog.wantsStandIn t=false by simpa using List.all_eq_true.1 hall t hm)

theorem proved:Rows.ScanRightCardSaid :=
 Claim7.holds_tied_plain_at .later [] _ _ _ _ said (fun _ h=>by cases h) (by kernel_rfl) (fun _ h=>by cases h) scanRight_row_tie rfl ⟨rfl,rfl⟩ (by kernel_rfl) rfl plain (by kernel_rfl)
end Go.Proofs.YtedmcfaghfgpoaaGreatDoor.scanRight
