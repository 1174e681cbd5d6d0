/-
  ScanRoom is true for every program of graphs and every number: where few places are at work at a time all of them have registers, and the graphs are unchanged; no condition.
-/
import Derived.Deep.Slices
import Derived.Deep.Fields
import Derived.ChangeSame
import Derived.Lib.SmallJoins
import Derived.OpenShut
import Derived.ShutString
import Derived.SizedLaws
import Derived.Lib.LaidTab
import Derived.Test.YtedmcfaghfgpoaaGreatDoorCards
import Derived.Test.YtedmcfaghfgpoaaGreatDoorTie
import Derived.WalkKit
import Derived.ProofKit
import Derived.ChangeOld
import Derived.Below
import Derived.Deep.DeepHandedRow
import Derived.LaidMore
import Derived.Deep.DeepWitnessRowRef
import Derived.SevenTiedAt
import Derived.Test.YtedmcfaghfgpoaaGreatDoorMA2
import Derived.Test.YtedmcfaghfgpoaaGreatDoorMA5
import Derived.Test.YtedmcfaghfgpoaaGreatDoorMA19
import Derived.Test.YtedmcfaghfgpoaaGreatDoorMA20
import Derived.Test.YtedmcfaghfgpoaaGreatDoorMA23
import Derived.Test.YtedmcfaghfgpoaaGreatDoorMA24

set_option linter.unusedVariables false
set_option linter.unusedSimpArgs false
set_option maxRecDepth 100000
set_option maxHeartbeats 51200000
namespace Go.Proofs.YtedmcfaghfgpoaaGreatDoor
open Go.ChangeShapes Go.WideShapes Go.ChangeAt Go.RowKit Go.Joins
open Go.Deep
section
variable {H:Type} {enc:TypeId × Value→H} {P:Program} {w:World} {base:Nat} {spare:Nat→Bool} {held:Bool}
theorem open_slice_fields {t e:TypeId} {fs:Array Field} {fuel:Nat} {cs:List Value} {x:DataW H × List MemPlace} (ht:P.underlying t=some (.slice e)) (he:P.underlying e=some (.struct fs))
  (hone:oneCellFields P fs=true) (hC:P.cellsOf e=fs.size) (h:DataW.trod enc P w base spare held fuel t cs=some x) :
  (cs=[.slice none 0 0]∧x=(.nil,[])) ∨
  ∃ (a:Addr) (len cap m:Nat) (D:Nat→DataW H) (Pl:Nat→List MemPlace),cs=[.slice (some a) len cap]∧base≤a.block∧len≤cap∧cap≤maxLen∧m=(if spare a.block then cap else len) ∧
   x=(.slice ((List.range len).map D) ((List.range (m-len)).map fun j=>D (len+j)),MemPlace.row a (m*fs.size) ++ (List.range m).flatMap Pl) ∧
   ∀ i,i<m→∃ (ys:List (DataW H × List MemPlace)) (n:Nat),D i=.agg (ys.map (·.1))∧Pl i=ys.flatMap (·.2)∧ys.length=fs.size ∧
    ∀ (j:Nat) (f:Field),fs[j]?=some f→∃ (v:Value) (y:DataW H × List MemPlace),w.cell? (a.add (i*fs.size+j))=some v∧ys[j]?=some y∧DataW.trod enc P w base spare held n f.type [v]=some y:=by
 rcases open_slice ht h with h0 | ⟨a,len,cap,m,n,D,Pl,hcs,hb,hl,hm,hmm,hx,hi⟩
 ·exact .inl h0
 ·refine .inr ⟨a,len,cap,m,D,Pl,hcs,hb,hl,hm,hmm,by rw [hC] at hx;exact hx,fun i him=>?_⟩
  obtain ⟨cs',hc,ht'⟩:=hi i him
  rw [hC] at hc
  obtain ⟨ys,n',hn',hy,hlen,hyl,hf⟩:=DataW.trod_struct he ht'
  obtain ⟨_,hcl,hat⟩:=World.cells?_some hc
  simp only [Prod.mk.injEq] at hy
  refine ⟨ys,n',hy.1,hy.2,hyl,fun j f hj=>?_⟩
  obtain ⟨ho,hk⟩:=hone_of hone j f hj
  have hjl:j<fs.size:=(Array.getElem?_eq_some_iff.1 hj).1
  have hcell:=hat j hjl
  have hv:cs'[j]?=some (cs'[j]'(by omega)):=List.getElem?_eq_getElem (by omega)
  have h1:=hf j f hj
  rw [ho,hk] at h1
  have hone':(cs'.drop j).take 1=[cs'[j]'(by omega)]:=by
   rw [List.drop_eq_getElem_cons (by omega)]
   rfl
  rw [hone'] at h1
  have hys:ys[j]?=some (ys[j]'(by omega)):=List.getElem?_eq_getElem (by omega)
  refine ⟨_,_,?_,hys,h1.trans hys⟩
  rw [← Go.Deep.add_add,hcell,hv]
end
theorem row_of {α:Type} {P:Nat→α→Prop}:∀ (n:Nat),(∀ i,i<n→∃ x,P i x)→∃ l:List α,l.length=n∧∀ (i:Nat) (x:α),l[i]?=some x→P i x
 | 0,_=>⟨[],rfl,fun i x h=>by simp at h⟩
 | n+1,h=>by
  obtain ⟨l,hl,hP⟩:=row_of n fun i hi=>h i (by omega)
  obtain ⟨x,hx⟩:=h n (by omega)
  refine ⟨l ++ [x],by simp [hl],fun i y hy=>?_⟩
  rcases Nat.lt_trichotomy i n with h1 | h1 | h1
  ·rw [List.getElem?_append_left (by omega)] at hy
   exact hP i y hy
  ·subst h1
   rw [List.getElem?_append_right (by omega)] at hy
   simp [hl] at hy
   subst hy
   exact hx
  ·rw [List.getElem?_eq_none (by simp;omega)] at hy
   cases hy

theorem wf_i64 {n:Int} (h:(Lit.int .i64 n).wf=true):-9223372036854775808≤n∧n≤9223372036854775807:=by
 simp [Lit.wf,IntKind.min,IntKind.max,IntKind.signed,IntKind.bits] at h
 exact h
theorem wf_u64 {n:Int} (h:(Lit.int .u64 n).wf=true):0≤n∧n<18446744073709551616:=by
 simp [Lit.wf,IntKind.min,IntKind.max,IntKind.signed,IntKind.bits] at h
 omega

theorem wf_u8 {n:Int} (h:(Lit.int .u8 n).wf=true):0≤n∧n≤255:=by
 simp [Lit.wf,IntKind.min,IntKind.max,IntKind.signed,IntKind.bits] at h
 omega
theorem flat_inv {α:Type} (f:α→List Value) (m:Nat) (hm:0<m) (hf:∀ x,(f x).length=m) (l:List α) (j:Nat) (u:Value) (h:(l.flatMap f)[j]?=some u):∃ i x k,l[i]?=some x∧k<m∧j=i*m+k∧(f x)[k]?=some u:=by
 induction l generalizing j with
 | nil=>simp at h
 | cons y l ih =>
  rw [List.flatMap_cons] at h
  by_cases hj:j<m
  ·rw [List.getElem?_append_left (by rw [hf];exact hj)] at h
   exact ⟨0,y,j,rfl,hj,by omega,h⟩
  ·rw [List.getElem?_append_right (by rw [hf];omega),hf] at h
   obtain ⟨i,x,k,hx,hk,hjk,hu⟩:=ih (j-m) h
   exact ⟨i+1,x,k,by simpa using hx,hk,by rw [Nat.succ_mul];omega,hu⟩

section
variable {H:Type} {enc:TypeId × Value→H} {W:World}
theorem block_of_cell {W:World} {a:Addr} {u:Value} (h:W.cell? (a.add 0)=some u):a.block<W.heap.size:=by
 rcases Nat.lt_or_ge a.block W.heap.size with hlt | hge
 ·exact hlt
 ·have:a.add 0=a:=by simp [Addr.add]
  rw [this] at h
  simp [World.cell?,Array.getElem?_eq_none hge] at h

theorem open_u8 {t e:TypeId} (ht:Tryz.prog.underlying t=some (.slice e)) (he:Tryz.prog.underlying e=some (.int .u8)) (hc1:Tryz.prog.cellsOf e=1) {fuel:Nat} {cs:List Value} {x:DataW H × List MemPlace}
  (h:DataW.trod enc Tryz.prog W 0 (fun _=>true) true fuel t cs=some x) :
  ∃ (ao:Option Addr) (c:Nat) (l:List Int),cs=[.slice ao l.length c]∧Reads W W.heap.size 1 ao l.length (u8c l)∧Byt l∧l.length≤c∧c≤maxLen∧(ao=none→c=0) ∧
   ((x.1=.nil∧c=0)∨∃ elems spare,x.1=.slice elems spare∧elems.length+spare.length=c):=by
 rcases open_ints ht he hc1 h with ⟨hcs,hx⟩ | ⟨a,len,cap,zs,hcs,_,hl,hm,hz,hx,hcell,hwz⟩
 ·exact ⟨none,0,[],hcs,Reads.none_,Byt.nil,Nat.le_refl _,Nat.zero_le _,fun _=>rfl,.inl ⟨by rw [hx],rfl⟩⟩
 ·simp only [if_true] at hz
  have hlen:(zs.take len).length=len:=by simp;omega
  refine ⟨some a,cap,zs.take len,by rw [hlen];exact hcs,?_,fun y hy=>wf_u8 (hwz y (List.mem_of_mem_take hy)),by rw [hlen];exact hl,hm,(fun h=>by cases h),.inr ⟨_,_,by rw [hx],by simp [lits];omega⟩⟩
  rw [hlen]
  refine ⟨by rw [length_u8c,hlen];simp,fun hn=>⟨a,rfl,block_of_cell (hcell 0 (by omega)),fun j u hu=>?_⟩⟩
  unfold u8c at hu
  rw [List.getElem?_map] at hu
  have hjl:j<(zs.take len).length:=by
   rcases Nat.lt_or_ge j (zs.take len).length with h1 | h1
   ·exact h1
   ·rw [List.getElem?_eq_none h1] at hu;cases hu
  have hjz:j<zs.length:=by simp at hjl;omega
  have hjn:j<len:=by simp at hjl;omega
  rw [hcell j hjz,← hu,List.getElem?_take,if_pos hjn,List.getElem?_eq_getElem hjz]
  simp [List.getD,hjz]

theorem open_i64 {t e:TypeId} (ht:Tryz.prog.underlying t=some (.slice e)) (he:Tryz.prog.underlying e=some (.int .i64)) (hc1:Tryz.prog.cellsOf e=1) {fuel:Nat} {cs:List Value} {x:DataW H × List MemPlace}
  (h:DataW.trod enc Tryz.prog W 0 (fun _=>true) true fuel t cs=some x) :
  ∃ (ao:Option Addr) (c:Nat) (l:List Int),cs=[.slice ao l.length c]∧Reads W W.heap.size 1 ao l.length (i64c l)∧(∀ y ∈ l,I64 y)∧l.length≤c∧c≤maxLen∧(ao=none→c=0) ∧
   ((x.1=.nil∧c=0)∨∃ elems spare,x.1=.slice elems spare∧elems.length+spare.length=c):=by
 rcases open_ints ht he hc1 h with ⟨hcs,hx⟩ | ⟨a,len,cap,zs,hcs,_,hl,hm,hz,hx,hcell,hwz⟩
 ·exact ⟨none,0,[],hcs,Reads.none_,(fun _ h=>by cases h),Nat.le_refl _,Nat.zero_le _,fun _=>rfl,.inl ⟨by rw [hx],rfl⟩⟩
 ·simp only [if_true] at hz
  have hlen:(zs.take len).length=len:=by simp;omega
  refine ⟨some a,cap,zs.take len,by rw [hlen];exact hcs,?_,fun y hy=>wf_i64 (hwz y (List.mem_of_mem_take hy)),by rw [hlen];exact hl,hm,(fun h=>by cases h),.inr ⟨_,_,by rw [hx],by simp [lits];omega⟩⟩
  rw [hlen]
  refine ⟨by rw [length_i64c,hlen];simp,fun hn=>⟨a,rfl,block_of_cell (hcell 0 (by omega)),fun j u hu=>?_⟩⟩
  unfold i64c at hu
  rw [List.getElem?_map] at hu
  have hjl:j<(zs.take len).length:=by
   rcases Nat.lt_or_ge j (zs.take len).length with h1 | h1
   ·exact h1
   ·rw [List.getElem?_eq_none h1] at hu;cases hu
  have hjz:j<zs.length:=by simp at hjl;omega
  have hjn:j<len:=by simp at hjl;omega
  rw [hcell j hjz,← hu,List.getElem?_take,if_pos hjn,List.getElem?_eq_getElem hjz]
  simp [List.getD,hjz]

def Small (t:TypeId) (d:DataW H):Prop:=∀ x ∈ d.weights Tryz.prog t,x≤reachBytes
theorem small_slice {t e:TypeId} {elems spare:List (DataW H)} {b:Nat} (h:Small t (DataW.slice elems spare)) (ht:Tryz.prog.underlying t=some (.slice e)) (hb:Tryz.prog.bytesOf e=b):(elems.length+spare.length)*b≤140737488351232:=by
 have:=h ((elems.length+spare.length)*Tryz.prog.bytesOf e) (by simp [DataW.weights,ht])
 rw [hb] at this
 simpa [reachBytes] using this
theorem mem_weightsAll {P:Program} {e:TypeId} {d:DataW H} {l:List (DataW H)} (hd:d ∈ l) {x:Nat} (hx:x ∈ d.weights P e):x ∈ DataW.weightsAll P e l:=by
 induction l with
 | nil=>cases hd
 | cons y l ih =>
  rw [DataW.weightsAll,List.mem_append]
  rcases List.mem_cons.1 hd with rfl | hd
  ·exact .inl hx
  ·exact .inr (ih hd)
theorem small_elem {t e:TypeId} {elems spare:List (DataW H)} (h:Small t (DataW.slice elems spare)) (ht:Tryz.prog.underlying t=some (.slice e)) {d:DataW H} (hd:d ∈ elems):Small e d:=by
 intro x hx
 refine h x ?_
 simp only [DataW.weights,ht,List.mem_cons,List.mem_append]
 exact .inr (.inl (mem_weightsAll hd hx))
theorem small_field {t:TypeId} {fs:Array Field} {parts:List (DataW H)} (h:Small t (DataW.agg parts)) (ht:Tryz.prog.underlying t=some (.struct fs)) {j:Nat} {f:Field} {d:DataW H} (hf:(fs.toList.map (·.type))[j]?=some f.type) (hd:parts[j]?=some d):Small f.type d:=by
 intro x hx
 refine h x ?_
 simp only [DataW.weights,ht]
 exact DataW.weights_mem_each hf hd x hx

theorem open_nodes {fuel:Nat} {cs:List Value} {x:DataW H × List MemPlace} (h:DataW.trod enc Tryz.prog W 0 (fun _=>true) true fuel 33 cs=some x) (hs:Small 33 x.1) :
  ∃ (ao:Option Addr) (n c:Nat) (ns:List RN),cs=[.slice ao n c]∧RdNs W W.heap.size ao n ns∧n*104≤140737488351232:=by
 rcases open_slice_fields Tryz.underlying33 Tryz.underlying47 (by kernel_rfl) (by kernel_rfl) h with ⟨hcs,hx⟩ | ⟨a,len,cap,m,D,Pl,hcs,_,hl,hm,hmm,hx,hi⟩
 ·exact ⟨none,0,0,[],hcs,⟨Reads.none_,rfl,(fun r hr=>by cases hr),(fun r hr=>by cases hr)⟩,by omega⟩
 ·simp only [if_true] at hmm
  subst hmm
  rw [hx] at hs
  have hsz:=small_slice hs Tryz.underlying33 (show Tryz.prog.bytesOf 47=104 by kernel_rfl)
  obtain ⟨l,hll,hlp⟩:=row_of (P:=fun i (x:RN)=>RdN W W.heap.size x∧WfN x.nd∧W.cell? (a.add (i*12))=some (.int .u8 x.nd.op)∧W.cell? (a.add (i*12+1))=some (.int .u8 x.nd.bop)∧W.cell? (a.add (i*12+2))=some (.int .i64 x.nd.d)∧W.cell? (a.add (i*12+3))=some (.int .i64 x.nd.e)∧W.cell? (a.add (i*12+4))=some (.int .i64 x.nd.a)∧W.cell? (a.add (i*12+5))=some (.int .i64 x.nd.b)∧W.cell? (a.add (i*12+6))=some (.int .i64 x.nd.f)∧W.cell? (a.add (i*12+7))=some (.int .i64 x.nd.cell)∧W.cell? (a.add (i*12+8))=some (.int .u64 x.nd.imm)∧W.cell? (a.add (i*12+9))=some (.slice x.ao x.nd.args.length x.ac)∧W.cell? (a.add (i*12+10))=some (.int .i64 x.nd.next)∧W.cell? (a.add (i*12+11))=some (.int .i64 x.nd.els)) len (fun i hin=>by
   obtain ⟨ys,k,hD,_,hyl,hj⟩:=hi i (by omega)
   have hsi:Small 47 (D i):=small_elem hs Tryz.underlying33 (List.mem_map.2 ⟨i,List.mem_range.2 hin,rfl⟩)
   rw [hD] at hsi
   obtain ⟨v0,y0,hc0,hy0,ht0⟩:=hj 0 _ rfl
   obtain ⟨v1,y1,hc1,hy1,ht1⟩:=hj 1 _ rfl
   obtain ⟨v2,y2,hc2,hy2,ht2⟩:=hj 2 _ rfl
   obtain ⟨v3,y3,hc3,hy3,ht3⟩:=hj 3 _ rfl
   obtain ⟨v4,y4,hc4,hy4,ht4⟩:=hj 4 _ rfl
   obtain ⟨v5,y5,hc5,hy5,ht5⟩:=hj 5 _ rfl
   obtain ⟨v6,y6,hc6,hy6,ht6⟩:=hj 6 _ rfl
   obtain ⟨v7,y7,hc7,hy7,ht7⟩:=hj 7 _ rfl
   obtain ⟨v8,y8,hc8,hy8,ht8⟩:=hj 8 _ rfl
   obtain ⟨v9,y9,hc9,hy9,ht9⟩:=hj 9 _ rfl
   obtain ⟨v10,y10,hc10,hy10,ht10⟩:=hj 10 _ rfl
   obtain ⟨v11,y11,hc11,hy11,ht11⟩:=hj 11 _ rfl
   obtain ⟨n0,e0,_,w0⟩:=DataW.trod_int Tryz.underlying43 ht0
   obtain ⟨n1,e1,_,w1⟩:=DataW.trod_int Tryz.underlying44 ht1
   obtain ⟨n2,e2,_,w2⟩:=DataW.trod_int Tryz.underlying3 ht2
   obtain ⟨n3,e3,_,w3⟩:=DataW.trod_int Tryz.underlying3 ht3
   obtain ⟨n4,e4,_,w4⟩:=DataW.trod_int Tryz.underlying3 ht4
   obtain ⟨n5,e5,_,w5⟩:=DataW.trod_int Tryz.underlying3 ht5
   obtain ⟨n6,e6,_,w6⟩:=DataW.trod_int Tryz.underlying3 ht6
   obtain ⟨n7,e7,_,w7⟩:=DataW.trod_int Tryz.underlying3 ht7
   obtain ⟨n8,e8,_,w8⟩:=DataW.trod_int Tryz.underlying45 ht8
   obtain ⟨ao,ac,xs9,e9,hr9,hw9,hac,_,_,hd9⟩:=open_i64 Tryz.underlying26 Tryz.underlying3 (by kernel_rfl) ht9
   obtain ⟨n10,e10,_,w10⟩:=DataW.trod_int Tryz.underlying3 ht10
   obtain ⟨n11,e11,_,w11⟩:=DataW.trod_int Tryz.underlying3 ht11
   have s9:Small 26 y9.1:=small_field hsi Tryz.underlying47 (j:=9) rfl (by rw [List.getElem?_map,hy9];rfl)
   have b9:xs9.length*8≤140737488351232:=by
    rcases hd9 with ⟨_,h0⟩ | ⟨elems,spare,he,hc⟩
    ·omega
    ·rw [he] at s9
     have:=small_slice s9 Tryz.underlying26 (show Tryz.prog.bytesOf 3=8 by kernel_rfl)
     omega
   have h0:=wf_u8 w0
   have h1:=wf_u8 w1
   have h2:=wf_i64 w2
   have h3:=wf_i64 w3
   have h4:=wf_i64 w4
   have h5:=wf_i64 w5
   have h6:=wf_i64 w6
   have h7:=wf_i64 w7
   have h8:=wf_u64 w8
   have h10:=wf_i64 w10
   have h11:=wf_i64 w11
   simp only [List.cons.injEq,and_true] at e0 e1 e2 e3 e4 e5 e6 e7 e8 e9 e10 e11
   subst e0 e1 e2 e3 e4 e5 e6 e7 e8 e9 e10 e11
   exact ⟨⟨⟨n0,n1,n2,n3,n4,n5,n6,n7,n8,xs9,n10,n11⟩,ao,ac⟩,⟨hr9,hac⟩,⟨h0.1,h0.2,h1.1,h1.2,h2,h3,h4,h5,h6,h7,h8.1,by show n8≤_;omega,hw9,h10,h11,b9⟩,hc0,hc1,hc2,hc3,hc4,hc5,hc6,hc7,hc8,hc9,hc10,hc11⟩)
  refine ⟨some a,len,m,l,hcs,⟨⟨by rw [length_rnc,hll],fun hn=>⟨a,rfl,?_,fun j u hu=>?_⟩⟩,hll,fun r hr=>?_,fun r hr=>?_⟩,?_⟩
  ·obtain ⟨x,hx0⟩:∃ x,l[0]?=some x:=⟨_,List.getElem?_eq_getElem (by omega)⟩
   exact block_of_cell (hlp 0 x hx0).2.2.1
  ·obtain ⟨i,x,k,hxi,hk,rfl,hv⟩:=flat_inv rnOne 12 (by omega) (fun _=>rfl) l j u hu
   have hp:=hlp i x hxi
   obtain rfl | rfl | rfl | rfl | rfl | rfl | rfl | rfl | rfl | rfl | rfl | rfl:k=0∨k=1∨k=2∨k=3∨k=4∨k=5∨k=6∨k=7∨k=8∨k=9∨k=10∨k=11:=by omega
   ·rw [← hv];exact hp.2.2.1
   ·rw [← hv];exact hp.2.2.2.1
   ·rw [← hv];exact hp.2.2.2.2.1
   ·rw [← hv];exact hp.2.2.2.2.2.1
   ·rw [← hv];exact hp.2.2.2.2.2.2.1
   ·rw [← hv];exact hp.2.2.2.2.2.2.2.1
   ·rw [← hv];exact hp.2.2.2.2.2.2.2.2.1
   ·rw [← hv];exact hp.2.2.2.2.2.2.2.2.2.1
   ·rw [← hv];exact hp.2.2.2.2.2.2.2.2.2.2.1
   ·rw [← hv];exact hp.2.2.2.2.2.2.2.2.2.2.2.1
   ·rw [← hv];exact hp.2.2.2.2.2.2.2.2.2.2.2.2.1
   ·rw [← hv];exact hp.2.2.2.2.2.2.2.2.2.2.2.2.2
  ·obtain ⟨i,hil,rfl⟩:=List.getElem_of_mem hr
   exact (hlp i _ (List.getElem?_eq_getElem hil)).1
  ·obtain ⟨i,hil,rfl⟩:=List.getElem_of_mem hr
   exact (hlp i _ (List.getElem?_eq_getElem hil)).2.1
  ·simp at hsz
   have:=Nat.mul_le_mul_right 104 hl
   omega

theorem open_graphs {fuel:Nat} {cs:List Value} {x:DataW H × List MemPlace} (h:DataW.trod enc Tryz.prog W 0 (fun _=>true) true fuel 22 cs=some x) (hs:Small 22 x.1) :
  ∃ (ao:Option Addr) (n c:Nat) (rs:List RG),cs=[.slice ao n c]∧RdP W W.heap.size ao n rs:=by
 rcases open_slice_fields Tryz.underlying22 Tryz.underlying35 (by kernel_rfl) (by kernel_rfl) h with ⟨hcs,hx⟩ | ⟨a,len,cap,m,D,Pl,hcs,_,hl,hm,hmm,hx,hi⟩
 ·exact ⟨none,0,0,[],hcs,⟨Reads.none_,rfl,(fun r hr=>by cases hr),(fun r hr=>by cases hr),by omega⟩⟩
 ·simp only [if_true] at hmm
  subst hmm
  rw [hx] at hs
  have hsz:=small_slice hs Tryz.underlying22 (show Tryz.prog.bytesOf 35=128 by kernel_rfl)
  obtain ⟨l,hll,hlp⟩:=row_of (P:=fun i (r:RG)=>RdG W W.heap.size r∧WfG r.gr∧W.cell? (a.add (i*8))=some (.slice r.po r.gr.params.length r.pc)∧W.cell? (a.add (i*8+1))=some (.slice r.ko r.gr.kinds.length r.kc)∧W.cell? (a.add (i*8+2))=some (.int .i64 r.gr.cells)∧W.cell? (a.add (i*8+3))=some (.slice r.io r.gr.init.length r.ic)∧W.cell? (a.add (i*8+4))=some (.bool r.gr.result)∧W.cell? (a.add (i*8+5))=some (.int .i64 r.gr.keep)∧W.cell? (a.add (i*8+6))=some (.slice r.no r.gr.nodes.length r.nc)∧W.cell? (a.add (i*8+7))=some (.int .i64 r.gr.entry)) len (fun i hin=>by
   obtain ⟨ys,k,hD,_,hyl,hj⟩:=hi i (by omega)
   have hsi:Small 35 (D i):=small_elem hs Tryz.underlying22 (List.mem_map.2 ⟨i,List.mem_range.2 hin,rfl⟩)
   rw [hD] at hsi
   obtain ⟨v0,y0,hc0,hy0,ht0⟩:=hj 0 _ rfl
   obtain ⟨v1,y1,hc1,hy1,ht1⟩:=hj 1 _ rfl
   obtain ⟨v2,y2,hc2,hy2,ht2⟩:=hj 2 _ rfl
   obtain ⟨v3,y3,hc3,hy3,ht3⟩:=hj 3 _ rfl
   obtain ⟨v4,y4,hc4,hy4,ht4⟩:=hj 4 _ rfl
   obtain ⟨v5,y5,hc5,hy5,ht5⟩:=hj 5 _ rfl
   obtain ⟨v6,y6,hc6,hy6,ht6⟩:=hj 6 _ rfl
   obtain ⟨v7,y7,hc7,hy7,ht7⟩:=hj 7 _ rfl
   have s0:Small 26 y0.1:=small_field hsi Tryz.underlying35 (j:=0) rfl (by rw [List.getElem?_map,hy0];rfl)
   obtain ⟨o0,c0,l0,e0,r0,w0,cap0,_,_,d0⟩:=open_i64 Tryz.underlying26 Tryz.underlying3 (by kernel_rfl) ht0
   have s1:Small 32 y1.1:=small_field hsi Tryz.underlying35 (j:=1) rfl (by rw [List.getElem?_map,hy1];rfl)
   obtain ⟨o1,c1,l1,e1,r1,w1,cap1,_,_,d1⟩:=open_u8 Tryz.underlying32 Tryz.underlying42 (by kernel_rfl) ht1
   obtain ⟨n2,e2,_,w2⟩:=DataW.trod_int Tryz.underlying3 ht2
   have s3:Small 26 y3.1:=small_field hsi Tryz.underlying35 (j:=3) rfl (by rw [List.getElem?_map,hy3];rfl)
   obtain ⟨o3,c3,l3,e3,r3,w3,cap3,_,_,d3⟩:=open_i64 Tryz.underlying26 Tryz.underlying3 (by kernel_rfl) ht3
   obtain ⟨n4,e4,_⟩:=DataW.trod_bool Tryz.underlying4 ht4
   obtain ⟨n5,e5,_,w5⟩:=DataW.trod_int Tryz.underlying3 ht5
   have s6:Small 33 y6.1:=small_field hsi Tryz.underlying35 (j:=6) rfl (by rw [List.getElem?_map,hy6];rfl)
   obtain ⟨o6,n6,c6,ns,e6,r6,b6⟩:=open_nodes ht6 s6
   obtain ⟨n7,e7,_,w7⟩:=DataW.trod_int Tryz.underlying3 ht7
   have b0:l0.length*8≤140737488351232:=by
    rcases d0 with ⟨_,h0⟩ | ⟨elems,spare,he,hc⟩
    ·omega
    ·rw [he] at s0
     have:=small_slice s0 Tryz.underlying26 (show Tryz.prog.bytesOf 3=8 by kernel_rfl)
     omega
   have b1:l1.length*1≤140737488351232:=by
    rcases d1 with ⟨_,h0⟩ | ⟨elems,spare,he,hc⟩
    ·omega
    ·rw [he] at s1
     have:=small_slice s1 Tryz.underlying32 (show Tryz.prog.bytesOf 42=1 by kernel_rfl)
     omega
   have b3:l3.length*8≤140737488351232:=by
    rcases d3 with ⟨_,h0⟩ | ⟨elems,spare,he,hc⟩
    ·omega
    ·rw [he] at s3
     have:=small_slice s3 Tryz.underlying26 (show Tryz.prog.bytesOf 3=8 by kernel_rfl)
     omega
   have h2:=wf_i64 w2
   have h5:=wf_i64 w5
   have h7:=wf_i64 w7
   have hnl:(nds ns).length=n6:=by rw [length_nds,r6.len]
   have hwn:∀ i ∈ nds ns,WfN i:=fun i hi=>by
    obtain ⟨z,hz,rfl⟩:=List.mem_map.1 hi
    exact r6.wf z hz
   simp only [List.cons.injEq,and_true] at e0 e1 e2 e3 e4 e5 e6 e7
   subst e0 e1 e2 e3 e4 e5 e6 e7
   subst hnl
   exact ⟨⟨⟨l0,l1,n2,l3,n4,n5,nds ns,n7⟩,o0,c0,o1,c1,o3,c3,o6,c6,ns⟩,⟨r0,r1,r3,r6,rfl,cap0⟩,⟨w0,w1,h2,w3,h5,hwn,h7,b0,by simpa using b1,b3,b6⟩,hc0,hc1,hc2,hc3,hc4,hc5,hc6,hc7⟩)
  refine ⟨some a,len,m,l,hcs,⟨⟨by rw [length_rgc,hll],fun hn=>⟨a,rfl,?_,fun j u hu=>?_⟩⟩,hll,fun r hr=>?_,fun r hr=>?_,?_⟩⟩
  ·obtain ⟨x,hx0⟩:∃ x,l[0]?=some x:=⟨_,List.getElem?_eq_getElem (by omega)⟩
   exact block_of_cell (hlp 0 x hx0).2.2.1
  ·obtain ⟨i,x,k,hxi,hk,rfl,hv⟩:=flat_inv rgOne 8 (by omega) (fun _=>rfl) l j u hu
   have hp:=hlp i x hxi
   obtain rfl | rfl | rfl | rfl | rfl | rfl | rfl | rfl:k=0∨k=1∨k=2∨k=3∨k=4∨k=5∨k=6∨k=7:=by omega
   ·rw [← hv];exact hp.2.2.1
   ·rw [← hv];exact hp.2.2.2.1
   ·rw [← hv];exact hp.2.2.2.2.1
   ·rw [← hv];exact hp.2.2.2.2.2.1
   ·rw [← hv];exact hp.2.2.2.2.2.2.1
   ·rw [← hv];exact hp.2.2.2.2.2.2.2.1
   ·rw [← hv];exact hp.2.2.2.2.2.2.2.2.1
   ·rw [← hv];exact hp.2.2.2.2.2.2.2.2.2
  ·obtain ⟨i,hil,rfl⟩:=List.getElem_of_mem hr
   exact (hlp i _ (List.getElem?_eq_getElem hil)).1
  ·obtain ⟨i,hil,rfl⟩:=List.getElem_of_mem hr
   exact (hlp i _ (List.getElem?_eq_getElem hil)).2.1
  ·simp at hsz
   have:=Nat.mul_le_mul_right 128 hl
   omega

theorem open_prog {base:Nat} {v:Value} {d:DataW H} {p:List MemPlace} (hv:Value.okWide Tryz.prog W .any base 24 v) (h:DataW.Trod enc Tryz.prog W 0 (fun _=>true) true 24 v d p) (hs:Small 24 d) :
  ∃ (ao:Option Addr) (n c:Nat) (rs:List RG),v=.agg #[.slice ao n c]∧RdP W W.heap.size ao n rs:=by
 obtain ⟨cs,rfl,hsz⟩:=okWide_struct Tryz.underlying24 hv
 obtain ⟨l⟩:=cs
 match l,hsz.trans (show Tryz.prog.cellsOf 24=1 by kernel_rfl) with
 | [c0],_ =>
  obtain ⟨fuel,hf⟩:=h
  obtain ⟨xs,n,_,hx,_,hlen,hg⟩:=DataW.trod_struct Tryz.underlying24 hf
  match xs,hlen with
  | [y0],_ =>
   simp only [Prod.mk.injEq] at hx
   have h0:DataW.trod enc Tryz.prog W 0 (fun _=>true) true n 22 [c0]=some y0:=by
    have:=hg 0 _ rfl
    simpa [Value.cells,show Tryz.prog.cellsOf 22=1 by kernel_rfl] using this
   rw [hx.1] at hs
   have s0:Small 22 y0.1:=small_field hs Tryz.underlying24 (j:=0) rfl rfl
   obtain ⟨ao,m,c,rs,e,hr⟩:=open_graphs h0 s0
   simp only [List.cons.injEq,and_true] at e
   subst e
   exact ⟨ao,m,c,rs,rfl,hr⟩
end
open Go.ChangeShapes Go.WideShapes Go.ChangeAt Go.RowKit
theorem gTz : Tryz.prog.globalNamed "math/bits.deBruijn64tab" = some 0 := by kernel_rfl
theorem gTzType:(Tryz.prog.globals[0]?).map (·.type)=some 163:=by kernel_rfl
theorem tz_data:(Rows.laid_math_bits_deBruijn64tab:DataW Unit)=Lib.tabData .u8 (Lib.deBruijn64tab.map fun x:Nat=>(x:Int)):=by kernel_rfl
theorem tz_tab {W : World} (h : laidMet Tryz.prog [("math/bits.deBruijn64tab", Rows.laid_math_bits_deBruijn64tab)] W) : TzTab W := by
 rw [tz_data] at h
 have ht:=Lib.tabIs_of_head gTz gTzType Tryz.underlying163 Tryz.underlying5 (by kernel_rfl) (by kernel_rfl) h
 intro j hj
 have hl:Lib.deBruijn64tab.length=64:=by decide
 have h1:=ht.cell gTz j (by rw [List.length_map,hl];exact hj)
 rw [h1]
 rw [List.getD_eq_getElem?_getD,List.getElem?_map,List.getD_eq_getElem?_getD,List.getElem?_eq_getElem (by rw [hl];exact hj)]
 rfl


def tU (us : List U3) (i : Nat) : Int := (us.getD i u0).t
theorem tU_sw {us : List U3} {i j : Nat} (hi : i < us.length) (hj : j < us.length) (k : Nat) : tU (swU us i j) k = if k = j then tU us i else if k = i then tU us j else tU us k := by
  unfold tU
  rw [swU_at hi hj]
  split
  · rfl
  · split <;> rfl
/-- no element ends before the one above it -/
def HpO (us : List U3) (n : Nat) : Prop := ∀ i, 0 < i → i < n → tU us ((i - 1) / 2) ≤ tU us i
theorem HpO.root {us : List U3} {n : Nat} (h : HpO us n) : ∀ i, i < n → tU us 0 ≤ tU us i := fun i => by
  induction i using Nat.strongRecOn with
  | _ i ih =>
    intro hi
    rcases Nat.eq_zero_or_pos i with h0 | h0
    · rw [h0]; exact Int.le_refl _
    · exact Int.le_trans (ih ((i - 1) / 2) (by omega) (by omega)) (h i h0 hi)
theorem up_heap : ∀ (f : Nat) (us : List U3) (j : Nat), j < f → j < us.length → (∀ i, 0 < i → i < us.length → i ≠ j → tU us ((i - 1) / 2) ≤ tU us i) →
    (0 < j → ∀ c, 0 < c → c < us.length → (c - 1) / 2 = j → tU us ((j - 1) / 2) ≤ tU us c) → HpO (upU f us j) us.length
  | 0, _, _, h, _, _, _ => absurd h (by omega)
  | f + 1, us, j, hf, hj, h1, h2 => by
    unfold upU
    by_cases c : j = 0 ∨ ¬ (us.getD j u0).t < (us.getD ((j - 1) / 2) u0).t
    · rw [if_pos c]
      intro i h0 hi
      by_cases e : i = j
      · subst e
        rcases c with c | c
        · omega
        · unfold tU; omega
      · exact h1 i h0 hi e
    · rw [if_neg c]
      have hj0 : 0 < j := by omega
      have hlt : tU us j < tU us ((j - 1) / 2) := by
        unfold tU
        have : ¬ ¬ (us.getD j u0).t < (us.getD ((j - 1) / 2) u0).t := fun h => c (.inr h)
        exact Classical.not_not.1 this
      obtain ⟨p, hp⟩ : ∃ p, p = (j - 1) / 2 := ⟨_, rfl⟩
      rw [← hp] at hlt ⊢
      have hpj : p < j := by omega
      have hs : ∀ k, tU (swU us p j) k = if k = j then tU us p else if k = p then tU us j else tU us k := fun k => tU_sw (by omega) hj k
      have hlen : (swU us p j).length = us.length := swU_len _ _ _
      have h3 := up_heap f (swU us p j) p (by omega) (by omega) (fun i h0 hi he => ?_) (fun hp0 c hc0 hc he => ?_)
      · rw [hlen] at h3; exact h3
      · rw [hlen] at hi
        rw [hs, hs i]
        by_cases e1 : i = j
        · subst e1
          rw [if_neg (by omega), if_pos hp.symm, if_pos rfl]
          omega
        · rw [if_neg e1, if_neg he]
          by_cases e2 : (i - 1) / 2 = j
          · rw [if_pos e2]
            have := h2 hj0 i h0 hi e2
            rw [← hp] at this
            exact this
          · rw [if_neg e2]
            have h4 := h1 i h0 hi e1
            by_cases e3 : (i - 1) / 2 = p
            · rw [if_pos e3]; rw [e3] at h4; omega
            · rw [if_neg e3]; exact h4
      · rw [hlen] at hc
        rw [hs, hs c]
        have hpp : (p - 1) / 2 < p := by omega
        rw [if_neg (by omega), if_neg (by omega)]
        have h4 := h1 p hp0 (by omega) (by omega)
        by_cases e1 : c = j
        · rw [if_pos e1]; exact h4
        · rw [if_neg e1, if_neg (by omega)]
          have h5 := h1 c hc0 hc e1
          rw [he] at h5
          omega
theorem down_heap : ∀ (f : Nat) (us : List U3) (i n : Nat), n ≤ i + f → n ≤ us.length → (∀ c, 0 < c → c < n → (c - 1) / 2 ≠ i → tU us ((c - 1) / 2) ≤ tU us c) →
    (0 < i → ∀ c, 0 < c → c < n → (c - 1) / 2 = i → tU us ((i - 1) / 2) ≤ tU us c) → HpO (downU f us i n) n
  | 0, us, i, n, hf, hn, h1, h2 => fun c h0 hc => h1 c h0 hc (by omega)
  | f + 1, us, i, n, hf, hn, h1, h2 => by
    unfold downU
    by_cases c1 : n ≤ 2 * i + 1
    · rw [if_pos c1]
      exact fun c h0 hc => h1 c h0 hc (by omega)
    · rw [if_neg c1]
      obtain ⟨g1, g2⟩ := chD_le us c1
      have hch : ∀ c, 0 < c → c < n → (c - 1) / 2 = i → tU us (chD us i n) ≤ tU us c := fun c h0 hc he => by
        unfold chD tU
        have : c = 2 * i + 1 ∨ c = 2 * i + 2 := by omega
        rcases this with rfl | rfl
        · split
          · omega
          · exact Int.le_refl _
        · split
          · exact Int.le_refl _
          · rename_i h; omega
      have hpar : (chD us i n - 1) / 2 = i := by unfold chD; split <;> omega
      obtain ⟨j, hj⟩ : ∃ j, j = chD us i n := ⟨_, rfl⟩
      rw [← hj] at g1 g2 hch hpar ⊢
      by_cases c2 : ¬ (us.getD j u0).t < (us.getD i u0).t
      · rw [if_pos c2]
        intro c h0 hc
        by_cases e : (c - 1) / 2 = i
        · have := hch c h0 hc e
          rw [e]
          unfold tU at this ⊢
          omega
        · exact h1 c h0 hc e
      · rw [if_neg c2]
        have hlt : tU us j < tU us i := Classical.not_not.1 c2
        have hs : ∀ k, tU (swU us i j) k = if k = j then tU us i else if k = i then tU us j else tU us k := fun k => tU_sw (by omega) (by omega) k
        refine down_heap f (swU us i j) j n (by omega) (by rw [swU_len]; exact hn) (fun c h0 hc he => ?_) (fun hj0 c h0 hc he => ?_)
        · rw [hs, hs c, if_neg he]
          by_cases e1 : (c - 1) / 2 = i
          · rw [if_pos e1]
            by_cases e2 : c = j
            · rw [if_pos e2]; omega
            · rw [if_neg e2, if_neg (by omega)]; exact hch c h0 hc e1
          · rw [if_neg e1]
            have h3 := h1 c h0 hc e1
            by_cases e2 : c = j
            · exact absurd (by rw [e2]; exact hpar) e1
            · rw [if_neg e2]
              by_cases e3 : c = i
              · rw [if_pos e3]
                subst e3
                exact h2 h0 j (by omega) g2 hpar
              · rw [if_neg e3]; exact h3
        · rw [hpar, hs, hs c, if_neg (by omega), if_pos rfl, if_neg (by omega), if_neg (by omega)]
          have h3 := h1 c h0 hc (by omega)
          rw [he] at h3
          exact h3
theorem HpO.take_ {us : List U3} {f : Nat} (h : HpO us f) : HpO (us.take f) f := fun i h0 hi => by
  have h1 := h i h0 hi
  unfold tU at h1 ⊢
  rw [take_getD us (by omega), take_getD us hi]
  exact h1
theorem pop_heap {us : List U3} {f : Nat} (hf : us.length = f + 1) (h : HpO us (f + 1)) : HpO ((popU us).take f) f := by
  refine HpO.take_ ?_
  unfold popU
  rw [hf, show f + 1 - 1 = f from rfl]
  have hs : ∀ k, tU (swU us 0 f) k = if k = f then tU us 0 else if k = 0 then tU us f else tU us k := fun k => tU_sw (by omega) (by omega) k
  refine down_heap (f + 1) (swU us 0 f) 0 f (by omega) (by rw [swU_len]; omega) (fun c h0 hc he => ?_) (fun h0 => by omega)
  rw [hs, hs c, if_neg (by omega), if_neg he, if_neg (by omega), if_neg (by omega)]
  exact h c h0 (by omega)
theorem tk_heap {us : List U3} (u : U3) (h : HpO us us.length) : HpO (tkU us u) (us.length + 1) := by
  unfold tkU
  have hl : (us ++ [u]).length = us.length + 1 := by simp
  have ht : ∀ k, k < us.length → tU (us ++ [u]) k = tU us k := fun k hk => by unfold tU; rw [app_getD, if_pos hk]
  have h1 := up_heap (us.length + 1) (us ++ [u]) us.length (by omega) (by omega) (fun i h0 hi he => ?_) (fun h0 c hc0 hc he => by omega)
  · rw [hl] at h1; exact h1
  · rw [hl] at hi
    rw [ht _ (by omega), ht _ (by omega)]
    exact h i h0 (by omega)
/-- behind endBefore all that is in use ends at p or later -/
theorem endB_heap (p : Int) : ∀ (f : Nat) (L : Nat → List Int) (us : List U3), us.length = f → HpO us f → HpO (endB p f L us).2 (endB p f L us).2.length ∧ ∀ i, i < (endB p f L us).2.length → p ≤ tU (endB p f L us).2 i
  | 0, L, us, hf, h => ⟨by show HpO us us.length; rw [hf]; exact h, fun i hi => by have hi' : i < us.length := hi; omega⟩
  | f + 1, L, us, hf, h => by
    unfold endB
    by_cases c : (us.getD 0 u0).t < p
    · rw [if_pos c]
      have hl : (popU us).length = us.length := popU_len us
      exact endB_heap p f _ _ (by rw [List.length_take]; omega) (pop_heap hf h)
    · rw [if_neg c]
      refine ⟨by show HpO us us.length; rw [hf]; exact h, fun i hi => ?_⟩
      have hi' : i < us.length := hi
      have := h.root i (by omega)
      unfold tU at this ⊢
      show p ≤ (us.getD i u0).t
      omega


theorem nodup_le : ∀ (a b : List Nat), a.Nodup → (∀ x ∈ a, x ∈ b) → a.length ≤ b.length
  | [], _, _, _ => Nat.zero_le _
  | y :: a, b, hn, hs => by
    obtain ⟨h1, h2⟩ := List.nodup_cons.1 hn
    have hy : y ∈ b := hs y (by simp)
    have h3 := nodup_le a (b.erase y) h2 (fun z hz => (List.mem_erase_of_ne (fun e => h1 (by rw [← e]; exact hz))).2 (hs z (by simp [hz])))
    rw [List.length_erase_of_mem hy] at h3
    have := List.length_pos_of_mem hy
    simp
    omega
theorem map_nodup {f : Nat → Nat} : ∀ (l : List Nat), l.Nodup → (∀ x ∈ l, ∀ y ∈ l, f x = f y → x = y) → (l.map f).Nodup
  | [], _, _ => by simp
  | x :: l, hn, hf => by
    obtain ⟨h1, h2⟩ := List.nodup_cons.1 hn
    rw [List.map_cons]
    refine List.nodup_cons.2 ⟨fun hm => ?_, map_nodup l h2 (fun a ha b hb e => hf a (by simp [ha]) b (by simp [hb]) e)⟩
    obtain ⟨y, hy, e⟩ := List.mem_map.1 hm
    have := hf x (by simp) y (by simp [hy]) e.symm
    exact h1 (by rw [this]; exact hy)
section
variable {fam : Int → Nat} {L : Nat → List Int} {nx : Int} {us vs : List U3}
theorem dom_kept {r : Int} (h : DomF fam nx r) (h1 : 6 ≤ r) (h2 : r < 12) : fam r = 1 := by
  rcases h with ⟨_, _, h4⟩ | ⟨e, _, _⟩ | ⟨_, h3, _⟩
  · omega
  · exact e
  · omega
/-- no kept register is lost -/
def LostI (L : Nat → List Int) (us : List U3) : Prop := ∀ r : Int, 6 ≤ r → r < 12 → r ∈ L 1 ∨ ∃ u, InU us u ∧ u.b = r
theorem endB_lost (p : Int) : ∀ (f : Nat) (L : Nat → List Int) (us : List U3), us.length = f → PI fam L nx us → LostI L us → LostI (endB p f L us).1 (endB p f L us).2 ∧ ∀ u, InU (endB p f L us).2 u → InU us u
  | 0, L, us, _, _, h => ⟨h, fun u hu => hu⟩
  | f + 1, L, us, hf, hp, h => by
    unfold endB
    by_cases c : (us.getD 0 u0).t < p
    · rw [if_pos c]
      have hl : (popU us).length = us.length := popU_len us
      have ht : ((popU us).take f).length = f := by rw [List.length_take]; omega
      have hpr : UPrm us.length us (popU us) := by rw [hf]; exact (popU_prm hf).1
      have h1 := hp.prm hpr hl
      obtain ⟨r1, r2⟩ := endB_lost p f _ _ ht (hp.pop hf) (fun r h6 h12 => by
        rcases h r h6 h12 with hm | ⟨u, hu, hb⟩
        · left
          by_cases e : (1 : Nat) = ((popU us).getD f u0).l
          · rw [← e, upd_at]; exact List.mem_append_left _ hm
          · rw [upd_ne e]; exact hm
        · obtain ⟨j, hj, e⟩ := (InU.prm hpr hl u).1 hu
          by_cases hjf : j < f
          · exact .inr ⟨u, ⟨j, by omega, by rw [take_getD _ hjf]; exact e⟩, hb⟩
          · have : j = f := by omega
            subst this
            left
            have hfl : j < (popU us).length := by omega
            obtain ⟨f1, f2⟩ := h1.fu j hfl
            rw [e, hb] at f1 f2
            have f3 := dom_kept f2 h6 h12
            have f4 : ((popU us).getD j u0).l = 1 := by rw [e]; omega
            rw [f4, upd_at, e, hb]
            simp)
      refine ⟨r1, fun u hu => ?_⟩
      obtain ⟨j, hj, e⟩ := r2 u hu
      have hjf : j < f := by omega
      rw [take_getD _ hjf] at e
      exact (InU.prm hpr hl u).2 ⟨j, by omega, e⟩
    · rw [if_neg c]
      exact ⟨h, fun u hu => hu⟩
theorem tkU_inv {us : List U3} {u v : U3} (h : InU (tkU us u) v) : InU us v ∨ v = u := by
  have hp := upU_prm (us.length + 1) (us ++ [u]) us.length (by simp)
  obtain ⟨j, hj, e⟩ := (InU.prm hp (by rw [upU_len]) v).2 h
  rw [app_getD] at e
  by_cases c : j < us.length
  · rw [if_pos c] at e; exact .inl ⟨j, c, e⟩
  · simp at hj
    rw [if_neg c, if_pos (by omega)] at e
    exact .inr e.symm
theorem tkU_in {us : List U3} {u v : U3} (h : InU us v ∨ v = u) : InU (tkU us u) v := by
  have hp := upU_prm (us.length + 1) (us ++ [u]) us.length (by simp)
  refine (InU.prm hp (by rw [upU_len]) v).1 ?_
  rcases h with ⟨j, hj, e⟩ | e
  · exact ⟨j, by simp; omega, by rw [app_getD, if_pos hj]; exact e⟩
  · exact ⟨us.length, by simp, by rw [app_getD, if_neg (by omega), if_pos rfl]; exact e.symm⟩
end
structure RmE (S : Nat → Iv) (i : Nat) (st : ASt) : Prop where
  heap : HpO st.us st.us.length
  lost : LostI st.L st.us
  src : ∀ u, InU st.us u → ∃ a, a < i ∧ u.b = st.bd (S a).p.toNat ∧ u.t = (S a).t
  low : ∀ a, a < i → st.bd (S a).p.toNat < 12
theorem RmE.start (S : Nat → Iv) : RmE S 0 as0 := by
  refine ⟨fun i _ hi => by simp [as0] at hi, fun r h1 h2 => .inl ?_, fun u hu => ?_, fun a ha => by omega⟩
  · show r ∈ newL 6 1
    rw [newL6, if_neg (by decide), if_pos rfl]
    have : r = 6 ∨ r = 7 ∨ r = 8 ∨ r = 9 ∨ r = 10 ∨ r = 11 := by omega
    rcases this with rfl | rfl | rfl | rfl | rfl | rfl <;> decide
  · obtain ⟨j, hj, _⟩ := hu
    simp [as0] at hj
theorem RmE.step {kd : Nat → Nat} {S : Nat → Iv} {i : Nat} {st : ASt} {fam : Int → Nat} (h : RmE S i st) (hR : RI kd S i st fam) (hk : kd (S i).p.toNat < 2) (hd : ∀ a, a < i → (S a).p.toNat ≠ (S i).p.toNat) (hs : ∀ a, a < i → (S a).f ≤ (S i).f)
    (hft : (S i).f ≤ (S i).t) (e1 : (S i).h = true → kd (S i).p.toNat ≠ 1) (e2 : ∀ ls : List Nat, ls.Nodup → (∀ a ∈ ls, a ≤ i ∧ (S a).f ≤ (S i).f ∧ (S i).f ≤ (S a).t) → ls.length ≤ 6) :
    RmE S (i + 1) (asStep kd st (S i)) := by
  obtain ⟨p1, _⟩ := endB_pi (nx := st.nx) (fam := fam) (S i).f st.us.length st.L st.us rfl hR.pi
  obtain ⟨q1, q2⟩ := endB_heap (S i).f st.us.length st.L st.us rfl h.heap
  obtain ⟨l1, l2⟩ := endB_lost (nx := st.nx) (fam := fam) (S i).f st.us.length st.L st.us rfl hR.pi h.lost
  have hE : asE st (S i) = endB (S i).f st.us.length st.L st.us := rfl
  rw [← hE] at p1 q1 q2 l1 l2
  obtain ⟨E, hEE⟩ : ∃ E, E = asE st (S i) := ⟨_, rfl⟩
  rw [← hEE] at p1 q1 q2 l1 l2
  have hsrc : ∀ j, j < E.2.length → ∃ a, a < i ∧ (E.2.getD j u0).b = st.bd (S a).p.toNat ∧ (E.2.getD j u0).t = (S a).t := fun j hj => h.src _ (l2 _ ⟨j, hj, rfl⟩)
  have hlen : E.2.length ≤ 5 := by
    have hch : ∃ g : Nat → Nat, ∀ j, j < E.2.length → g j < i ∧ (E.2.getD j u0).b = st.bd (S (g j)).p.toNat ∧ (E.2.getD j u0).t = (S (g j)).t := by
      refine ⟨fun j => if hj : j < E.2.length then Classical.choose (hsrc j hj) else 0, fun j hj => ?_⟩
      simp only [dif_pos hj]
      exact Classical.choose_spec (hsrc j hj)
    obtain ⟨g, hg⟩ := hch
    have h6 := e2 (i :: (List.range E.2.length).map g) (List.nodup_cons.2 ⟨fun hm => ?_, map_nodup _ List.nodup_range (fun x hx y hy e => ?_)⟩) (fun a ha => ?_)
    · simp at h6; omega
    · obtain ⟨j, hj, e⟩ := List.mem_map.1 hm
      have := (hg j (List.mem_range.1 hj)).1
      omega
    · have hx' := List.mem_range.1 hx
      have hy' := List.mem_range.1 hy
      refine p1.inj x y hx' hy' ?_
      rw [(hg x hx').2.1, (hg y hy').2.1, e]
    · rcases List.mem_cons.1 ha with e | e
      · rw [e]; exact ⟨Nat.le_refl _, Int.le_refl _, hft⟩
      · obtain ⟨j, hj, e3⟩ := List.mem_map.1 e
        have hj' := List.mem_range.1 hj
        have h7 := hg j hj'
        have h8 := q2 j hj'
        unfold tU at h8
        rw [← e3]
        exact ⟨by omega, hs _ h7.1, by rw [← h7.2.2]; exact h8⟩
  have hL1 : 0 < (E.1 1).length := by
    rcases Nat.eq_zero_or_pos (E.1 1).length with h0 | h0
    · exfalso
      have hnil : E.1 1 = [] := List.eq_nil_of_length_eq_zero h0
      have hj : ∀ r : Nat, r < 6 → ∃ j, j < E.2.length ∧ (E.2.getD j u0).b = 6 + r := fun r hr => by
        rcases l1 (6 + r) (by omega) (by omega) with hm | ⟨u, ⟨j, hj, e⟩, hb⟩
        · rw [hnil] at hm; cases hm
        · exact ⟨j, hj, by rw [e]; exact hb⟩
      have hch : ∃ g : Nat → Nat, ∀ r, r < 6 → g r < E.2.length ∧ (E.2.getD (g r) u0).b = 6 + r := by
        refine ⟨fun r => if hr : r < 6 then Classical.choose (hj r hr) else 0, fun r hr => ?_⟩
        simp only [dif_pos hr]
        exact Classical.choose_spec (hj r hr)
      obtain ⟨g, hg⟩ := hch
      have h6 := nodup_le ((List.range 6).map g) (List.range E.2.length) (map_nodup _ List.nodup_range (fun x hx y hy e => by
        have h1 := (hg x (List.mem_range.1 hx)).2
        have h2 := (hg y (List.mem_range.1 hy)).2
        rw [e] at h1
        omega)) (fun x hx => by
        obtain ⟨r, hr, e⟩ := List.mem_map.1 hx
        rw [← e]
        exact List.mem_range.2 (hg r (List.mem_range.1 hr)).1)
      simp at h6
      omega
    · exact h0
  have hI : lfI (S i).h (kd (S i).p.toNat) E.1 = 0 ∨ lfI (S i).h (kd (S i).p.toNat) E.1 = 1 := by
    unfold lfI lfT
    rw [if_neg (fun hh => by simp at hh; exact e1 hh.1 hh.2)]
    repeat' split
    all_goals first | exact .inl rfl | exact .inr rfl | (exfalso; omega)
  have hN : ¬ lfN (S i).h (kd (S i).p.toNat) (E.1 0).length (E.1 1).length (E.1 (2 + kd (S i).p.toNat)).length = true := fun hh => by
    have := (lfN_I hh).1
    omega
  have hLL : lfL (S i).h (kd (S i).p.toNat) E.1 st.nx = E.1 := by unfold lfL; rw [if_neg hN]
  have hkk : (asL kd st (S i) (asI kd st (S i))).length = asN kd st (S i) + 1 := by
    have : 0 < (asL kd st (S i) (asI kd st (S i))).length := lfL_ne
    unfold asN
    omega
  have hAL : asL kd st (S i) = E.1 := by rw [hEE]; unfold asL; rw [← hEE]; exact hLL
  have hAI : asI kd st (S i) = lfI (S i).h (kd (S i).p.toNat) E.1 := by unfold asI; rw [← hEE]
  have hb : ∀ a, a < i → (asStep kd st (S i)).bd (S a).p.toNat = st.bd (S a).p.toNat := fun a ha => upd_ne (hd a ha)
  have hbi : (asStep kd st (S i)).bd (S i).p.toNat = asB kd st (S i) := upd_at _ _ _
  have hus : (asStep kd st (S i)).us = tkU E.2 ⟨asB kd st (S i), (S i).t, asI kd st (S i)⟩ := by rw [hEE]; rfl
  have hsL : (asStep kd st (S i)).L = upd E.1 (asI kd st (S i)) ((E.1 (asI kd st (S i))).take (asN kd st (S i))) := by rw [← hAL]; rfl
  have hI4 : asI kd st (S i) < 4 := by rw [hAI]; omega
  have hkk2 := hkk
  rw [hAL] at hkk2
  have hB : asB kd st (S i) = (E.1 (asI kd st (S i))).getD (asN kd st (S i)) 0 := by unfold asB; rw [hAL]
  obtain ⟨_, t2, t3, _⟩ := p1.takeL hI4 hkk2 (S i).t
  rw [← hB] at t2 t3
  refine ⟨?_, fun r h6 h12 => ?_, fun u hu => ?_, fun a ha => ?_⟩
  · rw [hus, tkU_len]
    exact tk_heap _ q1
  · rw [hus, hsL]
    rcases l1 r h6 h12 with hm | ⟨u, hu, hbu⟩
    · by_cases e : (1 : Nat) = asI kd st (S i)
      · rw [← e, upd_at]
        have hsp := last_split hkk2
        rw [← hB, ← e] at hsp
        rw [hsp] at hm
        rcases List.mem_append.1 hm with h9 | h9
        · exact .inl h9
        · rw [List.mem_singleton] at h9
          exact .inr ⟨_, tkU_in (.inr rfl), h9.symm⟩
      · rw [upd_ne e]; exact .inl hm
    · exact .inr ⟨u, tkU_in (.inl hu), hbu⟩
  · rw [hus] at hu
    rcases tkU_inv hu with h9 | h9
    · obtain ⟨a, ha, a1, a2⟩ := h.src u (l2 u h9)
      exact ⟨a, by omega, by rw [hb a ha]; exact a1, a2⟩
    · exact ⟨i, by omega, by rw [h9, hbi], by rw [h9]⟩
  · by_cases e : a < i
    · rw [hb a e]; exact h.low a e
    · obtain rfl : a = i := by omega
      rw [hbi]
      have : fam (asB kd st (S a)) = 0 ∨ fam (asB kd st (S a)) = 1 := by rw [t2, hAI]; exact hI
      rcases t3 with ⟨_, _, h9⟩ | ⟨_, _, h9⟩ | ⟨h9, _, _⟩ <;> omega
theorem RmE.all {kd : Nat → Nat} {S : Nat → Iv} {n : Nat} (hk : ∀ a, a < n → kd (S a).p.toNat < 2) (hd : ∀ a b, a < b → b < n → (S a).p.toNat ≠ (S b).p.toNat) (hs : ∀ a b, a < b → b < n → (S a).f ≤ (S b).f)
    (hft : ∀ a, a < n → (S a).f ≤ (S a).t) (e1 : ∀ a, a < n → (S a).h = true → kd (S a).p.toNat ≠ 1) (e2 : ∀ i, i < n → ∀ ls : List Nat, ls.Nodup → (∀ a ∈ ls, a < n ∧ (S a).f ≤ (S i).f ∧ (S i).f ≤ (S a).t) → ls.length ≤ 6) :
    ∀ i, i ≤ n → RmE S i (asRun kd S i)
  | 0, _ => RmE.start S
  | i + 1, hi => by
    obtain ⟨fam, h⟩ := RI.all hk hd hs i (by omega)
    exact (RmE.all hk hd hs hft e1 e2 i (by omega)).step h (hk i (by omega)) (fun a ha => hd a i ha (by omega)) (fun a ha => hs a i ha (by omega)) (hft i (by omega)) (e1 i (by omega)) (fun ls h1 h2 => e2 i (by omega) ls h1 (fun a ha => by have := h2 a ha; exact ⟨by omega, this.2⟩))
/-- how many of the first n intervals hold a position -/
def cntF (F : Nat → Iv) (x : Int) : Nat → Nat
  | 0 => 0
  | n + 1 => cntF F x n + if (F n).f ≤ x ∧ x ≤ (F n).t then 1 else 0
theorem cntF_filter (F : Nat → Iv) (x : Int) : ∀ n, cntF F x n = ((List.range n).filter (fun a => decide ((F a).f ≤ x ∧ x ≤ (F a).t))).length
  | 0 => rfl
  | n + 1 => by
    rw [List.range_succ, List.filter_append, List.length_append, ← cntF_filter F x n]
    show (cntF F x n + if (F n).f ≤ x ∧ x ≤ (F n).t then 1 else 0) = _
    by_cases h : (F n).f ≤ x ∧ x ≤ (F n).t
    · rw [if_pos h, List.filter_cons_of_pos (by simpa using h)]; rfl
    · rw [if_neg h, List.filter_cons_of_neg (by simpa using h)]; rfl
theorem cntF_ge (F : Nat → Iv) (x : Int) (n : Nat) (ls : List Nat) (h1 : ls.Nodup) (h2 : ∀ a ∈ ls, a < n ∧ (F a).f ≤ x ∧ x ≤ (F a).t) : ls.length ≤ cntF F x n := by
  rw [cntF_filter]
  exact nodup_le _ _ h1 (fun a ha => List.mem_filter.2 ⟨List.mem_range.2 (h2 a ha).1, by simpa using (h2 a ha).2⟩)
/-- at most six at each position, and no pointer held over a call -/
def EzI (g : Gr) : Prop := (∀ x : Nat, x < g.nodes.length → cntF (spF g) x (spansG g).length ≤ 6) ∧ ∀ i, i < (spansG g).length → (spF g i).h = true → kdL g.kinds (spF g i).p.toNat ≠ 1
theorem asg_room {gs : List Gr} {g : Gr} (h : valid gs false) (hg : g ∈ gs) (hz : EzI g) (q : Nat) : asgG g q < 12 := by
  obtain ⟨n, hn⟩ : ∃ n, n = (spansG g).length := ⟨_, rfl⟩
  obtain ⟨hso, hpr⟩ := stb_ok kyF n (spF g)
  have hS : spS g = stb kyF n (spF g) := by unfold spS; rw [hn]
  rw [← hS] at hso hpr
  obtain ⟨π, ρ, hπ⟩ := hpr
  have hS2 : ∀ a, a < n → spS g a = spF g (π a) := fun a ha => (hπ a ha).2.2.2.2
  have hin : ∀ i, i < n → (∃ q : Nat, (spF g i).p = q) ∧ 0 ≤ (spF g i).f ∧ (spF g i).f ≤ (spF g i).t ∧ (spF g i).t < (lineG g).length := fun i hi => by
    obtain ⟨⟨q, h1, h2, _⟩, h3, h4, h5, _⟩ := spG_in h hg (spF_mem (by rw [← hn]; exact hi))
    exact ⟨⟨q, h1⟩, h3, h4, h5⟩
  have hinj : ∀ i j, i < n → j < n → (spF g i).p.toNat = (spF g j).p.toNat → i = j := fun i j hi hj e => by
    obtain ⟨⟨q, h1⟩, _⟩ := hin i hi
    obtain ⟨⟨q2, h2⟩, _⟩ := hin j hj
    rcases Nat.lt_trichotomy i j with hlt | heq | hgt
    · have := spF_apart g hlt (by omega); omega
    · exact heq
    · have := spF_apart g hgt (by omega); omega
  have hpi : ∀ a b, a < n → b < n → π a = π b → a = b := fun a b ha hb e => by
    obtain ⟨a1, a2, a3, a4, a5⟩ := hπ a ha
    obtain ⟨b1, b2, b3, b4, b5⟩ := hπ b hb
    rw [← a4, ← b4, e]
  have hd : ∀ a b, a < b → b < n → (spS g a).p.toNat ≠ (spS g b).p.toNat := fun a b hab hb e => by
    rw [hS2 a (by omega), hS2 b hb] at e
    have := hpi a b (by omega) hb (hinj _ _ (hπ a (by omega)).1 (hπ b hb).1 e)
    omega
  have hlen : (lineG g).length ≤ g.nodes.length := (lineG_ok h hg).len
  have hR := RmE.all (kd := kdL g.kinds) (S := spS g) (n := n) (fun a _ => kd_lt h hg _) hd (fun a b hab hb => hso a b (by omega) hab hb)
    (fun a ha => by rw [hS2 a ha]; exact (hin _ (hπ a ha).1).2.2.1)
    (fun a ha hh => by rw [hS2 a ha] at hh ⊢; exact hz.2 _ (by rw [← hn]; exact (hπ a ha).1) hh)
    (fun i hi ls h1 h2 => by
      obtain ⟨_, f0, f1, f2⟩ := hin _ (hπ i hi).1
      rw [← hS2 i hi] at f0 f1 f2
      have h3 := hz.1 (spS g i).f.toNat (by omega)
      have h4 := cntF_ge (spF g) (spS g i).f n (ls.map π) (map_nodup _ h1 (fun x hx y hy e => hpi x y (h2 x hx).1 (h2 y hy).1 e)) (fun a ha => by
        obtain ⟨b, hb, e⟩ := List.mem_map.1 ha
        have h5 := h2 b hb
        rw [← e, ← hS2 b h5.1]
        exact ⟨(hπ b h5.1).1, h5.2⟩)
      rw [List.length_map] at h4
      rw [← hn, show (((spS g i).f.toNat : Nat) : Int) = (spS g i).f by omega] at h3
      omega) n (Nat.le_refl _)
  have hl : asgG g q = (asRun (kdL g.kinds) (spS g) n).bd q := by unfold asgG; rw [hn]
  by_cases c : ∃ a, a < n ∧ (spS g a).p.toNat = q
  · obtain ⟨a, ha, e⟩ := c
    rw [hl, ← e]
    exact hR.low a ha
  · obtain ⟨fam, hI⟩ := RI.all (kd := kdL g.kinds) (S := spS g) (n := n) (fun a _ => kd_lt h hg _) hd (fun a b hab hb => hso a b (by omega) hab hb) n (Nat.le_refl _)
    rw [hl, hI.out q (fun a ha e => c ⟨a, ha, e⟩)]
    decide


theorem cntF_le (F : Nat → Iv) (x : Int) : ∀ n, cntF F x n ≤ n
  | 0 => Nat.le_refl _
  | n + 1 => by
    have := cntF_le F x n
    unfold cntF
    split <;> omega
/-- what Easy says -/
def EzP (F : Nat → Iv) (n n0 : Nat) (ks : List Int) (e : Ending) : Prop := ∃ b, e = .returned (.bool b) ∧ (b = true → (∀ x : Nat, x < n0 → cntF F x n ≤ 6) ∧ ∀ i, i < n → (F i).h = true → kdL ks (F i).p.toNat ≠ 1)
theorem easy13_any (po ko io no : Option Addr) (nP pc m kc nI ic n0 nc : Nat) (cells keep en : Int) (res : Bool) (ks : List Int) (F : Nat → Iv) (n : Nat) (sp : List Iv) (w : World)
    (hks : ks.length = m) (hkk : ∀ x ∈ ks, 0 ≤ x ∧ x < 2) (hm : m ≤ 1024) (hn0 : n0 ≤ 4096) (hn1 : 0 < n0) (hko : Reads w w.heap.size 1 ko m (u8c ks))
    (hsn : sp.length = n) (hsF : ∀ i, i < n → sp[i]? = some (F i)) (hnm : n ≤ m) (hin : ∀ i, i < n → ∃ q : Nat, (F i).p = q ∧ q < m)
    (hRS : ∀ W, Below w.heap.size w W → Calls Tryz.prog 18 #[.agg #[.slice po nP pc, .slice ko m kc, .int .i64 cells, .slice io nI ic, .bool res, .int .i64 keep, .slice no n0 nc, .int .i64 en]] W fun e w' => ∃ (A : Option Addr) (k c : Nat), e = .returned (.slice A k c) ∧ k = n ∧ w'.ownsRow W.heap.size 56 4 (.slice A k c) k (ivCs sp) ∧ Below W.heap.size W w') :
    Calls Tryz.prog 10 #[.agg #[.slice po nP pc, .slice ko m kc, .int .i64 cells, .slice io nI ic, .bool res, .int .i64 keep, .slice no n0 nc, .int .i64 en]] w fun e w' => EzP F n n0 ks e ∧ Below w.heap.size w w' := by
  obtain ⟨W1, hW1⟩ : ∃ W, W = w.alloc (.cells #[.slice po nP pc, .slice ko m kc, .int .i64 cells, .slice io nI ic, .bool res, .int .i64 keep, .slice no n0 nc, .int .i64 en] 35) := ⟨_, rfl⟩
  have hb1 : Below w.heap.size w W1 := by rw [hW1]; exact (Below.refl _ _).alloc (Nat.le_refl _) _
  have hg1 : Blk W1 w.heap.size 35 #[.slice po nP pc, .slice ko m kc, .int .i64 cells, .slice io nI ic, .bool res, .int .i64 keep, .slice no n0 nc, .int .i64 en] := by rw [hW1]; exact Blk.new _ _ _
  have HRS := Lib.hid (hRS W1 hb1)
  have HB1 := Lib.hid hb1
  have HG1 := Lib.hid hg1
  have HKO := Lib.hid hko
  have HSF := Lib.hid hsF
  have HIN := Lib.hid hin
  have HKS := Lib.hid hks
  have HKK := Lib.hid hkk
  have x0 : W1.cell? ⟨w.heap.size, 0, none⟩ = some (.slice po nP pc) := hg1.cell 0
  have x1 : W1.cell? ⟨w.heap.size, 1, none⟩ = some (.slice ko m kc) := hg1.cell 1
  have x2 : W1.cell? ⟨w.heap.size, 2, none⟩ = some (.int .i64 cells) := hg1.cell 2
  have x3 : W1.cell? ⟨w.heap.size, 3, none⟩ = some (.slice io nI ic) := hg1.cell 3
  have x4 : W1.cell? ⟨w.heap.size, 4, none⟩ = some (.bool res) := hg1.cell 4
  have x5 : W1.cell? ⟨w.heap.size, 5, none⟩ = some (.int .i64 keep) := hg1.cell 5
  have x6 : W1.cell? ⟨w.heap.size, 6, none⟩ = some (.slice no n0 nc) := hg1.cell 6
  have x7 : W1.cell? ⟨w.heap.size, 7, none⟩ = some (.int .i64 en) := hg1.cell 7
  clear hks hkk hko hsn hsF hin hRS hb1 hg1
  go_enter Tryz.func10, Tryz.ntmps10
  go_upto_region 1 with fail
  rw [← hW1]
  clear hW1
  go_upto_region 2 with (go_at_call 18; refine HRS.out.mono ?_; rintro e w3 ⟨A2, k2, c2, rfl, hk2, ho2, hb2⟩; have hk2' := hk2.symm; clear hk2; subst hk2'; have HO2 := Lib.hid ho2; have HB2 := Lib.hid hb2; have y6 : w3.cell? ⟨w.heap.size, 6, none⟩ = some (.slice no n0 nc) := (HG1.out.below hb2 HG1.out.lt).cell 6; clear ho2 hb2)
  have HB3 : Hid (Below w.heap.size w w3) := Lib.hid (HB1.out.trans (HB2.out.mono HB1.out.size))
  have HCG : Hid (∀ W, Below w3.heap.size w3 W → W.cell? ⟨w.heap.size, 1, none⟩ = some (.slice ko m kc)) := Lib.hid fun W hW =>
    ((HG1.out.below HB2.out HG1.out.lt).below hW (HG1.out.below HB2.out HG1.out.lt).lt).cell 1
  have HCS : Hid (0 < n → ∃ sb so, A2 = some ⟨sb, so, none⟩ ∧ ∀ W, Below w3.heap.size w3 W → ∀ i, i < n → W.cell? ⟨sb, so + i * 4, none⟩ = some (.int .i64 (F i).p) ∧ W.cell? ⟨sb, so + i * 4 + 1, none⟩ = some (.int .i64 (F i).f) ∧ W.cell? ⟨sb, so + i * 4 + 2, none⟩ = some (.int .i64 (F i).t) ∧ W.cell? ⟨sb, so + i * 4 + 3, none⟩ = some (.bool (F i).h)) := Lib.hid fun hn0 => by
    obtain ⟨sb, so, e, hsb, hsc⟩ := (Reads.of_own HO2.out).lit hn0 (by omega)
    refine ⟨sb, so, e, fun W hW i hi => ?_⟩
    have hcs := ivCs_at (HSF.out i hi)
    have hlow : ∀ i u, (ivCs sp)[i]? = some u → W.cell? ⟨sb, so + i, none⟩ = some u := fun i u hu => (hW.cell hsb).trans (hsc i u hu)
    exact ⟨hlow _ _ hcs.1, hlow _ _ hcs.2.1, hlow _ _ hcs.2.2.1, hlow _ _ hcs.2.2.2⟩
  have HCK : Hid (0 < m → ∃ kb kf, ko = some ⟨kb, kf, none⟩ ∧ ∀ W, Below w3.heap.size w3 W → ∀ q, q < m → W.cell? ⟨kb, kf + q, none⟩ = some (.int .u8 (ks.getD q 0))) := Lib.hid fun hm0 => by
    obtain ⟨kb, kf, e, hkb, hkc⟩ := HKO.out.lit hm0 (by omega)
    refine ⟨kb, kf, e, fun W hW q hq => ?_⟩
    have hql : q < ks.length := by rw [HKS.out]; exact hq
    rw [hW.cell (show kb < w3.heap.size by have := HB3.out.size; omega), HB3.out.cell hkb]
    refine hkc _ _ (u8c_at ?_)
    rw [List.getElem?_eq_getElem hql, List.getD_eq_getElem?_getD, List.getElem?_eq_getElem hql]; rfl
  clear HO2 HKO HG1 HB1 HB2 HRS x0 x1 x2 x3 x4 x5 x6 x7
  go_wp2
  go_loopw [13] (fun s wr => ∃ x : Nat, s = .int .i64 x ∧ x ≤ n0 ∧ Hid (∀ y : Nat, y < x → cntF F y n ≤ 6) ∧ Hid (0 < x → ∀ i, i < n → (F i).h = true → kdL ks (F i).p.toNat ≠ 1) ∧ Hid (Below w3.heap.size w3 wr)) (fun s _ => n0 - (intOf s).toNat)
  case atStart => exact ⟨0, rfl, by omega, Lib.hid (fun y hy => by omega), Lib.hid (fun h => by omega), Lib.hid (Below.refl _ _)⟩
  case round =>
    obtain ⟨x, rfl, hx, HC, HH, HW⟩ := hrel
    by_cases hlt : x < n0
    · obtain ⟨wa, hwa⟩ : ∃ x, x = wr := ⟨_, rfl⟩
      rw [← hwa] at HW ⊢
      clear hwa
      go_wp2
      go_loopw [5, 18] (fun s5 s18 wr => ∃ j : Nat, s18 = .int .i64 j ∧ s5 = .int .i64 (cntF F x j : Nat) ∧ j ≤ n ∧ Hid (∀ i, i < j → (F i).h = true → kdL ks (F i).p.toNat ≠ 1) ∧ Hid (Below w3.heap.size w3 wr)) (fun _ s _ => n - (intOf s).toNat)
      case atStart => exact ⟨0, rfl, rfl, by omega, Lib.hid (fun i hi => by omega), HW⟩
      case round =>
        clear HW
        obtain ⟨j, rfl, rfl, hj, HJ, HW⟩ := hrel
        by_cases hjn : j < n
        · obtain ⟨sb, so, rfl, hcs⟩ := HCS.out (by omega)
          obtain ⟨q, hq, hqm⟩ := HIN.out j hjn
          obtain ⟨kb, kf, rfl, hck⟩ := HCK.out (by omega)
          obtain ⟨s0, s1, s2, s3⟩ := hcs wr HW.out j hjn
          rw [hq] at s0
          obtain ⟨sf, hsf⟩ : ∃ x, x = (F j).f := ⟨_, rfl⟩
          obtain ⟨se, hse⟩ : ∃ x, x = (F j).t := ⟨_, rfl⟩
          obtain ⟨sh, hsh⟩ : ∃ x, x = (F j).h := ⟨_, rfl⟩
          rw [← hsf] at s1
          rw [← hse] at s2
          rw [← hsh] at s3
          obtain ⟨kv, hkv⟩ : ∃ x, x = ks.getD q 0 := ⟨_, rfl⟩
          obtain ⟨cn, hcn⟩ : ∃ c, c = cntF F x j := ⟨_, rfl⟩
          obtain ⟨cn2, hcn2⟩ : ∃ c, c = cntF F x (j + 1) := ⟨_, rfl⟩
          have hcs2 : cn2 = cn + if sf ≤ (x : Int) ∧ (x : Int) ≤ se then 1 else 0 := by rw [hcn2, hcn, hsf, hse]; rfl
          have hcl : cn ≤ 1024 := by rw [hcn]; have := cntF_le F x j; omega
          have hqq : (F j).p.toNat = q := by rw [hq]; simp
          obtain ⟨W4, hW4⟩ : ∃ W, W = wr.alloc (.cells #[.int .i64 q, .int .i64 sf, .int .i64 se, .bool sh] 56) := ⟨_, rfl⟩
          have HB4 : Hid (Below w3.heap.size w3 W4) := Lib.hid (by rw [hW4]; exact HW.out.alloc HW.out.size _)
          have HS4 : Blk W4 wr.heap.size 56 #[.int .i64 q, .int .i64 sf, .int .i64 se, .bool sh] := by rw [hW4]; exact Blk.new _ _ _
          have t0 : W4.cell? ⟨wr.heap.size, 0, none⟩ = some (.int .i64 q) := HS4.cell 0
          have t1 : W4.cell? ⟨wr.heap.size, 1, none⟩ = some (.int .i64 sf) := HS4.cell 1
          have t2 : W4.cell? ⟨wr.heap.size, 2, none⟩ = some (.int .i64 se) := HS4.cell 2
          have t3 : W4.cell? ⟨wr.heap.size, 3, none⟩ = some (.bool sh) := HS4.cell 3
          have t4 := HCG.out W4 HB4.out
          have t5 : W4.cell? ⟨kb, kf + q, none⟩ = some (.int .u8 kv) := by rw [hkv]; exact hck W4 HB4.out q hqm
          have HKV : Hid (kdL ks (F j).p.toNat = kv.toNat ∧ 0 ≤ kv ∧ sh = (F j).h) := Lib.hid ⟨by rw [hqq, hkv]; rfl, by
            rw [hkv, List.getD_eq_getElem?_getD]
            have hql : q < ks.length := by rw [HKS.out]; exact hqm
            rw [List.getElem?_eq_getElem hql]; exact (HKK.out _ (List.getElem_mem hql)).1, hsh⟩
          have HCN := Lib.hid hcn2
          have HNX : Hid ((sh = true → kv ≠ 1) → ∀ i, i < j + 1 → (F i).h = true → kdL ks (F i).p.toNat ≠ 1) := Lib.hid fun hne i hi hh => by
            by_cases e : i < j
            · exact HJ.out i e hh
            · have : i = j := by omega
              subst this
              have h1 := HKV.out
              rw [h1.1]
              have := hne (by rw [h1.2.2]; exact hh)
              omega
          rw [← hcn]
          clear hcs hck hq hsf hse hsh hkv hcn hcn2 hqq HS4 HW
          go_upto_region 9 with fail
          rw [← hW4]
          clear hW4 s0 s1 s2 s3
          by_cases c1 : sf ≤ (x : Int)
          · by_cases c2 : (x : Int) ≤ se
            · have he2 : cn2 = cn + 1 := by rw [hcs2, if_pos ⟨c1, c2⟩]
              clear hcs2
              cases sh with
              | false =>
                go_wp2
                go_roundw
                case rel => exact ⟨j + 1, by go_num, by rw [← HCN.out, he2]; go_num, by omega, Lib.hid (HNX.out (fun h => by cases h)), HB4⟩
                case measure => simp [intOf]; omega
              | true =>
                by_cases hk1 : kv = 1
                · have g2 : (kv == 1) = true := by simpa using hk1
                  have HBW := Lib.hid (HB3.out.trans (HB4.out.mono HB3.out.size))
                  clear hk1
                  go_wp2
                  first | go_end0 | go_ret
                  exact ⟨⟨false, rfl, fun h => by cases h⟩, HBW.out⟩
                · have g2 : (kv == 1) = false := by simpa using hk1
                  go_wp2
                  go_roundw
                  case rel => exact ⟨j + 1, by go_num, by rw [← HCN.out, he2]; go_num, by omega, Lib.hid (HNX.out (fun _ => hk1)), HB4⟩
                  case measure => simp [intOf]; omega
            · have he2 : cn2 = cn := by rw [hcs2, if_neg (fun h => c2 h.2), Nat.add_zero]
              clear hcs2
              cases sh with
              | false =>
                go_wp2
                go_roundw
                case rel => exact ⟨j + 1, by go_num, by rw [← HCN.out, he2], by omega, Lib.hid (HNX.out (fun h => by cases h)), HB4⟩
                case measure => simp [intOf]; omega
              | true =>
                by_cases hk1 : kv = 1
                · have g2 : (kv == 1) = true := by simpa using hk1
                  have HBW := Lib.hid (HB3.out.trans (HB4.out.mono HB3.out.size))
                  clear hk1
                  go_wp2
                  first | go_end0 | go_ret
                  exact ⟨⟨false, rfl, fun h => by cases h⟩, HBW.out⟩
                · have g2 : (kv == 1) = false := by simpa using hk1
                  go_wp2
                  go_roundw
                  case rel => exact ⟨j + 1, by go_num, by rw [← HCN.out, he2], by omega, Lib.hid (HNX.out (fun _ => hk1)), HB4⟩
                  case measure => simp [intOf]; omega
          · have he2 : cn2 = cn := by rw [hcs2, if_neg (fun h => c1 h.1), Nat.add_zero]
            clear hcs2
            cases sh with
            | false =>
              go_wp2
              go_roundw
              case rel => exact ⟨j + 1, by go_num, by rw [← HCN.out, he2], by omega, Lib.hid (HNX.out (fun h => by cases h)), HB4⟩
              case measure => simp [intOf]; omega
            | true =>
              by_cases hk1 : kv = 1
              · have g2 : (kv == 1) = true := by simpa using hk1
                have HBW := Lib.hid (HB3.out.trans (HB4.out.mono HB3.out.size))
                clear hk1
                go_wp2
                first | go_end0 | go_ret
                exact ⟨⟨false, rfl, fun h => by cases h⟩, HBW.out⟩
              · have g2 : (kv == 1) = false := by simpa using hk1
                go_wp2
                go_roundw
                case rel => exact ⟨j + 1, by go_num, by rw [← HCN.out, he2], by omega, Lib.hid (HNX.out (fun _ => hk1)), HB4⟩
                case measure => simp [intOf]; omega
        · obtain rfl : n = j := by omega
          have HBW := Lib.hid (HB3.out.trans (HW.out.mono HB3.out.size))
          by_cases h6 : cntF F x n ≤ 6
          · have HC2 : Hid (∀ y : Nat, y < x + 1 → cntF F y n ≤ 6) := Lib.hid fun y hy => by
              by_cases e : y < x
              · exact HC.out y e
              · have : y = x := by omega
                subst this; exact h6
            obtain ⟨cn, hcn⟩ : ∃ c, c = cntF F x n := ⟨_, rfl⟩
            rw [← hcn] at h6 ⊢
            clear hcn
            go_wp2
            go_roundw
            case rel => exact ⟨x + 1, by go_num, by omega, HC2, Lib.hid (fun _ => HJ.out), HW⟩
            case measure => simp [intOf]; omega
          · obtain ⟨cn, hcn⟩ : ∃ c, c = cntF F x n := ⟨_, rfl⟩
            rw [← hcn] at h6 ⊢
            clear hcn
            go_wp2
            first | go_end0 | go_ret
            exact ⟨⟨false, rfl, fun h => by cases h⟩, HBW.out⟩
    · obtain rfl : n0 = x := by omega
      have HBW := Lib.hid (HB3.out.trans (HW.out.mono HB3.out.size))
      clear HW
      go_wp2
      first | go_end0 | go_ret
      exact ⟨⟨true, rfl, fun _ => ⟨HC.out, HH.out hn1⟩⟩, HBW.out⟩


theorem easy13_asg {gs : List Gr} {g : Gr} (hv : valid gs false) (hg : g ∈ gs) (B : Nat) (r : RG) (hr : r.gr = g) (en : Nat) (hent : g.entry = (en : Int)) (hen : en < g.nodes.length) (w : World) (hRG : RdG w B r) (hB : B ≤ w.heap.size) :
    Calls Tryz.prog 10 #[.agg #[.slice r.po r.gr.params.length r.pc, .slice r.ko r.gr.kinds.length r.kc, .int .i64 r.gr.cells, .slice r.io r.gr.init.length r.ic, .bool r.gr.result, .int .i64 r.gr.keep, .slice r.no r.gr.nodes.length r.nc, .int .i64 en]] w fun e w' => EzP (spF g) (spansG g).length g.nodes.length g.kinds e ∧ Below w.heap.size w w' := by
  subst hr
  have hsz := valid_sizes hv hg
  have hnin := valid_next hv hg
  have hpin := valid_params hv hg
  have hLL : lineK r.gr.nodes en = lineG r.gr := by unfold lineG; rw [hent, Int.toNat_natCast]
  rw [← hRG.nd] at hnin
  have hF : ∀ i, i < (spansG r.gr).length → (spansG r.gr)[i]? = some (spF r.gr i) := fun i hi => by
    unfold spF
    rw [List.getD_eq_getElem?_getD, List.getElem?_eq_getElem hi]; rfl
  have hin : ∀ i, i < (spansG r.gr).length → ∃ q : Nat, (spF r.gr i).p = q ∧ q < r.gr.kinds.length := fun i hi => by
    obtain ⟨⟨q, h1, h2, _⟩, _⟩ := spG_in hv hg (spF_mem hi)
    exact ⟨q, h1, h2⟩
  refine easy13_any r.po r.ko r.io r.no r.gr.params.length r.pc r.gr.kinds.length r.kc r.gr.init.length r.ic r.gr.nodes.length r.nc r.gr.cells r.gr.keep en r.gr.result r.gr.kinds (spF r.gr) (spansG r.gr).length (spansG r.gr) w
    rfl (kdL_ok hv hg) hsz.1 hsz.2 (by omega) (hRG.kinds.more hB) rfl hF (spG_len _) hin (fun W hW => ?_)
  have h := rspans_any w.heap.size r.po r.ko r.io r.no r.gr.params.length r.pc r.gr.kinds.length r.kc r.gr.init.length r.ic r.gr.nodes.length r.nc en r.gr.cells r.gr.keep r.gr.result r.ns r.gr.params W ((hRG.nodes.more hB).below hW) ((hRG.params.more hB).below hW) rfl hpin.2 hW.size hsz.2 hsz.1 hnin hen
  rw [hRG.nd, hLL] at h
  exact h
theorem sroom_walk (fo : Option Addr) (nF cF : Nat) (rs : List RG) (f : Int) (w : World) (h : RdP w w.heap.size fo nF rs) (hT : TzTab w) :
    Calls Tryz.prog 4 #[.agg #[.slice fo nF cF], .int .i64 f] w fun e w' => e = .returned (.bool true) ∧ Below w.heap.size w w' := by
  have hb0 : Below w.heap.size w (w.alloc (.cells #[.slice fo nF cF] 24)) := (Below.refl _ _).alloc (Nat.le_refl _) _
  have HG0 := Lib.hid (Blk.new w 24 #[.slice fo nF cF])
  have HF := Lib.hid (jfirst_any (w.alloc (.cells #[.slice fo nF cF] 24)) (hT.below hb0))
  have HB0 := Lib.hid hb0
  have H := Lib.hid h
  have HAS : Hid (∀ W, Below w.heap.size w W → Calls Tryz.prog 7 #[.agg #[.slice fo nF cF], .int .i64 f] W (AsPost (grs rs) f W)) := Lib.hid fun W hb => asg_any w.heap.size fo nF cF rs f W (h.below hb) hb.size (hT.below hb)
  clear h hT hb0
  have HG : Hid (∀ W, Below (w.heap.size + 1) (w.alloc (.cells #[.slice fo nF cF] 24)) W → W.cell? ⟨w.heap.size, 0, none⟩ = some (.slice fo nF cF)) := Lib.hid fun W hb => (HG0.out.below hb (by omega)).cell 0
  have HZ0 : Hid ((w.alloc (.cells #[.slice fo nF cF] 24)).heap.size = w.heap.size + 1) := Lib.hid (by simp)
  obtain ⟨z, hz⟩ : ∃ z, z = chkL (grs rs) f := ⟨_, rfl⟩
  have HZ := Lib.hid hz
  by_cases h0 : z = 0
  · subst h0
    obtain ⟨hv, k, rfl, hk⟩ := chk_zero hz.symm
    have hkF : k < nF := by rw [length_grs, H.out.len] at hk; exact hk
    obtain ⟨b, off, r, hfe, hb, HX, HRG, HWG, x0, x1, x2, x3, x4, x5, x6, x7⟩ := H.out.gr hkF
    have HXG : Hid ((grs rs)[k]? = some r.gr) := Lib.hid (by unfold grs; rw [List.getElem?_map, HX.out]; rfl)
    have hmem : r.gr ∈ grs rs := List.mem_of_getElem? HXG.out
    obtain ⟨en, hent, hen⟩ := valid_entry hv hmem
    have hm4 := (valid_sizes hv hmem).1
    have HEZ : Hid (∀ W, Below w.heap.size w W → Calls Tryz.prog 10 #[.agg #[.slice r.po r.gr.params.length r.pc, .slice r.ko r.gr.kinds.length r.kc, .int .i64 r.gr.cells, .slice r.io r.gr.init.length r.ic, .bool r.gr.result, .int .i64 r.gr.keep, .slice r.no r.gr.nodes.length r.nc, .int .i64 en]] W fun e w' => EzP (spF r.gr) (spansG r.gr).length r.gr.nodes.length r.gr.kinds e ∧ Below W.heap.size W w') :=
      Lib.hid fun W hb => easy13_asg hv hmem w.heap.size r rfl en hent hen W (HRG.out.below hb) hb.size
    have HRM : Hid (EzI r.gr → ∀ q, asgG r.gr q < 12) := Lib.hid fun hz q => asg_room hv hmem hz q
    have HV := Lib.hid hv
    rw [hent] at x7
    have HCE : Hid (∀ W, Below w.heap.size w W → W.cell? ⟨b, off + k * 8, none⟩ = some (.slice r.po r.gr.params.length r.pc) ∧ W.cell? ⟨b, off + k * 8 + 1, none⟩ = some (.slice r.ko r.gr.kinds.length r.kc) ∧ W.cell? ⟨b, off + k * 8 + 2, none⟩ = some (.int .i64 r.gr.cells) ∧ W.cell? ⟨b, off + k * 8 + 3, none⟩ = some (.slice r.io r.gr.init.length r.ic) ∧ W.cell? ⟨b, off + k * 8 + 4, none⟩ = some (.bool r.gr.result) ∧ W.cell? ⟨b, off + k * 8 + 5, none⟩ = some (.int .i64 r.gr.keep) ∧ W.cell? ⟨b, off + k * 8 + 6, none⟩ = some (.slice r.no r.gr.nodes.length r.nc) ∧ W.cell? ⟨b, off + k * 8 + 7, none⟩ = some (.int .i64 en)) := Lib.hid fun W hbw => by
      rw [hbw.cell hb, hbw.cell hb, hbw.cell hb, hbw.cell hb, hbw.cell hb, hbw.cell hb, hbw.cell hb, hbw.cell hb]
      exact ⟨x0, x1, x2, x3, x4, x5, x6, x7⟩
    rw [hfe] at HG0 HF HB0 HAS HG HZ0 H ⊢
    clear hfe x0 x1 x2 x3 x4 x5 x6 x7 hv hmem hent hen hz
    go_enter Tryz.func4, Tryz.ntmps4
    go_upto_region 6 with (first
      | (go_at_call 6; refine HF.out.mono ?_; rintro e w1 ⟨rfl, hb1⟩; rw [HZ0.out] at hb1; have HB1 := Lib.hid hb1; have HW1 := Lib.hid (HB0.out.trans (hb1.mono (by omega))); have x1 := HG.out _ hb1; clear hb1)
      | (go_at_call 7; refine (HAS.out _ HW1.out).mono ?_; rintro e w2 hl; obtain ⟨hb2, b2, rfl, hg2, hk2⟩ := hl.ok HV.out HXG.out; have hb2' := HB1.out.trans (hb2.mono (by have := HB1.out.size; rw [HZ0.out] at this; exact this)); have HB2 := Lib.hid hb2'; have HW2 := Lib.hid (HW1.out.trans (hb2.mono HW1.out.size)); have HK2 := Lib.hid hk2; have x2 := HG.out _ hb2'; obtain ⟨y0, y1, y2, y3, y4, y5, y6, y7⟩ := HCE.out _ HW2.out; clear hl hb2 hb2' hk2))
    have HE2 := Lib.hid (HEZ.out w2 HW2.out)
    go_cut [28] (fun t wx => ∃ b3, t = .bool (!b3) ∧ Hid (b3 = true → EzI r.gr) ∧ Hid (Below w.heap.size w wx) ∧ Hid (Blk wx b2 3 (rowA r.gr.kinds.length fun q => .int .i64 (asgG r.gr q))))
    case first =>
      go_wp2_with (go_at_call 10; refine HE2.out.mono ?_; rintro e w3 ⟨⟨b3, rfl, hz3⟩, hb3⟩; have HZ3 : Hid (b3 = true → EzI r.gr) := Lib.hid (fun h => hz3 h); have HW3 := Lib.hid (HW2.out.trans (hb3.mono HW2.out.size)); have HK3 := Lib.hid (HK2.out.below hb3 HK2.out.lt); clear hb3 hz3)
      go_meet
      exact ⟨b3, rfl, HZ3, HW3, HK3⟩
    case rest =>
      obtain ⟨b3, rfl, HZ3, HW3, HK3⟩ := hcut
      clear HE2 HEZ HAS HF HG HCE HK2 HW2 HB2 HB1 HW1 HG0 H HB0 x1 x2 y0 y1 y2 y3 y4 y5 y6 y7
      cases b3 with
      | false =>
        go_wp2
        first | go_end0 | go_ret
        exact ⟨rfl, HW3.out⟩
      | true =>
        have HL : Hid (∀ q, asgG r.gr q < 12) := Lib.hid (HRM.out (HZ3.out rfl))
        obtain ⟨m, hm⟩ : ∃ m, m = r.gr.kinds.length := ⟨_, rfl⟩
        rw [← hm] at HK3 hm4 ⊢
        clear hm HRM HZ3
        go_wp2
        go_loopw [31] (fun s wr => ∃ q : Nat, s = .int .i64 q ∧ q ≤ m ∧ wr = wc) (fun s _ => m - (intOf s).toNat)
        case atStart => exact ⟨0, rfl, by omega, rfl⟩
        case round =>
          obtain ⟨q, rfl, hq, rfl⟩ := hrel
          by_cases hlt : q < m
          · have z0 : wr.cell? ⟨b2, q, none⟩ = some (.int .i64 (asgG r.gr q)) := by rw [HK3.out.cell]; exact rowA_at _ hlt
            have hx := HL.out q
            obtain ⟨x, hxx⟩ : ∃ x, x = asgG r.gr q := ⟨_, rfl⟩
            rw [← hxx] at z0 hx
            clear hxx
            have g1 : ¬ x > 11 := by omega
            go_wp2
            go_roundw
            case rel => exact ⟨q + 1, by go_num, by omega, by trivial⟩
            case measure => simp [intOf] <;> omega
          · obtain rfl : m = q := by omega
            go_wp2
            first | go_end0 | go_ret
            exact ⟨rfl, HW3.out⟩
  · have g1 : (z != 0) = true := by simpa using h0
    have H0 := Lib.hid h0
    clear h0 hz
    go_enter Tryz.func4, Tryz.ntmps4
    go_wp2_with (first
      | (go_at_call 6; refine HF.out.mono ?_; rintro e w1 ⟨rfl, hb1⟩; rw [HZ0.out] at hb1; have HW1 := Lib.hid (HB0.out.trans (hb1.mono (by omega))); have x1 := HG.out _ hb1; clear hb1)
      | (go_at_call 7; refine (HAS.out _ HW1.out).mono ?_; rintro e w2 hl; obtain ⟨hb2, rfl⟩ := hl.bad HZ.out.symm H0.out; have HW2 := Lib.hid (HW1.out.trans (hb2.mono HW1.out.size)); clear hl hb2)
      | go_in)
    go_ret
    exact ⟨rfl, HW2.out⟩
end Go.Proofs.YtedmcfaghfgpoaaGreatDoor
namespace Go.Proofs.YtedmcfaghfgpoaaGreatDoor.scanRoom
open Go.ChangeShapes Go.WideShapes Go.ChangeAt Go.RowKit
open Go.ChangeMaps (open_string shut_string)
set_option linter.unusedVariables false

theorem own : ownKnob Tryz.prog.godebug = none := by kernel_rfl
theorem laidOut : laidOutB Tryz.prog = true := by kernel_rfl

set_option maxRecDepth 100000 in
theorem door_met (os : Os) (args : Array Value) : laidMetH Tryz.prog Rows.scanRoomRow.laid ((World.doorLaid Tryz.prog 14 os).forCall (fun _ _ => 0) ⟨#[], args, []⟩).memory :=
  laidMet_of_run' 8 (by kernel_rfl) (by kernel_rfl)

set_option maxRecDepth 100000 in
theorem reads (os : Os) {H : Type} (enc : TypeId × Value → H) : ∃ places, DataW.whole enc Tryz.prog ((World.doorLaid Tryz.prog 14 os).forCall (fun _ _ => 0) ⟨#[], #[.agg #[.slice none 0 0], .int .i64 0], []⟩).memory Tryz.f4.params.toList Rows.scanRoomSpec.vars false #[.agg #[.slice none 0 0], .int .i64 0].toList 8 = some ([.agg [.nil], .lit (.int .i64 0)], [], places) :=
  ⟨[], by kernel_rfl⟩

set_option maxRecDepth 100000 in
theorem lifted (os : Os) (started : os.Started) (H : Type) (enc : TypeId × Value → H) (F : Stop.Interp) :
    ReturnsInHanded {} Tryz.checked os 4 .any ((OpenSpec.ofChange Rows.scanRoomSpec).preRow enc Tryz.prog Tryz.f4 Rows.scanRoomRow.domain false Rows.scanRoomRow.laid) (((OpenSpec.ofChange Rows.scanRoomSpec).at F).post enc Tryz.prog Tryz.f4 false true false false) := by
  obtain ⟨places, hx⟩ := reads os enc
  refine returnsInHanded_of_row (C := Tryz.checked) (s := OpenSpec.ofChange Rows.scanRoomSpec) own started (by kernel_rfl) Tryz.func4
    (witness_row_at (enc := enc) (C := Tryz.checked) false (World.doorLaid Tryz.prog 14 os) #[.agg #[.slice none 0 0], .int .i64 0] rfl (by kernel_rfl) (by kernel_rfl) (by kernel_rfl)
      (OpenSpec.preRow_of_cond 8 hx (by kernel_rfl) (fun k hk => by cases hk) (by kernel_rfl) (door_met os _))) ?_
  intro W base args ds gs before hval0 hW _ hcond hsz0 hL hsh _
  have hval : ∀ (j : Nat) t v, Tryz.f4.params[j]? = some t → args[j]? = some v → Value.okWide Tryz.prog W .any base t v := hval0
  have hsz : (DataW.weightsEach Tryz.prog (Tryz.f4.params.toList ++ Rows.scanRoomSpec.plain.varTypes Tryz.prog) (ds ++ gs)).all (· ≤ reachBytes) = true := hsz0
  clear hsz0 hcond
  have hW' := hW
  obtain ⟨p, q, hA0, hV, rfl, hfz, hnd⟩ := hW
  have hA : DataW.TrodAll enc Tryz.prog W 0 (fun _ => true) true Tryz.f4.params.toList args.toList ds p := hA0
  rw [Tryz.params4] at hA hval hsz
  obtain ⟨v0, vs0, d0, ds0, p0, q0, hargs, rfl, rfl, h0, r0⟩ := trodAll_cons hA
  obtain ⟨v1, vs1, d1, ds1, p1, q1, rfl, rfl, rfl, h1, r1⟩ := trodAll_cons r0
  obtain ⟨rfl, rfl, rfl⟩ := trodAll_nil r1
  obtain rfl : args = #[v0, v1] := by cases args; simp_all
  obtain ⟨rfl, rfl⟩ := trodVars_none hV
  have k0 := h0
  have lt0 : ∀ x ∈ p0, x.block < W.heap.size := by obtain ⟨m, hm⟩ := k0; exact DataW.trod_lt m _ _ _ hm
  have sm0 : Small 24 d0 := fun x hx => by simpa using List.all_eq_true.1 hsz x (DataW.weights_mem_each (j := 0) rfl rfl x hx)
  obtain ⟨a0, n0, c0, l0, rfl, r0'⟩ := open_prog (hval 0 24 v0 rfl rfl) h0 sm0
  have k1 := h1
  have lt1 : ∀ x ∈ p1, x.block < W.heap.size := by obtain ⟨m, hm⟩ := k1; exact DataW.trod_lt m _ _ _ hm
  obtain ⟨x1, rfl, _, _, w1⟩ := open_int Tryz.underlying3 (hval 1 3 v1 rfl rfl) h1
  clear hA0 hval0
  refine (sroom_walk a0 n0 c0 l0 x1 W r0' (tz_tab hL)).mono fun e W' ⟨he, bel⟩ => ?_
  subst he
  exact ⟨_, rfl, _, _, _, [], _, [], hW', trodAll_mk1 (shut_bool Tryz.underlying4 _), (trodAll_cons_mk (Below.trod laidOut (by kernel_rfl) (of_decide_eq_true (by kernel_rfl)) k0 bel lt0) (trodAll_cons_mk (Below.trod laidOut (by kernel_rfl) (of_decide_eq_true (by kernel_rfl)) k1 bel lt1) trodAll_mk0)), rfl, bel.frame _, fun h => by cases h⟩

theorem said : Rows.ScanRoomSaid :=
  OpenClaim.holds_of_cond 4 Tryz.f4 rfl rfl rfl rfl rfl rfl rfl ⟨rfl, rfl, rfl, rfl, rfl⟩ rfl rfl rfl rfl rfl (by kernel_rfl) Tryz.func4 (by kernel_rfl)
    (of_decide_eq_true (by kernel_rfl)) (by unfold Func.isWrapper; first | (rw [if_pos (by decide +kernel)]; kernel_rfl) | (rw [if_neg (by decide +kernel)]; exact ⟨rfl, rfl⟩))
    (fun os started H enc _ F => by rw [OpenClaim.pre_eq_preRow]; exact lifted os started H enc F)

theorem plain (f : FuncId) (fn : Func) (hf : Tryz.pinned.checked.prog.funcNamed "windlass/windlasslaw13.ScanRoom" = some f) (hfn : Tryz.pinned.checked.prog.funcs[f]? = some fn) :
    true = Tryz.pinned.checked.prog.looks [] ∧ ∀ (j : Nat) t, fn.params[j]? = some t → Tryz.pinned.checked.prog.wantsStandIn t = false := by
  obtain rfl : f = 4 := Option.some.inj ((show Tryz.prog.funcNamed "windlass/windlasslaw13.ScanRoom" = some 4 by kernel_rfl).symm.trans hf) |>.symm
  obtain rfl : fn = Tryz.f4 := (Option.some.inj (Tryz.func4.symm.trans hfn)).symm
  refine ⟨by kernel_rfl, fun j t ht => ?_⟩
  rw [Tryz.params4] at ht
  have hm : t ∈ [24, 3] := by simpa using Array.mem_of_getElem? ht
  have hall : ([24, 3].all fun u => !Tryz.prog.wantsStandIn u) = true := by kernel_rfl
  exact (show Tryz.prog.wantsStandIn t = false by simpa using List.all_eq_true.1 hall t hm)

theorem proved : Rows.ScanRoomCardSaid :=
  Claim7.holds_tied_plain_at .later [] _ _ _ _ said (fun _ h => by cases h) (by kernel_rfl) (fun _ h => by cases h) scanRoom_row_tie rfl ⟨rfl, rfl⟩ (by kernel_rfl) rfl plain (by kernel_rfl)
end Go.Proofs.YtedmcfaghfgpoaaGreatDoor.scanRoom
