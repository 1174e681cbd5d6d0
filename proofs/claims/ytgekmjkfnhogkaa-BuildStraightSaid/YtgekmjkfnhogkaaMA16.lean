/-
  Texts of one seat, one behind the other: BVa3, BVa4, BVa5.
-/
import Derived.Test.YtgekmjkfnhogkaaMA15

set_option linter.unusedVariables false
set_option linter.unusedSimpArgs false
set_option maxRecDepth 100000
set_option maxHeartbeats 51200000
namespace Go.Proofs.Ytgekmjkfnhogkaa
theorem gB_kinds (fs:List Q.Fn) (f:Q.Fn) (l:List (Option Q.Stk)):(graphB fs f l).kinds=kindsB f:=rfl
theorem gB_cells (fs:List Q.Fn) (f:Q.Fn) (l:List (Option Q.Stk)):(graphB fs f l).cells=((cellsB f l).2:Nat):=rfl
theorem gB_result (fs:List Q.Fn) (f:Q.Fn) (l:List (Option Q.Stk)):(graphB fs f l).result=f.result:=rfl
section
variable {gs:List Gr} {fs:List Q.Fn} {f:Q.Fn} {l:List (Option Q.Stk)} {k:Nat} {arg imm:Int} {s s' T L:Q.Stk}
theorem nd_next {i:Q.Ins} (h:NdM fs f l k i s s' T L) (h1:i.op≠24∧i.op≠26∧i.op≠30∧i.op≠21∧i.op≠22) (h9:(effB fs f (cellsB f l).1 i s).op≠9):∀ x ∈ nextsOf (nodeB fs f (cellsB f l).1 (nodesB 0 l) k i s),isOne x (graphB fs f l).nodes.length:=by
 have hb:k+1 ∈ Q.succK k i:=by
  unfold Q.succK
  rw [if_neg h1.2.2.2.1,if_neg h1.2.2.2.2,if_neg (by omega)]
  simp
 have hg:=h.go hb
 have e:nodeB fs f (cellsB f l).1 (nodesB 0 l) k i s={ effB fs f (cellsB f l).1 i s with next:=(nodesB 0 l).getD (k+1) 0 }:=by
  unfold nodeB
  simp only
  rw [if_neg (by omega),if_neg h1.2.2.2.1,if_neg h1.2.2.2.2]
 rw [e]
 exact nexts_one hg (fun h=>absurd h h9)
theorem nd1 (h:NdM fs f l k ⟨1,arg,imm⟩ s s' T L):nodeHolds gs (graphB fs f l) false (nodeB fs f (cellsB f l).1 (nodesB 0 l) k ⟨1,arg,imm⟩ s):=by
 obtain rfl:T=[]:=by rw [← h.hT];simp [Q.takesK]
 obtain rfl:L=[0]:=by rw [← h.hL];simp [Q.leavesK]
 refine ⟨?_,nd_next h (by simp) (by simp [effB,ndB])⟩
 have hh:=h.left (j:=0) (q:=0) (by simp) (by simp [Q.succK]) (.inl rfl)
 simpa [uses,nodeB,effB,takesB,ndB,topB_len',gB_kinds] using hh
theorem nd5 (h:NdM fs f l k ⟨5,arg,imm⟩ s s' T L):nodeHolds gs (graphB fs f l) false (nodeB fs f (cellsB f l).1 (nodesB 0 l) k ⟨5,arg,imm⟩ s):=by
 obtain rfl:T=[1]:=by rw [← h.hT];simp [Q.takesK]
 obtain rfl:L=[0]:=by rw [← h.hL];simp [Q.leavesK]
 refine ⟨?_,nd_next h (by simp) (by simp [effB,ndB])⟩
 have hh:=h.left (j:=0) (q:=0) (by simp) (by simp [Q.succK]) (.inl rfl)
 have ht:=h.top (j:=0) (by simp)
 simp [uses,nodeB,effB,takesB,ndB,topB_len',gB_kinds] at hh ht ⊢
 exact ⟨hh,ht⟩
theorem nd6 (h:NdM fs f l k ⟨6,arg,imm⟩ s s' T L):nodeHolds gs (graphB fs f l) false (nodeB fs f (cellsB f l).1 (nodesB 0 l) k ⟨6,arg,imm⟩ s):=by
 obtain rfl:T=[1,0]:=by rw [← h.hT];simp [Q.takesK]
 refine ⟨?_,nd_next h (by simp) (by simp [effB,ndB])⟩
 have ht:=h.top (j:=0) (by simp)
 have hu:=h.top (j:=1) (by simp)
 simp [uses,nodeB,effB,takesB,ndB,topB_len',gB_kinds] at ht hu ⊢
 exact ⟨ht,hu⟩
theorem nd_bin {op:Int} (ho:7≤op∧op≤20) (h:NdM fs f l k ⟨op,arg,imm⟩ s s' T L):nodeHolds gs (graphB fs f l) false (nodeB fs f (cellsB f l).1 (nodesB 0 l) k ⟨op,arg,imm⟩ s):=by
 obtain rfl:T=[0,0]:=by
  rw [← h.hT]
  unfold Q.takesK
  repeat rw [if_neg (by simp only;omega)]
  rw [if_pos (by simpa using ho)]
 obtain rfl:L=[0]:=by
  rw [← h.hL]
  unfold Q.leavesK
  repeat rw [if_neg (by simp only;omega)]
  rw [if_pos (by simpa using ho)]
 have ht2:takesB fs f ⟨op,arg,imm⟩=2:=by
  unfold takesB
  repeat rw [if_neg (by simp only;omega)]
 have he:effB fs f (cellsB f l).1 ⟨op,arg,imm⟩ s={ ndB 3 (wordB f (s.length-2) 0) ((topB f s 2).getD 0 0) with bop:=op,b:=(topB f s 2).getD 1 0 }:=by
  unfold effB
  simp only [ht2]
  repeat rw [if_neg (by omega)]
  simp [topB_len']
 refine ⟨?_,nd_next h (by simp only;omega) (by rw [he];simp [ndB])⟩
 have hne:Q.succK k ⟨op,arg,imm⟩≠[]:=by
  unfold Q.succK
  repeat rw [if_neg (by simp only;omega)]
  simp
 have hh:=h.left (j:=0) (q:=0) (by simp) hne (.inl rfl)
 have ht:=h.top (j:=0) (by simp)
 have hu:=h.top (j:=1) (by simp)
 have e:nodeB fs f (cellsB f l).1 (nodesB 0 l) k ⟨op,arg,imm⟩ s={ effB fs f (cellsB f l).1 ⟨op,arg,imm⟩ s with next:=(nodesB 0 l).getD (k+1) 0 }:=by
  unfold nodeB
  simp only
  repeat rw [if_neg (by omega)]
 rw [e,he]
 simp [uses,ndB,gB_kinds] at hh ht hu ⊢
 exact ⟨ho,hh,ht,hu⟩
theorem nd_a {op:Int} (ho:op=26∨op=29∨op=30) (h:NdM fs f l k ⟨op,arg,imm⟩ s s' T L):nodeHolds gs (graphB fs f l) false (nodeB fs f (cellsB f l).1 (nodesB 0 l) k ⟨op,arg,imm⟩ s):=by
 obtain rfl:T=[0]:=by
  rw [← h.hT]
  rcases ho with rfl | rfl | rfl <;> simp [Q.takesK]
 have ht:=h.top (j:=0) (by simp)
 rcases ho with rfl | rfl | rfl
 ·refine ⟨?_,nexts_no (by simp [nodeB,effB,ndB])⟩
  simpa [uses,nodeB,effB,takesB,ndB,topB_len',gB_kinds] using ht
 ·refine ⟨?_,nd_next h (by simp) (by simp [effB,ndB])⟩
  simpa [uses,nodeB,effB,takesB,ndB,topB_len',gB_kinds] using ht
 ·refine ⟨?_,nexts_no (by simp [nodeB,effB,ndB])⟩
  simpa [uses,nodeB,effB,takesB,ndB,topB_len',gB_kinds] using ht
theorem nd22 (h:NdM fs f l k ⟨22,arg,imm⟩ s s' T L):nodeHolds gs (graphB fs f l) false (nodeB fs f (cellsB f l).1 (nodesB 0 l) k ⟨22,arg,imm⟩ s):=by
 obtain rfl:T=[0]:=by rw [← h.hT];simp [Q.takesK]
 have ht:=h.top (j:=0) (by simp)
 refine ⟨by simpa [uses,nodeB,effB,takesB,ndB,topB_len',gB_kinds] using ht,nexts_one ?_ fun _=>?_⟩
 ·have:=h.go (b:=k+1) (by simp [Q.succK])
  simpa [nodeB] using this
 ·have:=h.go (b:=arg.toNat) (by simp [Q.succK])
  simpa [nodeB] using this
theorem nd21 (h:NdM fs f l k ⟨21,arg,imm⟩ s s' T L):nodeHolds gs (graphB fs f l) false (nodeB fs f (cellsB f l).1 (nodesB 0 l) k ⟨21,arg,imm⟩ s):=by
 refine ⟨by simp [uses,nodeB,effB,ndB],nexts_one ?_ fun h9=>?_⟩
 ·have:=h.go (b:=arg.toNat) (by simp [Q.succK])
  simpa [nodeB] using this
 ·simp [nodeB,effB,ndB] at h9
theorem nd31 (h:NdM fs f l k ⟨31,arg,imm⟩ s s' T L):nodeHolds gs (graphB fs f l) false (nodeB fs f (cellsB f l).1 (nodesB 0 l) k ⟨31,arg,imm⟩ s) :=
 ⟨by simp [uses,nodeB,effB,ndB],nd_next h (by simp) (by simp [effB,ndB])⟩
theorem nd28 (h:NdM fs f l k ⟨28,arg,imm⟩ s s' T L):nodeHolds gs (graphB fs f l) false (nodeB fs f (cellsB f l).1 (nodesB 0 l) k ⟨28,arg,imm⟩ s):=by
 obtain rfl:T=[]:=by rw [← h.hT];simp [Q.takesK]
 obtain rfl:L=[0]:=by rw [← h.hL];simp [Q.leavesK]
 refine ⟨?_,nd_next h (by simp) (by simp [effB,ndB])⟩
 have hh:=h.left (j:=0) (q:=0) (by simp) (by simp [Q.succK]) (.inl rfl)
 simpa [uses,nodeB,effB,takesB,ndB,topB_len',gB_kinds] using hh
theorem nd27 (h:NdM fs f l k ⟨27,arg,imm⟩ s s' T L):nodeHolds gs (graphB fs f l) false (nodeB fs f (cellsB f l).1 (nodesB 0 l) k ⟨27,arg,imm⟩ s):=by
 obtain rfl:T=[]:=by rw [← h.hT];simp [Q.takesK]
 obtain rfl:L=[0,0]:=by rw [← h.hL];simp [Q.leavesK]
 refine ⟨?_,nd_next h (by simp) (by simp [effB,ndB])⟩
 have hh:=h.left (j:=0) (q:=0) (by simp) (by simp [Q.succK]) (.inl rfl)
 have hu:=h.left (j:=1) (q:=0) (by simp) (by simp [Q.succK]) (.inl rfl)
 have hd:wordB f s.length 0≠wordB f (s.length+1) 0:=by unfold wordB;omega
 simp [uses,nodeB,effB,takesB,ndB,topB_len',gB_kinds] at hh hu ⊢
 exact ⟨hd,hh,hu⟩
theorem nd4 (h:NdM fs f l k ⟨4,arg,imm⟩ s s' T L):nodeHolds gs (graphB fs f l) false (nodeB fs f (cellsB f l).1 (nodesB 0 l) k ⟨4,arg,imm⟩ s):=by
 obtain rfl:T=[]:=by rw [← h.hT];simp [Q.takesK]
 obtain rfl:L=[1]:=by rw [← h.hL];simp [Q.leavesK]
 refine ⟨?_,nd_next h (by simp) (by simp [effB,ndB])⟩
 have ha:=h.fm.arg _ (List.mem_of_getElem? h.hi) rfl
 have hc:=(h.cell (x:=arg) ha.1 (numL_lt ha.2) (h.fm.addr h.hi h.hl rfl)).1
 have hh:=h.left (j:=0) (q:=1) (by simp) (by simp [Q.succK]) (.inr rfl)
 simp [uses,nodeB,effB,takesB,ndB,topB_len',gB_kinds,gB_cells] at hh hc ⊢
 exact ⟨hc,hh⟩
end
section
variable {gs:List Gr} {fs:List Q.Fn} {f:Q.Fn} {l:List (Option Q.Stk)} {k:Nat} {arg imm:Int} {s s' T L:Q.Stk}
theorem nd2 (h:NdM fs f l k ⟨2,arg,imm⟩ s s' T L):nodeHolds gs (graphB fs f l) false (nodeB fs f (cellsB f l).1 (nodesB 0 l) k ⟨2,arg,imm⟩ s):=by
 obtain rfl:T=[]:=by rw [← h.hT];simp [Q.takesK]
 obtain rfl:L=[f.locals.getD arg.toNat 0]:=by rw [← h.hL];simp [Q.leavesK,Q.locK]
 obtain ⟨h0,h1⟩:=h.loc (.inl rfl)
 have hh:=h.left (j:=0) (q:=f.locals.getD arg.toNat 0) (by simp) (by simp [Q.succK]) (h.lk h0 h1)
 have e:effB fs f (cellsB f l).1 ⟨2,arg,imm⟩ s=getB (cellsB f l).1 arg (wordB f s.length (f.locals.getD arg.toNat 0)):=by
  simp [effB,takesB,topB_len']
 simp only [List.length_nil,Nat.sub_zero,Nat.add_zero] at hh
 have e2:nodeB fs f (cellsB f l).1 (nodesB 0 l) k ⟨2,arg,imm⟩ s={ effB fs f (cellsB f l).1 ⟨2,arg,imm⟩ s with next:=(nodesB 0 l).getD (k+1) 0 }:=by
  simp [nodeB]
 by_cases hc:(cellsB f l).1.getD arg.toNat 0≠-1
 ·have hce:=h.cell h0 h1 hc
  have e3:effB fs f (cellsB f l).1 ⟨2,arg,imm⟩ s={ ndB 4 (wordB f s.length (f.locals.getD arg.toNat 0)) 0 with cell:=(cellsB f l).1.getD arg.toNat 0 }:=by
   rw [e];unfold getB;rw [if_pos hc]
  refine ⟨?_,nd_next h (by simp) (by rw [e3];simp [ndB])⟩
  rw [e2,e3]
  simp only [hce.2] at hh ⊢
  unfold uses
  simp only [ndB,gB_kinds,gB_cells]
  rw [if_neg (by decide),if_neg (by decide),if_neg (by decide),if_pos trivial]
  exact ⟨hce.1,hh⟩
 ·have e3:effB fs f (cellsB f l).1 ⟨2,arg,imm⟩ s=ndB 2 (wordB f s.length (f.locals.getD arg.toNat 0)) arg:=by
   rw [e];unfold getB;rw [if_neg hc]
  refine ⟨?_,nd_next h (by simp) (by rw [e3];simp [ndB])⟩
  rw [e2,e3]
  unfold uses
  simp only [ndB,gB_kinds]
  rw [if_neg (by decide),if_pos trivial]
  exact ⟨loc_one f h0 h1,by rw [loc_kind f h0 h1];exact hh⟩
theorem fits_kind {ks:List Int} {p q:Int} (h:fits ks false p q):kindAt ks p=q:=by
 rcases h.2 with h | h
 ·cases h
 ·exact h
theorem nd3 (h:NdM fs f l k ⟨3,arg,imm⟩ s s' T L):nodeHolds gs (graphB fs f l) false (nodeB fs f (cellsB f l).1 (nodesB 0 l) k ⟨3,arg,imm⟩ s):=by
 obtain rfl:T=[f.locals.getD arg.toNat 0]:=by rw [← h.hT];simp [Q.takesK,Q.locK]
 obtain ⟨h0,h1⟩:=h.loc (.inr rfl)
 have ht:=h.top (j:=0) (by simp)
 have ht':fits (kindsB f) false ((topB f s 1).getD 0 0) (f.locals.getD arg.toNat 0):=ht
 have e:effB fs f (cellsB f l).1 ⟨3,arg,imm⟩ s=setB (cellsB f l).1 arg ((topB f s 1).getD 0 0):=by
  simp [effB,takesB]
 have e2:nodeB fs f (cellsB f l).1 (nodesB 0 l) k ⟨3,arg,imm⟩ s={ effB fs f (cellsB f l).1 ⟨3,arg,imm⟩ s with next:=(nodesB 0 l).getD (k+1) 0 }:=by
  simp [nodeB]
 by_cases hc:(cellsB f l).1.getD arg.toNat 0≠-1
 ·have hce:=h.cell h0 h1 hc
  have e3:effB fs f (cellsB f l).1 ⟨3,arg,imm⟩ s={ ndB 5 0 ((topB f s 1).getD 0 0) with cell:=(cellsB f l).1.getD arg.toNat 0 }:=by
   rw [e];unfold setB;rw [if_pos hc]
  refine ⟨?_,nd_next h (by simp) (by rw [e3];simp [ndB])⟩
  rw [e2,e3]
  rw [hce.2] at ht'
  unfold uses
  simp only [ndB,gB_kinds,gB_cells]
  rw [if_neg (by decide),if_neg (by decide),if_neg (by decide),if_neg (by decide),if_pos trivial]
  exact ⟨hce.1,ht'⟩
 ·have e3:effB fs f (cellsB f l).1 ⟨3,arg,imm⟩ s=ndB 2 arg ((topB f s 1).getD 0 0):=by
   rw [e];unfold setB;rw [if_neg hc]
  refine ⟨?_,nd_next h (by simp) (by rw [e3];simp [ndB])⟩
  rw [e2,e3]
  unfold uses
  simp only [ndB,gB_kinds]
  rw [if_neg (by decide),if_pos trivial]
  refine ⟨ht'.1,loc_one f h0 h1,.inr ?_⟩
  rw [loc_kind f h0 h1,fits_kind ht']
theorem nd32 (h:NdM fs f l k ⟨32,arg,imm⟩ s s' T L):nodeHolds gs (graphB fs f l) false (nodeB fs f (cellsB f l).1 (nodesB 0 l) k ⟨32,arg,imm⟩ s):=by
 obtain rfl:T=[Q.topK s]:=by rw [← h.hT];simp [Q.takesK]
 obtain rfl:L=[Q.topK s,Q.topK s]:=by rw [← h.hL];simp [Q.leavesK]
 have ht:fits (kindsB f) false ((topB f s 1).getD 0 0) (Q.topK s):=h.top (j:=0) (by simp)
 have hd:s.getD (s.length-1) 0=Q.topK s:=by
  have:=drop_get h.drop 0
  simpa using this
 have hle:1≤s.length:=by simpa using h.le
 have hk:Q.topK s=0∨Q.topK s=1:=by
  rw [← hd,List.getD_eq_getElem?_getD,List.getElem?_eq_getElem (by omega)]
  exact h.sk _ (List.getElem_mem _)
 have hh:fits (kindsB f) false (wordB f (s.length-1+1) (Q.topK s)) (Q.topK s):=h.left (j:=1) (by simp) (by simp [Q.succK]) hk
 have e:effB fs f (cellsB f l).1 ⟨32,arg,imm⟩ s=ndB 2 (wordB f (s.length-1+1) (Q.topK s)) ((topB f s 1).getD 0 0):=by
  simp only [effB,takesB]
  simp [topB_len',← hd]
 have e2:nodeB fs f (cellsB f l).1 (nodesB 0 l) k ⟨32,arg,imm⟩ s={ effB fs f (cellsB f l).1 ⟨32,arg,imm⟩ s with next:=(nodesB 0 l).getD (k+1) 0 }:=by
  simp [nodeB]
 refine ⟨?_,nd_next h (by simp) (by rw [e];simp [ndB])⟩
 rw [e2,e]
 unfold uses
 simp only [ndB,gB_kinds]
 rw [if_neg (by decide),if_pos trivial]
 exact ⟨ht.1,by rw [fits_kind ht];exact hh⟩
theorem nd24 (h:NdM fs f l k ⟨24,arg,imm⟩ s s' T L):nodeHolds gs (graphB fs f l) false (nodeB fs f (cellsB f l).1 (nodesB 0 l) k ⟨24,arg,imm⟩ s):=by
 have hT:T=Q.resOf f:=by rw [← h.hT];simp [Q.takesK]
 have e2:nodeB fs f (cellsB f l).1 (nodesB 0 l) k ⟨24,arg,imm⟩ s=retB (topB f s (takesB fs f ⟨24,arg,imm⟩).toNat):=by
  simp [nodeB,effB]
 rw [e2]
 cases hr:f.result with
 | true =>
  have hT':T=[0]:=by rw [hT];unfold Q.resOf;rw [hr];rfl
  subst hT'
  have ht:fits (kindsB f) false ((topB f s 1).getD 0 0) 0:=h.top (j:=0) (by simp)
  have e:takesB fs f ⟨24,arg,imm⟩=1:=by simp [takesB,hr]
  have e3:retB (topB f s (takesB fs f ⟨24,arg,imm⟩).toNat)=ndB 12 0 ((topB f s 1).getD 0 0):=by
   rw [e]
   simp [retB,topB]
  rw [e3]
  refine ⟨?_,nexts_no (by simp [ndB])⟩
  simpa [uses,ndB,gB_kinds,gB_result,hr] using ht
 | false =>
  have e:takesB fs f ⟨24,arg,imm⟩=0:=by simp [takesB,hr]
  have e3:retB (topB f s (takesB fs f ⟨24,arg,imm⟩).toNat)=ndB 12 0 (-1):=by
   rw [e]
   simp [retB,topB]
  rw [e3]
  refine ⟨?_,nexts_no (by simp [ndB])⟩
  simp [uses,ndB,gB_result,hr]
structure Callee (gs:List Gr) (fs:List Q.Fn) (arg:Int) (g:Q.Fn) (lg:List (Option Q.Stk)):Prop where
 at_:fs[arg.toNat]?=some g
 gr:grAt gs arg=graphB fs g lg
 one:isOne arg gs.length
 p0:0≤g.params
 pl:g.params≤g.locals.length
theorem hands_of {i:Q.Ins} {g:Q.Fn} {lg:List (Option Q.Stk)} (hc:Callee gs fs arg g lg) (h:NdM fs f l k i s s' (g.locals.take g.params.toNat) L):hands gs (graphB fs f l) false arg (topB f s g.params.toNat):=by
 have hp0:=hc.p0
 have hpl:=hc.pl
 have hTl:(g.locals.take g.params.toNat).length=g.params.toNat:=by rw [List.length_take];omega
 refine ⟨hc.one,?_,?_⟩
 ·rw [hc.gr,topB_len']
  show _=((List.range g.params.toNat).map fun (j:Nat)=>(j:Int)).length
  simp
 ·rw [if_neg (by decide)]
  intro j hj
  rw [topB_len'] at hj
  have ht:=h.top (j:=j) (by rw [hTl];exact hj)
  rw [hTl] at ht
  have e1:(grAt gs arg).params.getD j 0=j:=by rw [hc.gr];exact range_getD _ _ hj
  have e2:kindAt (grAt gs arg).kinds (j:Int)=(g.locals.take g.params.toNat).getD j 0:=by
   rw [hc.gr,gB_kinds,loc_kind g (by omega) (by omega),Int.toNat_natCast]
   simp only [List.getD_eq_getElem?_getD]
   rw [List.getElem?_take_of_lt hj]
  rw [e1,e2]
  exact ht
theorem nd25 {g:Q.Fn} {lg:List (Option Q.Stk)} (hc:Callee gs fs arg g lg) (h:NdM fs f l k ⟨25,arg,imm⟩ s s' T L):nodeHolds gs (graphB fs f l) false (nodeB fs f (cellsB f l).1 (nodesB 0 l) k ⟨25,arg,imm⟩ s):=by
 obtain rfl:T=g.locals.take g.params.toNat:=by rw [← h.hT];simp [Q.takesK,Q.parK,hc.at_]
 have hh:=hands_of hc h
 refine ⟨?_,nd_next h (by simp) (by simp [effB,ndB])⟩
 have e:takesB fs f ⟨25,arg,imm⟩=g.params:=by simp [takesB,hc.at_]
 simpa [uses,nodeB,effB,e,ndB] using hh
theorem nd23 {g:Q.Fn} {lg:List (Option Q.Stk)} (hc:Callee gs fs arg g lg) (h:NdM fs f l k ⟨23,arg,imm⟩ s s' T L):nodeHolds gs (graphB fs f l) false (nodeB fs f (cellsB f l).1 (nodesB 0 l) k ⟨23,arg,imm⟩ s):=by
 obtain rfl:T=g.locals.take g.params.toNat:=by rw [← h.hT];simp [Q.takesK,Q.parK,hc.at_]
 have hL:L=Q.resOf g:=by rw [← h.hL];simp [Q.leavesK,Q.resK,hc.at_]
 have hh:=hands_of hc h
 have hp0:=hc.p0
 have hpl:=hc.pl
 have hTl:(g.locals.take g.params.toNat).length=g.params.toNat:=by rw [List.length_take];omega
 have e:takesB fs f ⟨23,arg,imm⟩=g.params:=by simp [takesB,hc.at_]
 have e3:effB fs f (cellsB f l).1 ⟨23,arg,imm⟩ s={ ndB 11 (if g.result=true then wordB f (s.length-g.params.toNat) 0 else -1) 0 with f:=arg,args:=topB f s g.params.toNat }:=by
  simp [effB,callB,e,hc.at_,topB_len']
 have e2:nodeB fs f (cellsB f l).1 (nodesB 0 l) k ⟨23,arg,imm⟩ s={ effB fs f (cellsB f l).1 ⟨23,arg,imm⟩ s with next:=(nodesB 0 l).getD (k+1) 0 }:=by
  simp [nodeB]
 refine ⟨?_,nd_next h (by simp) (by rw [e3];simp [ndB])⟩
 rw [e2,e3]
 have hg:gets gs (graphB fs f l) false arg (if g.result=true then wordB f (s.length-g.params.toNat) 0 else -1):=by
  cases hr:g.result with
  | false=>exact .inl rfl
  | true =>
   have hL':L=[0]:=by rw [hL];unfold Q.resOf;rw [hr];rfl
   subst hL'
   have hl:=h.left (j:=0) (q:=0) (by simp) (by simp [Q.succK]) (.inl rfl)
   rw [hTl] at hl
   exact .inr ⟨by rw [hc.gr];exact hr,hl,.inl rfl⟩
 unfold uses
 simp only [ndB]
 repeat rw [if_neg (by decide)]
 rw [if_pos trivial]
 exact ⟨hh,hg⟩
theorem node_holds (h:FnM fs f l) {i:Q.Ins} (hl:l[k]?=some (some s)) (hi:f.code[k]?=some i) (hc:∀ arg:Int,0≤arg→arg<fs.length→∃ g lg,Callee gs fs arg g lg):nodeHolds gs (graphB fs f l) false (nodeB fs f (cellsB f l).1 (nodesB 0 l) k i s):=by
 obtain ⟨s',hn⟩:=h.nd hl hi
 have hm:=List.mem_of_getElem? hi
 have hok:=h.okI i hm
 have href:=h.ref i hm
 obtain ⟨op,arg,imm⟩:=i
 have hop:1≤op∧op≤32:=by
  unfold Q.okI Q.opB at hok
  simp at hok
  omega
 have harg:op=23∨op=25→0≤arg∧arg<fs.length:=fun ho=>by
  unfold Q.okI Q.fitB at hok
  unfold Q.insRef at href
  rcases ho with rfl | rfl <;> simp at hok href <;> omega
 by_cases hb:7≤op∧op≤20
 ·exact nd_bin hb hn
 have:op=1∨op=2∨op=3∨op=4∨op=5∨op=6∨op=21∨op=22∨op=23∨op=24∨op=25∨op=26∨op=27∨op=28∨op=29∨op=30∨op=31∨op=32:=by omega
 rcases this with rfl | rfl | rfl | rfl | rfl | rfl | rfl | rfl | rfl | rfl | rfl | rfl | rfl | rfl | rfl | rfl | rfl | rfl
 ·exact nd1 hn
 ·exact nd2 hn
 ·exact nd3 hn
 ·exact nd4 hn
 ·exact nd5 hn
 ·exact nd6 hn
 ·exact nd21 hn
 ·exact nd22 hn
 ·obtain ⟨g,lg,hg⟩:=hc arg (harg (.inl rfl)).1 (harg (.inl rfl)).2
  exact nd23 hg hn
 ·exact nd24 hn
 ·obtain ⟨g,lg,hg⟩:=hc arg (harg (.inr rfl)).1 (harg (.inr rfl)).2
  exact nd25 hg hn
 ·exact nd_a (.inl rfl) hn
 ·exact nd27 hn
 ·exact nd28 hn
 ·exact nd_a (.inr (.inl rfl)) hn
 ·exact nd_a (.inr (.inr rfl)) hn
 ·exact nd31 hn
 ·exact nd32 hn
theorem build_len {ls:List (List (Option Q.Stk))} (h:ls.length=fs.length):(buildB fs ls).length=fs.length:=by simp [buildB,h]
theorem build_at {ls:List (List (Option Q.Stk))} {k:Nat} {g:Q.Fn} {lg:List (Option Q.Stk)} (hf:fs[k]?=some g) (hl:ls[k]?=some lg):(buildB fs ls)[k]?=some (graphB fs g lg):=by
 unfold buildB
 have hz:(fs.zip ls)[k]?=some (g,lg):=by
  rw [List.getElem?_zip_eq_some]
  exact ⟨hf,hl⟩
 rw [List.getElem?_map,hz]
 rfl
theorem build_valid {ls:List (List (Option Q.Stk))} (hv:Q.verd fs=0) (hs:Q.Sols fs fs ls):valid (buildB fs ls) false:=by
 obtain ⟨h1,h2,h3,h4⟩:=Q.verd_zero hv
 have hlen:=build_len (fs:=fs) hs.1
 have h1':=h1
 unfold Q.okP at h1'
 simp only [Bool.and_eq_true,List.all_eq_true,decide_eq_true_eq] at h1'
 have h2':=h2
 unfold Q.bnd at h2'
 simp only [Bool.and_eq_true,decide_eq_true_eq] at h2'
 have hall:∀ g ∈ buildB fs ls,∃ f l,FnM fs f l∧g=graphB fs f l:=fun g hg=>by
  obtain ⟨k,hk,he⟩:=List.getElem_of_mem hg
  obtain ⟨f,hf⟩:∃ f,fs[k]?=some f:=⟨_,List.getElem?_eq_getElem (by omega)⟩
  obtain ⟨l,hl,hsol⟩:=hs.2 k f hf
  have h:=build_at hf hl
  rw [List.getElem?_eq_getElem hk,he] at h
  injection h with h
  exact ⟨f,l,fnM_of hv (List.mem_of_getElem? hf) hsol,h⟩
 have hcal:∀ arg:Int,0≤arg→arg<fs.length→∃ g lg,Callee (buildB fs ls) fs arg g lg:=fun arg h0 hl=>by
  obtain ⟨g,hg⟩:∃ g,fs[arg.toNat]?=some g:=⟨_,List.getElem?_eq_getElem (by omega)⟩
  obtain ⟨lg,hlg,hsol⟩:=hs.2 arg.toNat g hg
  have hm:=fnM_of hv (List.mem_of_getElem? hg) hsol
  refine ⟨g,lg,hg,?_,⟨h0,by rw [hlen];exact hl⟩,hm.p0,hm.pl⟩
  unfold grAt
  rw [List.getD_eq_getElem?_getD,build_at hg hlg]
  rfl
 refine ⟨by omega,?_,fun g hg=>?_,fun g hg n hn=>?_⟩
 ·obtain ⟨m,hm⟩:∃ m,fs[0]?=some m:=⟨_,List.getElem?_eq_getElem (by omega)⟩
  obtain ⟨l,hl,hsol⟩:=hs.2 0 m hm
  have e:grAt (buildB fs ls) 0=graphB fs m l:=by
   unfold grAt
   rw [List.getD_eq_getElem?_getD]
   show (buildB fs ls)[0]?.getD _=_
   rw [build_at hm hl]
   rfl
  have h3':=h3
  unfold Q.refB Q.mainB at h3'
  cases fs with
  | nil=>simp at hm
  | cons a r =>
   obtain rfl:a=m:=by simpa using hm
   simp only [Bool.and_eq_true,decide_eq_true_eq] at h3'
   have hp:=(fnM_of hv (List.mem_cons_self) hsol).p0
   rw [e]
   refine ⟨?_,by rw [gB_result];simpa using h3'.1.2⟩
   show ((List.range a.params.toNat).map fun (j:Nat)=>(j:Int)).length=0
   have:=h3'.1.1
   simp
   omega
 ·obtain ⟨f,l,hm,rfl⟩:=hall g hg
  exact hm.head
 ·obtain ⟨f,l,hm,rfl⟩:=hall g hg
  have hn':n ∈ (List.range l.length).filterMap fun k=>match l[k]?,f.code[k]? with
   | some (some s),some i=>some (nodeB fs f (cellsB f l).1 (nodesB 0 l) k i s)
   | _,_=>none:=hn
  obtain ⟨k,_,hk⟩:=List.mem_filterMap.1 hn'
  split at hk
  ·next s i hls hci =>
   injection hk with hk
   rw [← hk]
   exact node_holds hm hls hci hcal
  ·cases hk
end
def Sm (x:Int):Prop:=-1≤x∧x≤1000000
theorem Sm.i64 {x:Int} (h:Sm x):I64 x:=by
 obtain ⟨h1,h2⟩:=h
 unfold I64
 constructor <;> omega
theorem sm0:Sm 0:=⟨by omega,by omega⟩
theorem sm1:Sm (-1):=⟨by omega,by omega⟩
theorem sm_word {f:Q.Fn} {d:Nat} {k:Int} (hl:f.locals.length≤16) (hd:d≤1000) (hk:k=0∨k=1):Sm (wordB f d k):=by
 unfold Sm wordB
 rcases hk with rfl | rfl <;> constructor <;> omega
theorem sm_getD {xs:List Int} (h:∀ x ∈ xs,Sm x) (j:Nat):Sm (xs.getD j 0):=by
 rw [List.getD_eq_getElem?_getD]
 cases hh:xs[j]? with
 | none=>exact sm0
 | some y=>exact h y (List.mem_of_getElem? hh)
theorem get01 {s:Q.Stk} (h:∀ x ∈ s,x=0∨x=1) (j:Nat):s.getD j 0=0∨s.getD j 0=1:=by
 rw [List.getD_eq_getElem?_getD]
 cases hh:s[j]? with
 | none=>exact .inl rfl
 | some y=>exact h y (List.mem_of_getElem? hh)
structure EffOk (n:Nd):Prop where
 o:0≤n.op∧n.op≤255
 q:0≤n.bop∧n.bop≤255
 d:Sm n.d
 e:Sm n.e
 a:Sm n.a
 b:Sm n.b
 f:Sm n.f
 cell:Sm n.cell
 m:0≤n.imm∧n.imm≤18446744073709551615
 args:∀ x ∈ n.args,Sm x
 al:n.args.length≤1000
 next:n.next=0
 els:n.els=0
theorem EffOk.wf {n:Nd} (h:EffOk n) {x y:Int} (hx:Sm x) (hy:Sm y):WfN { n with next:=x,els:=y } :=
 ⟨h.o.1,h.o.2,h.q.1,h.q.2,h.d.i64,h.e.i64,h.a.i64,h.b.i64,h.f.i64,h.cell.i64,h.m.1,h.m.2,fun z hz=>(h.args z hz).i64,hx.i64,hy.i64,by have:=h.al;show n.args.length*8≤_;omega⟩
theorem ok_nd {op d a:Int} (ho:0≤op∧op≤255) (hd:Sm d) (ha:Sm a):EffOk (ndB op d a) :=
 ⟨ho,⟨by simp [ndB],by simp [ndB]⟩,hd,sm0,ha,sm0,sm0,sm0,⟨by simp [ndB],by simp [ndB]⟩,(fun x hx=>by cases hx),by simp [ndB],rfl,rfl⟩
theorem eff_ok {fs:List Q.Fn} {f:Q.Fn} {cells:List Int} {i:Q.Ins} {s:Q.Stk} (hll:f.locals.length≤16) (hloc:∀ x ∈ f.locals,x=0∨x=1) (hs:∀ x ∈ s,x=0∨x=1) (h16:s.length≤16) (hc:∀ x ∈ cells,Sm x) (hop:1≤i.op∧i.op≤32) (harg:Sm i.arg) (himm:0≤i.imm∧i.imm≤18446744073709551615) (htk:(takesB fs f i).toNat≤16):EffOk (effB fs f cells i s):=by
 have htop:∀ x ∈ topB f s (takesB fs f i).toNat,Sm x:=fun x hx=>by
  unfold topB at hx
  obtain ⟨j,hj,rfl⟩:=List.mem_map.1 hx
  rw [List.mem_range] at hj
  exact sm_word hll (by omega) (get01 hs _)
 have hl:(topB f s (takesB fs f i).toNat).length=(takesB fs f i).toNat:=topB_len' _ _ _
 obtain ⟨tk,htke⟩:∃ tk,topB f s (takesB fs f i).toNat=tk:=⟨_,rfl⟩
 rw [htke] at htop hl
 have hg:∀ j,Sm (tk.getD j 0):=fun j=>sm_getD htop j
 have hw:∀ (d:Nat) (q:Int),d≤s.length+1→q=0∨q=1→Sm (wordB f d q):=fun d q hd hq=>sm_word hll (by omega) hq
 have hcl:∀ j,Sm (cells.getD j 0):=fun j=>sm_getD hc j
 have hb:s.length-tk.length≤s.length+1:=by omega
 have hb1:s.length-tk.length+1≤s.length+1:=by omega
 have hleft:Sm (wordB f (s.length-tk.length) 0):=hw _ _ hb (.inl rfl)
 have hlk:∀ j,f.locals.getD j 0=0∨f.locals.getD j 0=1:=fun j=>get01 hloc j
 have hget:∀ t2,Sm t2→EffOk (getB cells i.arg t2):=fun t2 ht=>by
  unfold getB
  split
  ·exact { ok_nd (op:=4) (d:=t2) (a:=0) (by omega) ht sm0 with cell:=hcl _ }
  ·exact ok_nd (by omega) ht harg
 have hset:∀ fr,Sm fr→EffOk (setB cells i.arg fr):=fun fr hf=>by
  unfold setB
  split
  ·exact { ok_nd (op:=5) (d:=0) (a:=fr) (by omega) sm0 hf with cell:=hcl _ }
  ·exact ok_nd (by omega) harg hf
 have hif:∀ (c:Prop) [Decidable c],Sm (if c then wordB f (s.length-tk.length) 0 else -1):=fun c _=>by
  by_cases h:c
  ·rw [if_pos h];exact hleft
  ·rw [if_neg h];exact sm1
 have hcall:EffOk (callB fs i.arg tk (wordB f (s.length-tk.length) 0)):=by
  unfold callB
  refine { ok_nd (op:=11) (a:=0) (by omega) ?_ sm0 with f:=harg,args:=htop,al:=by show tk.length≤1000;omega }
  exact hif _
 have hret:EffOk (retB tk):=by
  unfold retB
  refine ok_nd (by omega) sm0 ?_
  cases tk with
  | nil=>exact sm1
  | cons t r=>exact htop t (List.mem_cons_self)
 unfold effB
 rw [htke]
 by_cases c0:i.op=1
 ·rw [if_pos c0]
  exact { ok_nd (op:=1) (d:=wordB f (s.length-tk.length) 0) (a:=0) (by omega) hleft sm0 with m:=himm }
 rw [if_neg c0]
 by_cases c1:i.op=2
 ·rw [if_pos c1]
  exact hget _ (hw _ _ hb (hlk _))
 rw [if_neg c1]
 by_cases c2:i.op=3
 ·rw [if_pos c2]
  exact hset _ (hg 0)
 rw [if_neg c2]
 by_cases c3:i.op=4
 ·rw [if_pos c3]
  exact { ok_nd (op:=6) (d:=wordB f (s.length-tk.length) 1) (a:=0) (by omega) (hw _ _ hb (.inr rfl)) sm0 with cell:=hcl _ }
 rw [if_neg c3]
 by_cases c4:i.op=5
 ·rw [if_pos c4]
  exact ok_nd (by omega) hleft (hg 0)
 rw [if_neg c4]
 by_cases c5:i.op=6
 ·rw [if_pos c5]
  exact { ok_nd (op:=8) (d:=0) (a:=tk.getD 0 0) (by omega) sm0 (hg 0) with b:=hg 1 }
 rw [if_neg c5]
 by_cases c6:i.op=21∨i.op=31
 ·rw [if_pos c6]
  exact ok_nd (by omega) sm0 sm0
 rw [if_neg c6]
 by_cases c7:i.op=22
 ·rw [if_pos c7]
  exact ok_nd (by omega) sm0 (hg 0)
 rw [if_neg c7]
 by_cases c8:i.op=23
 ·rw [if_pos c8]
  exact hcall
 rw [if_neg c8]
 by_cases c9:i.op=24
 ·rw [if_pos c9]
  exact hret
 rw [if_neg c9]
 by_cases c10:i.op=25
 ·rw [if_pos c10]
  exact { ok_nd (op:=13) (d:=0) (a:=0) (by omega) sm0 sm0 with f:=harg,args:=htop,al:=by show tk.length≤1000;omega }
 rw [if_neg c10]
 by_cases c11:i.op=26
 ·rw [if_pos c11]
  exact ok_nd (by omega) sm0 (hg 0)
 rw [if_neg c11]
 by_cases c12:i.op=27
 ·rw [if_pos c12]
  exact { ok_nd (op:=15) (d:=wordB f (s.length-tk.length) 0) (a:=0) (by omega) hleft sm0 with e:=hw _ _ hb1 (.inl rfl) }
 rw [if_neg c12]
 by_cases c13:i.op=28
 ·rw [if_pos c13]
  exact ok_nd (by omega) hleft sm0
 rw [if_neg c13]
 by_cases c14:i.op=29
 ·rw [if_pos c14]
  exact ok_nd (by omega) sm0 (hg 0)
 rw [if_neg c14]
 by_cases c15:i.op=30
 ·rw [if_pos c15]
  exact ok_nd (by omega) sm0 (hg 0)
 rw [if_neg c15]
 by_cases c16:i.op=32
 ·rw [if_pos c16]
  exact ok_nd (by omega) (hw _ _ hb1 (get01 hs _)) (hg 0)
 rw [if_neg c16]
 exact { ok_nd (op:=3) (d:=wordB f (s.length-tk.length) 0) (a:=tk.getD 0 0) (by omega) hleft (hg 0) with b:=hg 1,q:=by show 0≤i.op∧i.op≤255;omega }
theorem EffOk.wf1 {n:Nd} (h:EffOk n) {x:Int} (hx:Sm x):WfN { n with next:=x } :=
 ⟨h.o.1,h.o.2,h.q.1,h.q.2,h.d.i64,h.e.i64,h.a.i64,h.b.i64,h.f.i64,h.cell.i64,h.m.1,h.m.2,fun z hz=>(h.args z hz).i64,hx.i64,by show I64 n.els;rw [h.els];exact sm0.i64,by have:=h.al;show n.args.length*8≤_;omega⟩
theorem EffOk.wf0 {n:Nd} (h:EffOk n):WfN n :=
 ⟨h.o.1,h.o.2,h.q.1,h.q.2,h.d.i64,h.e.i64,h.a.i64,h.b.i64,h.f.i64,h.cell.i64,h.m.1,h.m.2,fun z hz=>(h.args z hz).i64,by rw [h.next];exact sm0.i64,by rw [h.els];exact sm0.i64,by have:=h.al;omega⟩
theorem nodes_sm {l:List (Option Q.Stk)} (hl:l.length≤256):∀ x ∈ nodesB 0 l,Sm x:=fun x hx=>by
 obtain ⟨k,hk,he⟩:=List.getElem_of_mem hx
 have hk':k<l.length:=by rw [nodesB_len] at hk;exact hk
 have h:=nodesB_at l 0 k _ (List.getElem?_eq_getElem hk')
 rw [List.getElem?_eq_getElem hk,he] at h
 injection h with h
 rw [h]
 have:cntB l k≤l.length:=by
  unfold cntB
  exact Nat.le_trans List.countP_le_length (by rw [List.length_take];omega)
 split
 ·exact ⟨by omega,by omega⟩
 ·exact sm1
theorem node_wf {fs:List Q.Fn} {f:Q.Fn} {l:List (Option Q.Stk)} (h:FnM fs f l) (hp:∀ g ∈ fs,g.params≤4) {k:Nat} {i:Q.Ins} {s:Q.Stk} (hl:l[k]?=some (some s)) (hi:f.code[k]?=some i):WfN (nodeB fs f (cellsB f l).1 (nodesB 0 l) k i s):=by
 have hok:=h.okI i (List.mem_of_getElem? hi)
 unfold Q.okI Q.opB Q.fitB at hok
 simp only [Bool.and_eq_true,decide_eq_true_eq] at hok
 obtain ⟨⟨ho,ha0,ha1⟩,hm0,hm1⟩:=hok
 have hw:(256:Int) ^ Q.argW i.op≤65536:=by
  have:=Q.argW_le i.op
  have h3:Q.argW i.op=0∨Q.argW i.op=1∨Q.argW i.op=2:=by omega
  rcases h3 with h | h | h <;> rw [h] <;> decide
 have hv:(256:Int) ^ Q.immW i.op≤18446744073709551616:=by
  have:=Q.immW_le i.op
  have h3:Q.immW i.op=0∨Q.immW i.op=1∨Q.immW i.op=2∨Q.immW i.op=3∨Q.immW i.op=4∨Q.immW i.op=5∨Q.immW i.op=6∨Q.immW i.op=7∨Q.immW i.op=8:=by omega
  rcases h3 with h | h | h | h | h | h | h | h | h <;> rw [h] <;> decide
 have hc:∀ x ∈ (cellsB f l).1,Sm x:=fun x hx=>by
  obtain ⟨j,hj,he⟩:=List.getElem_of_mem hx
  have hk:=h.cells
  have hcn:=hk.cnt
  have hll:=h.ll
  have e:(cellsB f l).1.getD j 0=x:=by rw [List.getD_eq_getElem?_getD,List.getElem?_eq_getElem hj,he];rfl
  rcases hk.at_ j hj with h1 | ⟨h1,h2,_⟩
  ·rw [← e,h1];exact sm1
  ·rw [← e];exact ⟨by omega,by omega⟩
 have htk:(takesB fs f i).toNat≤16:=by
  unfold takesB
  split
  ·decide
  split
  ·decide
  split
  ·split
   ·next g hg=>have:=hp g (List.mem_of_getElem? hg);omega
   ·decide
  split
  ·split <;> decide
  ·decide
 have he:=eff_ok (fs:=fs) (cells:=(cellsB f l).1) h.ll h.loc (h.knd k s hl) (h.deep k s hl) hc ho ⟨by omega,by omega⟩ ⟨hm0,by omega⟩ htk
 have hn:=nodes_sm (l:=l) (by rw [h.sol.len];exact h.cod)
 unfold nodeB
 generalize effB fs f (cellsB f l).1 i s=n at he
 dsimp only
 split
 ·exact he.wf0
 split
 ·exact he.wf1 (sm_getD hn _)
 split
 ·exact he.wf (sm_getD hn _) (sm_getD hn _)
 ·exact he.wf1 (sm_getD hn _)
theorem graph_wf {fs:List Q.Fn} {f:Q.Fn} {l:List (Option Q.Stk)} (h:FnM fs f l) (hp:∀ g ∈ fs,g.params≤4):WfG (graphB fs f l):=by
 have hh:=h.head
 have hk:=h.cells
 have hcn:=hk.cnt
 have hll:=h.ll
 have hp0:=h.p0
 have hp4:=h.p4
 have hpl:=h.pl
 have hcell:∀ j,Sm ((cellsB f l).1.getD j 0):=fun j=>by
  refine sm_getD (fun x hx=>?_) j
  obtain ⟨q,hq,he⟩:=List.getElem_of_mem hx
  have e:(cellsB f l).1.getD q 0=x:=by rw [List.getD_eq_getElem?_getD,List.getElem?_eq_getElem hq,he];rfl
  rcases hk.at_ q hq with h1 | ⟨h1,h2,_⟩
  ·rw [← e,h1];exact sm1
  ·rw [← e];exact ⟨by omega,by omega⟩
 refine ⟨fun x hx=>?_,fun x hx=>?_,?_,fun x hx=>?_,?_,fun n hn=>?_,sm0.i64,?_,?_,?_,?_⟩
 ·obtain ⟨j,hj,rfl⟩:=List.mem_map.1 (show x ∈ (List.range f.params.toNat).map fun (j:Nat)=>(j:Int) from hx)
  rw [List.mem_range] at hj
  exact (show Sm (j:Int) from ⟨by omega,by omega⟩).i64
 ·rcases hh.1.2.2 x hx with h | h <;> subst h <;> decide
 ·exact (show Sm (((cellsB f l).2:Nat):Int) from ⟨by omega,by omega⟩).i64
 ·obtain ⟨j,hj,rfl⟩:=List.mem_map.1 (show x ∈ (List.range f.params.toNat).map fun j=>(cellsB f l).1.getD j 0 from hx)
  exact (hcell j).i64
 ·show I64 (if f.keep=-1 then -1 else (cellsB f l).1.getD f.keep.toNat 0)
  split
  ·exact sm1.i64
  ·exact (hcell _).i64
 ·have hn':n ∈ (List.range l.length).filterMap fun k=>match l[k]?,f.code[k]? with
   | some (some s),some i=>some (nodeB fs f (cellsB f l).1 (nodesB 0 l) k i s)
   | _,_=>none:=hn
  obtain ⟨k,_,hk⟩:=List.mem_filterMap.1 hn'
  split at hk
  ·next s i hls hci =>
   injection hk with hk
   rw [← hk]
   exact node_wf h hp hls hci
  ·cases hk
 ·have:=hh.2.2.2.1.1
  omega
 ·have:=hh.1.1
  omega
 ·have h1:=hh.2.2.2.1.1
  have h2:=hh.2.2.2.2.1.1
  omega
 ·have:=hh.2.2.2.2.2.2.1
  omega
end Go.Proofs.Ytgekmjkfnhogkaa
