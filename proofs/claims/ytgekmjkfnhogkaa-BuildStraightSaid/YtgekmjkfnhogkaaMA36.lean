/-
  Texts of one seat, one behind the other: BSt0, BSt1, BStr, BWo.
-/
import Derived.Test.YtgekmjkfnhogkaaMA27
import Derived.Test.YtgekmjkfnhogkaaMA1
import Derived.Test.YtgekmjkfnhogkaaMA26
import Derived.Test.YtgekmjkfnhogkaaMA43
import Derived.Test.YtgekmjkfnhogkaaMA44
import Derived.Test.YtgekmjkfnhogkaaMA3

set_option linter.unusedVariables false
set_option linter.unusedSimpArgs false
set_option maxRecDepth 100000
set_option maxHeartbeats 51200000
namespace Go.Proofs.Ytgekmjkfnhogkaa
def codeS (vs:List Int):List Q.Ins:=vs.map (fun v=>⟨1,0,v⟩) ++ (List.replicate vs.length ⟨29,0,0⟩ ++ [⟨24,0,0⟩])
def fnS (vs:List Int):Q.Fn:=⟨0,[],false,-1,codeS vs⟩
theorem codeS_len (vs:List Int):(codeS vs).length=2*vs.length+1:=by simp [codeS];omega
theorem codeS_in {vs:List Int} {a:Nat} (h:a<vs.length):(codeS vs)[a]?=some ⟨1,0,vs.getD a 0⟩:=by
 unfold codeS
 rw [List.getElem?_append_left (by simpa using h),List.getElem?_map,List.getElem?_eq_getElem h,List.getD_eq_getElem?_getD,List.getElem?_eq_getElem h]
 rfl
theorem codeS_out {vs:List Int} {a:Nat} (h:vs.length≤a) (h2:a<2*vs.length):(codeS vs)[a]?=some ⟨29,0,0⟩:=by
 unfold codeS
 rw [List.getElem?_append_right (by simpa using h),List.getElem?_append_left (by simp;omega),List.getElem?_replicate,if_pos (by simp;omega)]
theorem codeS_ret (vs:List Int):(codeS vs)[2*vs.length]?=some ⟨24,0,0⟩:=by
 unfold codeS
 rw [List.getElem?_append_right (by simp;omega),List.getElem?_append_right (by simp;omega)]
 simp
 rw [show 2*vs.length-vs.length-vs.length=0 by omega]
 rfl
theorem codeS_mem {vs:List Int} {i:Q.Ins} (h:i ∈ codeS vs):(∃ v ∈ vs,i=⟨1,0,v⟩)∨i=⟨29,0,0⟩∨i=⟨24,0,0⟩:=by
 unfold codeS at h
 rcases List.mem_append.1 h with h | h
 ·obtain ⟨v,hv,rfl⟩:=List.mem_map.1 h
  exact .inl ⟨v,hv,rfl⟩
 ·rcases List.mem_append.1 h with h | h
  ·exact .inr (.inl (List.mem_replicate.1 h).2)
  ·exact .inr (.inr (by simpa using h))
def stkN (k a:Nat):Nat:=if a≤k then a else 2*k-a
def stkS (k a:Nat):Q.Stk:=List.replicate (stkN k a) 0
def lsS (k:Nat):List (Option Q.Stk):=(List.range (2*k+1)).map fun a=>some (stkS k a)
theorem lsS_len (k:Nat):(lsS k).length=2*k+1:=by simp [lsS]
theorem lsS_at {k a:Nat} (h:a<2*k+1):(lsS k)[a]?=some (some (stkS k a)):=by
 unfold lsS
 rw [List.getElem?_map,List.getElem?_range h]
 rfl
theorem lsS_inv {k a:Nat} {s:Q.Stk} (h:(lsS k)[a]?=some (some s)):a<2*k+1∧s=stkS k a:=by
 have hl:=(List.getElem?_eq_some_iff.1 h).1
 rw [lsS_len] at hl
 rw [lsS_at hl] at h
 injection h with h
 injection h with h
 exact ⟨hl,h.symm⟩
theorem after_in (fs:List Q.Fn) (f:Q.Fn) (v:Int) (s:Q.Stk):Q.afterK fs f ⟨1,0,v⟩ s=some (s ++ [0]):=by
 unfold Q.afterK Q.takesK Q.leavesK
 simp
theorem after_out (fs:List Q.Fn) (f:Q.Fn) (n:Nat):Q.afterK fs f ⟨29,0,0⟩ (List.replicate (n+1) 0)=some (List.replicate n 0):=by
 unfold Q.afterK Q.takesK Q.leavesK
 simp
theorem after_ret (fs:List Q.Fn) (f:Q.Fn) (hr:f.result=false):Q.afterK fs f ⟨24,0,0⟩ []=some []:=by
 unfold Q.afterK Q.takesK Q.leavesK Q.resOf
 simp [hr]
theorem next_S (fs:List Q.Fn) (vs:List Int) {a:Nat} (h:a<2*vs.length):∃ i,(fnS vs).code[a]?=some i∧Q.afterK fs (fnS vs) i (stkS vs.length a)=some (stkS vs.length (a+1))∧Q.succK a i=[a+1]:=by
 by_cases h1:a<vs.length
 ·refine ⟨_,codeS_in h1,?_,rfl⟩
  rw [after_in]
  unfold stkS stkN
  rw [if_pos (by omega),if_pos (by omega),List.replicate_succ']
 ·refine ⟨_,codeS_out (by omega) h,?_,rfl⟩
  have e:stkS vs.length a=List.replicate (2*vs.length-(a+1)+1) 0:=by
   unfold stkS stkN
   refine congrArg (fun n=>List.replicate n (0:Int)) ?_
   split <;> omega
  rw [e,after_out]
  unfold stkS stkN
  rw [if_neg (by omega)]
theorem reach_S (fs:List Q.Fn) (vs:List Int):∀ a,a≤2*vs.length→Q.Reach fs (fnS vs) a (stkS vs.length a)
 | 0,_=>.base
 | a+1,h=>by
  obtain ⟨i,h1,h2,h3⟩:=next_S fs vs (show a<2*vs.length by omega)
  exact .step (reach_S fs vs a (by omega)) h1 h2 (by rw [h3];simp)
theorem sol_S (fs:List Q.Fn) (vs:List Int):Q.Sol fs (fnS vs) (lsS vs.length):=by
 refine Q.Inv.sol ⟨by rw [lsS_len];exact (codeS_len vs).symm,lsS_at (by omega),fun a s h=>?_,fun a h=>(by cases h),fun a s h _=>?_,fun a s h=>?_⟩
 ·obtain ⟨hl,rfl⟩:=lsS_inv h
  exact reach_S fs vs a (by omega)
 ·obtain ⟨hl,rfl⟩:=lsS_inv h
  by_cases h1:a<2*vs.length
  ·obtain ⟨i,h2,h3,h4⟩:=next_S fs vs h1
   refine ⟨i,_,h2,h3,fun b hb=>?_⟩
   rw [h4] at hb
   obtain rfl:b=a+1:=by simpa using hb
   exact lsS_at (by omega)
  ·obtain rfl:a=2*vs.length:=by omega
   refine ⟨_,[],codeS_ret vs,?_,fun b hb=>by cases hb⟩
   have e:stkS vs.length (2*vs.length)=[]:=by
    unfold stkS stkN
    split
    ·rw [show 2*vs.length=0 by omega];rfl
    ·rw [Nat.sub_self];rfl
   rw [e]
   exact after_ret fs _ rfl
 ·obtain ⟨hl,rfl⟩:=lsS_inv h
  have hc:Q.cnt (lsS vs.length)=0:=by
   unfold Q.cnt lsS
   rw [List.countP_eq_zero]
   intro x hx
   obtain ⟨y,_,rfl⟩:=List.mem_map.1 hx
   simp
  rw [hc,lsS_len]
  unfold stkS stkN
  rw [List.length_replicate]
  split <;> omega
theorem sols_S (vs:List Int):Q.Sols [fnS vs] [fnS vs] [lsS vs.length]:=by
 refine ⟨rfl,fun k f h=>?_⟩
 cases k with
 | zero =>
  have e:fnS vs=f:=by simpa using h
  subst e
  exact ⟨_,rfl,sol_S _ vs⟩
 | succ k=>simp at h
theorem verd_S {vs:List Int} (hk:vs.length≤16) (hv:∀ v ∈ vs,0≤v∧v<18446744073709551616):Q.verd [fnS vs]=0:=by
 refine Q.verd_ok ?_ ?_ ?_ (sols_S vs) ?_
 ·have hc:(codeS vs).all Q.okI=true:=by
   rw [List.all_eq_true]
   intro i hi
   rcases codeS_mem hi with ⟨v,h1,rfl⟩ | rfl | rfl
   ·have:=hv v h1
    unfold Q.okI Q.fitB Q.argW Q.immW
    simp [Q.opB]
    omega
   ·decide
   ·decide
  unfold Q.okP Q.okF fnS
  simp only [List.all_cons,List.all_nil,Bool.and_true,hc,codeS_len]
  simp
  omega
 ·unfold Q.bnd Q.bndF fnS
  simp only [List.all_cons,List.all_nil,Bool.and_true,codeS_len]
  simp
  omega
 ·have hc:(codeS vs).all (Q.insRef [fnS vs] (fnS vs))=true:=by
   rw [List.all_eq_true]
   intro i hi
   rcases codeS_mem hi with ⟨v,h1,rfl⟩ | rfl | rfl <;> simp [Q.insRef]
  unfold Q.refB Q.fnRef Q.mainB Q.keepsB
  simp only [List.all_cons,List.all_nil,Bool.and_true]
  rw [show (fnS vs).code=codeS vs from rfl,hc]
  simp [fnS]
 ·have:∀ x ∈ lsS vs.length,Q.deepO x=false:=by
   intro x hx
   unfold lsS at hx
   obtain ⟨a,_,rfl⟩:=List.mem_map.1 hx
   unfold Q.deepO stkS stkN
   simp only [List.length_replicate,decide_eq_false_iff_not]
   split <;> omega
  simp only [List.any_cons,List.any_nil,Bool.or_false]
  rw [List.any_eq_false]
  intro x hx
  rw [this x hx]
  simp
def ndS (vs:List Int) (a:Nat):Nd :=
 if a<vs.length then ⟨1,0,2*a,0,0,0,0,0,vs.getD a 0,[],a+1,0⟩
 else if a<2*vs.length then ⟨17,0,0,0,2*((2*vs.length-a-1:Nat):Int),0,0,0,0,[],a+1,0⟩
 else ⟨12,0,0,0,-1,0,0,0,0,[],0,0⟩
theorem fold_S:∀ (l:List (Q.Ins × Option Q.Stk)) (x:List Int × Nat),(∀ p ∈ l,p.1.op≠4)→l.foldl (fun x p=>if p.2.isSome∧p.1.op=4 then needB x p.1.arg else x) x=x
 | [],x,_=>rfl
 | p :: l,x,h=>by
  rw [List.foldl_cons,if_neg (fun hh=>h p (by simp) hh.2)]
  exact fold_S l x fun q hq=>h q (by simp [hq])
theorem cells_S (vs:List Int) (l:List (Option Q.Stk)):cellsB (fnS vs) l=([],0):=by
 unfold cellsB
 rw [fold_S]
 ·rfl
 ·intro p hp
  have h:=(List.of_mem_zip hp).1
  rcases codeS_mem h with ⟨v,_,e⟩ | e | e <;> rw [e]
  ·show (1:Int)≠4;decide
  ·decide
  ·decide
theorem nodes_some:∀ (l:List Q.Stk) (n j:Nat),j<l.length→(nodesB n (l.map some)).getD j 0=((n+j:Nat):Int)
 | [],n,j,h=>by cases h
 | s :: l,n,0,h=>rfl
 | s :: l,n,j+1,h=>by
  have:=nodes_some l (n+1) j (by simpa using h)
  rw [show n+(j+1)=n+1+j by omega,← this]
  rfl
theorem nodes_S {k j:Nat} (h:j<2*k+1):(nodesB 0 (lsS k)).getD j 0=(j:Int):=by
 have:=nodes_some ((List.range (2*k+1)).map (stkS k)) 0 j (by simpa using h)
 rw [Nat.zero_add,List.map_map] at this
 exact this
theorem node_S (vs:List Int) {a:Nat} (h:a<2*vs.length+1) {i:Q.Ins} (hi:(codeS vs)[a]?=some i):nodeB [fnS vs] (fnS vs) [] (nodesB 0 (lsS vs.length)) a i (stkS vs.length a)=ndS vs a:=by
 unfold ndS
 by_cases h1:a<vs.length
 ·rw [codeS_in h1] at hi
  injection hi with hi
  subst hi
  have hn:(nodesB 0 (lsS vs.length))[a+1]?.getD 0=(a:Int)+1:=by
   have:=nodes_S (k:=vs.length) (j:=a+1) (by omega)
   rw [List.getD_eq_getElem?_getD] at this
   rw [this];rfl
  rw [if_pos h1]
  have hs:(stkS vs.length a).length=a:=by unfold stkS stkN;rw [List.length_replicate,if_pos (by omega)]
  unfold nodeB effB takesB topB
  simp [ndB,wordB,hs,fnS,hn]
 ·rw [if_neg h1]
  by_cases h2:a<2*vs.length
  ·rw [codeS_out (by omega) h2] at hi
   injection hi with hi
   subst hi
   have hn:(nodesB 0 (lsS vs.length))[a+1]?.getD 0=(a:Int)+1:=by
    have:=nodes_S (k:=vs.length) (j:=a+1) (by omega)
    rw [List.getD_eq_getElem?_getD] at this
    rw [this];rfl
   rw [if_pos h2]
   obtain ⟨q,hq⟩:∃ q,q=2*vs.length-a-1:=⟨_,rfl⟩
   have hs:stkS vs.length a=List.replicate (q+1) 0:=by
    unfold stkS stkN
    refine congrArg (fun n=>List.replicate n (0:Int)) ?_
    split <;> omega
   rw [hs,← hq]
   unfold nodeB effB takesB topB
   simp [ndB,wordB,fnS,hn,List.range_succ]
  ·obtain rfl:a=2*vs.length:=by omega
   rw [codeS_ret] at hi
   injection hi with hi
   subst hi
   rw [if_neg h2]
   unfold nodeB effB takesB topB retB
   simp [ndB,fnS]
theorem filter_all {α:Type} {F:Nat→Option α} {G:Nat→α}:∀ (l:List Nat),(∀ a ∈ l,F a=some (G a))→l.filterMap F=l.map G
 | [],_=>rfl
 | a :: l,h=>by
  rw [List.filterMap_cons,h a (by simp),List.map_cons,filter_all l fun b hb=>h b (by simp [hb])]
def grS (vs:List Int):Gr:=⟨[],(List.replicate 16 [0,1]).flatten,0,[],false,-1,(List.range (2*vs.length+1)).map (ndS vs),0⟩
theorem graph_nodes (vs:List Int):(graphB [fnS vs] (fnS vs) (lsS vs.length)).nodes=(List.range (2*vs.length+1)).map (ndS vs):=by
 unfold graphB
 simp only
 rw [cells_S,lsS_len]
 refine filter_all _ fun a ha=>?_
 have ha:=List.mem_range.1 ha
 have hl:(codeS vs)[a]?=some ((codeS vs)[a]'(by rw [codeS_len];omega)):=List.getElem?_eq_getElem _
 rw [lsS_at ha,show (fnS vs).code=codeS vs from rfl,hl]
 show some _=_
 rw [node_S vs ha hl]
theorem graph_S (vs:List Int):buildB [fnS vs] [lsS vs.length]=[grS vs]:=by
 show [graphB [fnS vs] (fnS vs) (lsS vs.length)]=_
 have h6:=graph_nodes vs
 have h0:(graphB [fnS vs] (fnS vs) (lsS vs.length)).params=[]:=rfl
 have h1:(graphB [fnS vs] (fnS vs) (lsS vs.length)).kinds=(List.replicate 16 [0,1]).flatten:=rfl
 have h2:(graphB [fnS vs] (fnS vs) (lsS vs.length)).cells=0:=by
  show ((cellsB (fnS vs) (lsS vs.length)).2:Int)=0
  rw [cells_S];rfl
 have h3:(graphB [fnS vs] (fnS vs) (lsS vs.length)).init=[]:=rfl
 have h4:(graphB [fnS vs] (fnS vs) (lsS vs.length)).result=false:=rfl
 have h5:(graphB [fnS vs] (fnS vs) (lsS vs.length)).keep=-1:=rfl
 have h7:(graphB [fnS vs] (fnS vs) (lsS vs.length)).entry=0:=rfl
 revert h0 h1 h2 h3 h4 h5 h6 h7
 generalize graphB [fnS vs] (fnS vs) (lsS vs.length)=g
 obtain ⟨p,k,c,i,r,ke,ns,en⟩:=g
 simp only
 rintro h6 rfl rfl rfl rfl rfl rfl rfl
 rw [h6]
 rfl
theorem grS_at (vs:List Int) {a:Nat} (h:a<2*vs.length+1):(grS vs).nodes[a]?=some (ndS vs a):=by
 show ((List.range (2*vs.length+1)).map (ndS vs))[a]?=_
 rw [List.getElem?_map,List.getElem?_range h]
 rfl
open Go.ChangeShapes Go.WideShapes Go.ChangeAt Go.RowKit
def plS (vs:List Int):Nat→Nat→Int
 | 0=>fun _=>0
 | j+1=>updI (plS vs j) (2*j) (vs.getD j 0)
theorem plS_at (vs:List Int):∀ (k j:Nat),j<k→plS vs k (2*j)=vs.getD j 0
 | 0,j,h=>by cases h
 | k+1,j,h=>by
  unfold plS updI
  by_cases e:j=k
  ·rw [e,if_pos rfl]
  ·rw [if_neg (by omega)]
   exact plS_at vs k j (by omega)
def evS (vs:List Int):Nat→List (Int × Int)
 | 0=>[]
 | j+1=>evS vs j ++ [(1,vs.getD (vs.length-1-j) 0)]
theorem evS_len (vs:List Int):∀ j,(evS vs j).length=j
 | 0=>rfl
 | j+1=>by unfold evS;rw [List.length_append,evS_len vs j];rfl
theorem evS_at (vs:List Int):∀ (j i:Nat),i<j→(evS vs j)[i]?=some (1,vs.getD (vs.length-1-i) 0)
 | 0,i,h=>by cases h
 | j+1,i,h=>by
  unfold evS
  by_cases e:i=j
  ·rw [e,List.getElem?_append_right (by rw [evS_len];exact Nat.le_refl _),evS_len,Nat.sub_self]
   rfl
  ·rw [List.getElem?_append_left (by rw [evS_len];omega)]
   exact evS_at vs j i (by omega)
def stS (vs:List Int) (i:Nat):One:=⟨i,false,0,plS vs (min i vs.length),evS vs (i-vs.length),i⟩
theorem run_S {W:World} {A:Option Addr} {c fuel:Nat} {gs:List RG} (vs:List Int) (hk:vs.length≤16) (hG:RdP W W.heap.size A 1 gs) (hg:gs.map (·.gr)=[grS vs]) (hf:2*vs.length<fuel) (hf2:fuel≤1048576) :
  Calls Try.prog 12 #[.agg #[.slice A 1 c],.bool false,.slice none 0 0,.int .i64 fuel] W fun e w'=>∃ (rb:Nat) (ev:Value),e=.returned (.pointer (some ⟨rb,0,none⟩))∧FinI W rb 1 (evS vs vs.length) ev w':=by
 obtain ⟨r,rfl⟩:∃ r,gs=[r]:=by
  have hl:gs.length=1:=hG.len
  cases gs with
  | nil=>cases hl
  | cons a t =>
   cases t with
   | nil=>exact ⟨a,rfl⟩
   | cons b t=>simp at hl
 have hr:r.gr=grS vs:=by simpa using hg
 have hkl:r.gr.kinds.length=32:=by rw [hr];rfl
 have hnl:r.gr.nodes.length=2*vs.length+1:=by rw [hr];simp [grS]
 have hnd:nds r.ns=r.gr.nodes:=(hG.each r (by simp)).nd
 have hat:∀ a,a<2*vs.length+1→∃ nd:RN,r.ns[a]?=some nd∧nd.nd=ndS vs a:=by
  intro a ha
  have h1:=grS_at vs ha
  rw [← hr,← hnd] at h1
  unfold nds at h1
  rw [List.getElem?_map] at h1
  obtain ⟨nd,h2,h3⟩:=Option.map_eq_some_iff.1 h1
  exact ⟨nd,h2,h3⟩
 have hend:(stS vs (2*vs.length)).evs=evS vs vs.length:=by
  show evS vs (2*vs.length-vs.length)=_
  rw [show 2*vs.length-vs.length=vs.length by omega]
 rw [← hend]
 refine all_line (fo:=A) (nF:=1) (cF:=c) 0 (2*vs.length) fuel [r] r (stS vs) hG (by omega) rfl (by rw [hr];rfl) (by rw [hr];rfl) (by omega) (by omega) ?_ (fun i=>rfl) hf hf2 ?_ ?_
 ·rw [hr]
  unfold stS
  rw [Nat.zero_min,Nat.zero_sub]
  rfl
 ·intro i hi h ev w hfo hnF hm hR
  have hG':RdP W W.heap.size h.fo h.nF [r]:=by rw [hfo,hnF];exact hG
  rw [hkl] at hm
  obtain ⟨nd,h1,h2⟩:=hat i (by omega)
  by_cases h3:i<vs.length
  ·have e2:ndS vs i=⟨1,0,2*i,0,0,0,0,0,vs.getD i 0,[],i+1,0⟩:=by unfold ndS;rw [if_pos h3]
   rw [e2] at h2
   have hs:=step_const (s:=stS vs i) W.heap.size i [r] r nd hR hG' (Nat.le_refl _) (by omega) rfl rfl (by omega) (by omega) h1 (by rw [h2]) (by omega) (by show (0:Int)≤i;omega) (by show (i:Int)≤_;omega) (2*i) (by rw [h2];simp) (by omega)
   refine hs.mono ?_
   rintro e w' ⟨rfl,hr'⟩
   refine ⟨rfl,ev,?_⟩
   have es:stS vs (i+1)=⟨nd.nd.next,(stS vs i).ends,(stS vs i).ret,updI (stS vs i).pl (2*i) nd.nd.imm,(stS vs i).evs,(stS vs i).steps+1⟩:=by
    rw [h2]
    unfold stS
    rw [show min (i+1) vs.length=i+1 by omega,show min i vs.length=i by omega,show i+1-vs.length=0 by omega,show i-vs.length=0 by omega]
    rfl
   rw [es]
   exact hr'
  ·have e2:ndS vs i=⟨17,0,0,0,2*((2*vs.length-i-1:Nat):Int),0,0,0,0,[],i+1,0⟩:=by unfold ndS;rw [if_neg h3,if_pos hi]
   rw [e2] at h2
   have hs:=step_out (s:=stS vs i) W.heap.size i [r] r nd hR hG' (Nat.le_refl _) (by omega) rfl rfl (by omega) (by omega) h1 (by rw [h2]) (by omega) (by show (0:Int)≤i;omega) (by show (i:Int)≤_;omega) (2*(2*vs.length-i-1)) (by rw [h2];simp) (by omega) (by show (evS vs (i-vs.length)).length≤_;rw [evS_len];omega)
   refine hs.mono ?_
   rintro e w' ⟨rfl,A',c',hr'⟩
   refine ⟨rfl,.slice A' ((stS vs i).evs.length+1) c',?_⟩
   have es:stS vs (i+1)=⟨nd.nd.next,(stS vs i).ends,(stS vs i).ret,(stS vs i).pl,(stS vs i).evs ++ [(1,(stS vs i).pl (2*(2*vs.length-i-1)))],(stS vs i).steps+1⟩:=by
    have hp:(stS vs i).pl (2*(2*vs.length-i-1))=vs.getD (vs.length-1-(i-vs.length)) 0:=by
     show plS vs (min i vs.length) _=_
     rw [show min i vs.length=vs.length by omega,plS_at vs vs.length (2*vs.length-i-1) (by omega),show 2*vs.length-i-1=vs.length-1-(i-vs.length) by omega]
    rw [hp,h2]
    unfold stS
    rw [show min (i+1) vs.length=vs.length by omega,show min i vs.length=vs.length by omega,show i+1-vs.length=(i-vs.length)+1 by omega]
    rfl
   rw [es]
   exact hr'
 ·intro h ev w hfo hnF hm hR
  have hG':RdP W W.heap.size h.fo h.nF [r]:=by rw [hfo,hnF];exact hG
  rw [hkl] at hm
  obtain ⟨nd,h1,h2⟩:=hat (2*vs.length) (by omega)
  have e2:ndS vs (2*vs.length)=⟨12,0,0,0,-1,0,0,0,0,[],0,0⟩:=by unfold ndS;rw [if_neg (by omega),if_neg (by omega)]
  rw [e2] at h2
  exact step_ret (s:=stS vs (2*vs.length)) W.heap.size (2*vs.length) [r] r nd hR hG' (Nat.le_refl _) (by omega) rfl rfl (by omega) (by omega) h1 (by rw [h2]) (by omega) (by show (0:Int)≤((2*vs.length:Nat):Int);omega) (by show ((2*vs.length:Nat):Int)≤_;omega) (by rw [h2])
def w64c (l:List Int):List Value:=l.map (Value.int .u64)
theorem w64c_at {l:List Int} {k:Nat} {x:Int} (h:l[k]?=some x):(w64c l)[k]?=some (.int .u64 x):=by
 unfold w64c
 rw [List.getElem?_map,h]
 rfl
theorem Reads.numW {w:World} {B n:Nat} {A:Option Addr} {l:List Int} (h:Reads w B 1 A n (w64c l)) {j:Nat} (hj:j<n):∃ b off,A=some ⟨b,off,none⟩∧b<B∧w.cell? ⟨b,off+j,none⟩=some (.int .u64 (l.getD j 0)):=by
 obtain ⟨b,off,rfl,hb,hc⟩:=h.lit (by omega) (by omega)
 have h1:=h.1
 have hl:(w64c l).length=l.length:=by simp [w64c]
 rw [hl] at h1
 have hkl:j<l.length:=by omega
 have hx:l[j]?=some (l.getD j 0):=by rw [List.getD_eq_getElem?_getD,List.getElem?_eq_getElem hkl];rfl
 exact ⟨b,off,rfl,hb,hc _ _ (w64c_at hx)⟩
def isS (vs:List Int) (j q:Nat):List Q.Ins:=(vs.take j).map (fun v=>⟨1,0,v⟩) ++ List.replicate q ⟨29,0,0⟩
theorem isS_in {vs:List Int} {j:Nat} (h:j<vs.length):isS vs (j+1) 0=isS vs j 0 ++ [⟨1,0,vs.getD j 0⟩]:=by
 unfold isS
 have hx:vs[j]?=some (vs.getD j 0):=by rw [List.getD_eq_getElem?_getD,List.getElem?_eq_getElem h];rfl
 rw [List.take_add_one,hx]
 simp
theorem isS_out (vs:List Int) (j q:Nat):isS vs j (q+1)=isS vs j q ++ [⟨29,0,0⟩]:=by
 unfold isS
 rw [List.replicate_succ',List.append_assoc]
theorem isS_all (vs:List Int):isS vs vs.length vs.length ++ [⟨24,0,0⟩]=codeS vs:=by
 unfold isS codeS
 rw [List.take_length,List.append_assoc]
theorem build_S {vs:List Int} (hk:vs.length≤16) (hv:∀ v ∈ vs,0≤v∧v<18446744073709551616) {W w':World} {e:Ending} {lo co:Option Addr} {lc cc:Nat} (h:BuildPost W [⟨fnS vs,lo,lc,co,cc⟩] e w') :
  ∃ (A:Option Addr) (c:Nat) (gs:List RG),e=.returned (.tuple #[.agg #[.slice A 1 c],.int .i64 0])∧Hid (RdP w' w'.heap.size A 1 gs)∧Hid (gs.map (·.gr)=[grS vs])∧Hid (Below W.heap.size W w'):=by
 have hf:Q.fns [⟨fnS vs,lo,lc,co,cc⟩]=[fnS vs]:=rfl
 obtain ⟨hb,h⟩:=h
 rw [hf] at h
 rcases h with ⟨hne,_⟩ | ⟨h0,ls,A,c,gs,rfl,ho,he,hg,hs⟩
 ·exact absurd (verd_S hk hv) hne
 ·have hr:=build_rdP h0 hs ho he hg
  have hl:=Q.Sols.eq_ hs (sols_S vs)
  subst hl
  rw [graph_S] at hg
  have hn:gs.length=1:=by
   have:=congrArg List.length hg
   simpa using this
  rw [hn] at hr
  exact ⟨A,c,gs,by rw [hn],hr,hg,hb⟩
theorem valid_S {vs:List Int} (hk:vs.length≤16) (hv:∀ v ∈ vs,0≤v∧v<18446744073709551616):valid [grS vs] false:=by
 have h:=build_valid (verd_S hk hv) (sols_S vs)
 rw [graph_S] at h
 exact h
theorem wf_S {vs:List Int} (hv:∀ v ∈ vs,0≤v∧v<18446744073709551616):∀ i ∈ codeS vs,Q.WfI i:=by
 intro i hi
 rcases codeS_mem hi with ⟨v,h1,rfl⟩ | rfl | rfl
 ·have:=hv v h1
  exact ⟨by show (0:Int)≤1;omega,by show (1:Int)≤255;omega,by show (-9223372036854775808:Int)≤0;omega,by show (0:Int)≤9223372036854775807;omega,this.1,by show v≤_;omega⟩
 ·exact ⟨by decide,by decide,by decide,by decide,by decide,by decide⟩
 ·exact ⟨by decide,by decide,by decide,by decide,by decide,by decide⟩
theorem ins_reads (W:World) (is:List Q.Ins) (m:Nat) (hm:is.length=m):Reads (W.alloc (.cells (Q.insc is).toArray 52)) (W.heap.size+1) 3 (some ⟨W.heap.size,0,none⟩) m (Q.insc is):=by
 have h:=Q.reads_blk (n:=m) (size:=3) (Q.Blk.new W 52 (Q.insc is).toArray) (by rw [Q.length_insc,hm])
 rw [show (W.alloc (.cells (Q.insc is).toArray 52)).heap.size=W.heap.size+1 by simp] at h
 exact h
theorem ins_one (i:Q.Ins):∀ u ∈ Q.insc [i],u.oneCell'=true:=by
 intro u hu
 refine Q.insOne_one i u ?_
 simpa [Q.insc] using hu
theorem evW_at0 {l:List (Int × Int)} {j:Nat} {k v:Int} (h:l[j]?=some (k,v)):(evW l)[j*2]?=some (.int .i64 k):=by
 have h1:=Q.flat_at (fun e:Int × Int=>[Value.int .i64 e.1,Value.int .u64 e.2]) 2 (fun _=>rfl) l j 0 _ h (by omega)
 exact h1
theorem evW_at1 {l:List (Int × Int)} {j:Nat} {k v:Int} (h:l[j]?=some (k,v)):(evW l)[j*2+1]?=some (.int .u64 v):=by
 have h1:=Q.flat_at (fun e:Int × Int=>[Value.int .i64 e.1,Value.int .u64 e.2]) 2 (fun _=>rfl) l j 1 _ h (by omega)
 exact h1
theorem equalIn_endS (w:World):Sem.run Try.prog (Op.equalIn 10000 60 (.agg #[.int .i64 1,.int .u64 0]) (.agg #[.int .i64 1,.int .u64 0])) w=.ok true w:=by
 have hS:Try.prog.underlying 60=some (.struct (Try.prog.fieldsOf 60)):=by kernel_rfl
 have hp:Try.prog.stoodInHeld 60=false:=by kernel_rfl
 have u3:=Try.underlying58
 have u26:=Try.underlying49
 have a3:=Try.isAgg58
 have a26:=Try.isAgg49
 have z3:=Try.sizeOf58
 have z26:=Try.sizeOf49
 show (Op.equalIn 10000 60 (.agg #[.int .i64 1,.int .u64 0]) (.agg #[.int .i64 1,.int .u64 0])).run Try.prog w=_
 rw [show (10000:Nat)=9999+1 from rfl,run_equalIn_agg w 9999 60 _ _ hS hp]
 simp only [Program.fieldsOf,Try.underlying60]
 go_simp
theorem straight_walk (A:Option Addr) (n c:Nat) (l:List Int) (w:World) (ht:Reads w w.heap.size 1 A n (w64c l)) (hln:l.length=n) (hnc:n≤c) (hc0:c*8≤140737488351232) (hlw:∀ v ∈ l,0≤v∧v<18446744073709551616) :
  Calls Try.prog 4 #[.slice A n c] w fun e w'=>e=.returned (.bool true)∧Below w.heap.size w w':=by
 obtain ⟨k,hk⟩:∃ k,k=min n 16:=⟨_,rfl⟩
 obtain ⟨vs,hvs⟩:∃ vs,vs=l.take k:=⟨_,rfl⟩
 have hkl:vs.length=k:=by rw [hvs,List.length_take];omega
 have hk16:k≤16:=by omega
 have hkn:k≤n:=by omega
 have HK:=Lib.hid hk
 have HKL:=Lib.hid hkl
 have HVW:Hid (∀ v ∈ vs,0≤v∧v<18446744073709551616):=Lib.hid fun v hv=>hlw v (by rw [hvs] at hv;exact List.mem_of_mem_take hv)
 have HT:Hid (∀ W,Below w.heap.size w W→∀ j,j<k→∃ b off,A=some ⟨b,off,none⟩∧b<w.heap.size∧W.cell? ⟨b,off+j,none⟩=some (.int .u64 (vs.getD j 0))):=Lib.hid fun W hW j hj=>by
  obtain ⟨b,off,h1,h2,h3⟩:=(ht.below hW).numW (show j<n by omega)
  refine ⟨b,off,h1,h2,?_⟩
  rw [h3,hvs,List.getD_eq_getElem?_getD,List.getD_eq_getElem?_getD,List.getElem?_take,if_pos hj]
 have hn63:n≤17592186043904:=by omega
 have hc63:c≤17592186043904:=by omega
 clear ht hln hlw hvs hk hkl
 go_enter Try.func4,Try.ntmps4
 go_wp2_with (go_at_call 6;refine (bfirst_any _).mono ?_;rintro e w1 ⟨rfl,hb1⟩;have HB1:=Lib.hid hb1;clear hb1;refine Hid.out ?_)
 refine Lib.hid ?_
 go_upto_region 3 with fail
 go_cut [3] (fun s3 wx=>s3=.slice A k c∧wx=w1)
 case first =>
  by_cases h16:16<n
  ·have hk':k=16:=by have:=HK.out;omega
   subst hk'
   have g1:decide ((16:Int)<n)=true:=by simp;omega
   go_wp2
   go_meet
   exact ⟨rfl,rfl⟩
  ·have hk':k=n:=by have:=HK.out;omega
   subst hk'
   have g1:decide ((16:Int)<k)=false:=by simp;omega
   go_wp2
   go_meet
   exact ⟨rfl,rfl⟩
 case rest =>
  obtain ⟨rfl,rfl⟩:=hcut
  go_wp2
  have HO0:Hid (wc.ownsRow w.heap.size 52 3 (.slice none 0 0) 0 (Q.insc (isS vs 0 0))):=Lib.hid (Q.own_none _ _ _ _)
  go_loopw [4,21] (fun s i wr=>∃ (j:Nat) (A2:Option Addr) (c2:Nat),j≤k∧s=.slice A2 j c2∧i=.int .i64 j∧Hid (wr.ownsRow w.heap.size 52 3 (.slice A2 j c2) j (Q.insc (isS vs j 0)))∧Hid (Below w.heap.size w wr)) (fun _ i _=>k-(intOf i).toNat)
  case atStart=>exact ⟨0,none,0,Nat.zero_le _,rfl,rfl,HO0,HB1⟩
  case round =>
   clear HO0 HB1
   obtain ⟨j,A2,c2,hj,rfl,rfl,HO,HW⟩:=hrel
   have hzr:=HW.out.size
   by_cases hlt:j<k
   ·obtain ⟨b,off,hA,hb,x1⟩:=HT.out wr HW.out j hlt
    obtain ⟨v,hv⟩:∃ v,v=vs.getD j 0:=⟨_,rfl⟩
    have HIS:Hid (isS vs (j+1) 0=isS vs j 0 ++ [⟨1,0,v⟩]):=Lib.hid (by rw [hv];exact isS_in (by rw [HKL.out];exact hlt))
    rw [← hv] at x1
    rw [hA]
    have HOA:Hid ((wr.alloc (.cells (Q.insc [⟨1,0,v⟩]).toArray 52)).ownsRow w.heap.size 52 3 (.slice A2 j c2) j (Q.insc (isS vs j 0))):=Lib.hid (own_alloc HO.out _)
    have HRD:=Lib.hid (ins_reads wr [⟨1,0,v⟩] 1 rfl)
    have HBA:Hid (Below w.heap.size w (wr.alloc (.cells (Q.insc [⟨1,0,v⟩]).toArray 52))):=Lib.hid (HW.out.alloc hzr _)
    clear hv hA
    go_wp2_with (at_builtin;refine Q.app_ins rfl _ _ rfl w.heap.size (.slice A2 j c2) j (Q.insc (isS vs j 0)) rfl HOA.out (wr.heap.size+1) (some ⟨wr.heap.size,0,none⟩) 1 1 (Q.insc [⟨1,0,v⟩]) rfl HRD.out (ins_one _) (by omega) (by simp;omega) ?_;intro v8 w8 hown hgr _;obtain ⟨A8,c8,rfl⟩:=own_slice hown;have hb8:Below w.heap.size w w8:=HBA.out.grown hgr (by simp;omega) (fun q hq=>(own_block_le HOA.out hq).1);have HB8:=Lib.hid hb8;rw [← Q.insc_append,← HIS.out] at hown;have HO8:=Lib.hid hown;clear hown hgr hb8;refine Hid.out ?_)
    refine Lib.hid ?_
    go_wp2
    go_roundw
    case rel=>exact ⟨j+1,A8,c8,by omega,rfl,by go_num,HO8,HB8⟩
    case measure=>simp [intOf];omega
   ·obtain rfl:j=k:=by omega
    have HIS:Hid (isS vs j 0=isS vs vs.length 0):=Lib.hid (by rw [HKL.out])
    rw [HIS.out] at HO
    clear hlt hj
    go_wp2
    obtain ⟨wo,rfl⟩:∃ wo:World,wo=wr:=⟨_,rfl⟩
    go_loopw [4,33] (fun s i wr=>∃ (q N:Nat) (A2:Option Addr) (c2:Nat),q≤j∧N=j+q∧s=.slice A2 N c2∧i=.int .i64 q∧Hid (wr.ownsRow w.heap.size 52 3 (.slice A2 N c2) N (Q.insc (isS vs vs.length q)))∧Hid (Below w.heap.size w wr)) (fun _ i _=>j-(intOf i).toNat)
    case atStart=>exact ⟨0,j,A2,c2,Nat.zero_le _,rfl,rfl,rfl,HO,HW⟩
    case round =>
     clear HO HW
     obtain ⟨q,N,A2,c2,hq,hN,rfl,rfl,HO,HW⟩:=hrel
     have hzr:=HW.out.size
     have hN32:N≤32:=by omega
     by_cases hlt:q<j
     ·have HNN:=Lib.hid hN
      clear hN
      have HOA:Hid ((wr.alloc (.cells (Q.insc [⟨29,0,0⟩]).toArray 52)).ownsRow w.heap.size 52 3 (.slice A2 N c2) N (Q.insc (isS vs vs.length q))):=Lib.hid (own_alloc HO.out _)
      have HRD:=Lib.hid (ins_reads wr [⟨29,0,0⟩] 1 rfl)
      have HBA:Hid (Below w.heap.size w (wr.alloc (.cells (Q.insc [⟨29,0,0⟩]).toArray 52))):=Lib.hid (HW.out.alloc hzr _)
      go_wp2_with (at_builtin;refine Q.app_ins rfl _ _ rfl w.heap.size (.slice A2 N c2) N (Q.insc (isS vs vs.length q)) rfl HOA.out (wr.heap.size+1) (some ⟨wr.heap.size,0,none⟩) 1 1 (Q.insc [⟨29,0,0⟩]) rfl HRD.out (ins_one _) (by omega) (by simp;omega) ?_;intro v8 w8 hown hgr _;obtain ⟨A8,c8,rfl⟩:=own_slice hown;have hb8:Below w.heap.size w w8:=HBA.out.grown hgr (by simp;omega) (fun q hq=>(own_block_le HOA.out hq).1);have HB8:=Lib.hid hb8;rw [← Q.insc_append,← isS_out] at hown;have HO8:=Lib.hid hown;clear hown hgr hb8;refine Hid.out ?_)
      refine Lib.hid ?_
      go_wp2
      go_roundw
      case rel=>exact ⟨q+1,N+1,A8,c8,by omega,by have:=HNN.out;omega,rfl,by go_num,HO8,HB8⟩
      case measure=>simp [intOf];omega
     ·obtain rfl:q=j:=by omega
      have HNN:=Lib.hid hN
      clear hN hlt hq
      have HIS:Hid (isS vs vs.length q ++ [⟨24,0,0⟩]=codeS vs):=Lib.hid (by rw [← isS_all,HKL.out])
      have HOA:Hid ((wr.alloc (.cells (Q.insc [⟨24,0,0⟩]).toArray 52)).ownsRow w.heap.size 52 3 (.slice A2 N c2) N (Q.insc (isS vs vs.length q))):=Lib.hid (own_alloc HO.out _)
      have HRD:=Lib.hid (ins_reads wr [⟨24,0,0⟩] 1 rfl)
      have HBA:Hid (Below w.heap.size w (wr.alloc (.cells (Q.insc [⟨24,0,0⟩]).toArray 52))):=Lib.hid (HW.out.alloc hzr _)
      go_wp2_with (at_builtin;refine Q.app_ins rfl _ _ rfl w.heap.size (.slice A2 N c2) N (Q.insc (isS vs vs.length q)) rfl HOA.out (wr.heap.size+1) (some ⟨wr.heap.size,0,none⟩) 1 1 (Q.insc [⟨24,0,0⟩]) rfl HRD.out (ins_one _) (by omega) (by simp;omega) ?_;intro v8 w8 hown hgr _;obtain ⟨A8,c8,rfl⟩:=own_slice hown;have hb8:Below w.heap.size w w8:=HBA.out.grown hgr (by simp;omega) (fun q hq=>(own_block_le HOA.out hq).1);have HB8:=Lib.hid hb8;rw [← Q.insc_append,HIS.out] at hown;have HO8:=Lib.hid hown;clear hown hgr hb8;refine Hid.out ?_)
      obtain ⟨W9,hW9⟩:∃ x,x=w8.alloc (.cells #[.int .i64 0,.slice none 0 0,.bool false,.int .i64 (-1),.slice A8 (N+1) c8] 41):=⟨_,rfl⟩
      have hz8:=HB8.out.size
      have HB9:Hid (Below w.heap.size w W9):=Lib.hid (by rw [hW9];exact HB8.out.alloc hz8 _)
      have HBU:Hid (Calls Try.prog 8 #[.agg #[.slice (some ⟨w8.heap.size,0,none⟩) 1 1]] W9 fun e w'=>∃ (A:Option Addr) (c:Nat) (gs:List RG),e=.returned (.tuple #[.agg #[.slice A 1 c],.int .i64 0])∧Hid (RdP w' w'.heap.size A 1 gs)∧Hid (gs.map (·.gr)=[grS vs])∧Hid (Below W9.heap.size W9 w')):=Lib.hid (by
       have hR:Reads W9 W9.heap.size 3 A8 (N+1) (Q.insc (codeS vs)):=by
        rw [hW9]
        exact ((Reads.of_own HO8.out).alloc (Nat.le_refl _) _).more (by simp)
       have hb:Q.Blk W9 w8.heap.size 41 #[.int .i64 0,.slice none 0 0,.bool false,.int .i64 (-1),.slice A8 (N+1) c8]:=by rw [hW9];exact Blk.new _ _ _
       have hlen:N+1=(codeS vs).length:=by rw [codeS_len,HKL.out];have:=HNN.out;omega
       have hP:=Q.lit0_prog (codeS vs) (N+1) c8 A8 hlen (by omega) hR (wf_S HVW.out) hb
       refine (build_any W9.heap.size _ 1 1 _ W9 hP (Nat.le_refl _)).mono fun e w' h=>?_
       exact build_S (by rw [HKL.out];exact hk16) HVW.out h)
      clear HOA HRD HBA HO HW HO8 HIS
      refine Lib.hid ?_
      go_wp2_with (go_at_call 8;rw [← hW9];refine HBU.out.mono ?_;rintro e w10 ⟨AG,cG,gs,rfl,HG,HGE,HB10⟩;refine Hid.out ?_)
      obtain ⟨W11,hW11⟩:∃ x,x=w10.alloc (.cells #[.slice AG 1 cG] 29):=⟨_,rfl⟩
      have hz9:=HB9.out.size
      have hz10:W9.heap.size≤w10.heap.size:=HB10.out.size
      have HB11:Hid (Below w.heap.size w W11):=Lib.hid (by rw [hW11];exact (HB9.out.trans (HB10.out.mono hz9)).alloc (by omega) _)
      have HK11:Hid (Blk W11 w10.heap.size 29 #[.slice AG 1 cG]):=Lib.hid (by rw [hW11];exact Blk.new _ _ _)
      have HG11:Hid (RdP W11 w10.heap.size AG 1 gs):=Lib.hid (by rw [hW11];exact HG.out.below ((Below.refl _ _).alloc (Nat.le_refl _) _))
      have hz11:w10.heap.size<W11.heap.size:=HK11.out.lt
      have HRT:Hid (Calls Try.prog 11 #[.agg #[.slice AG 1 cG],.bool false] W11 fun e w'=>e=.returned (.bool true)∧Below W11.heap.size W11 w'):=Lib.hid ((rright_any w10.heap.size AG 1 cG gs false _ HG11.out (by omega)).mono fun e w' h=>by
       rw [show grs gs=[grS vs] from HGE.out,decide_eq_true (valid_S (by rw [HKL.out];exact hk16) HVW.out)] at h
       exact h)
      have k0:W11.cell? ⟨w10.heap.size,0,none⟩=some (.slice AG 1 cG):=HK11.out.cell 0
      clear HBU HB9 HB8 HB10 HG
      refine Lib.hid ?_
      go_upto_region 15 with fail
      rw [← hW11]
      clear hW11 hW9
      go_wp2_with (go_at_call 11;refine HRT.out.mono ?_;rintro e w12 ⟨rfl,hb12⟩;have HB12:=Lib.hid hb12;have k12:w12.cell? ⟨w10.heap.size,0,none⟩=some (.slice AG 1 cG):=(HK11.out.below hb12 hz11).cell 0;clear hb12 k0;refine Hid.out ?_)
      have hz12:W11.heap.size≤w12.heap.size:=HB12.out.size
      have HRN:Hid (Calls Try.prog 12 #[.agg #[.slice AG 1 cG],.bool false,.slice none 0 0,.int .i64 (4*(N:Int)+12)] w12 fun e w'=>∃ (rb:Nat) (A6:Option Addr) (c6:Nat),e=.returned (.pointer (some ⟨rb,0,none⟩))∧Hid (FinI w12 rb 1 (evS vs q) (.slice A6 q c6) w')):=Lib.hid (by
       have hg:RdP w12 w12.heap.size AG 1 gs:=(HG11.out.below (HB12.out.mono (by omega))).more (by omega)
       have h:=run_S (c:=cG) (fuel:=4*N+12) vs (by rw [HKL.out];exact hk16) hg HGE.out (by rw [HKL.out];have:=HNN.out;omega) (by omega)
       rw [show ((4*N+12:Nat):Int)=4*(N:Int)+12 by omega] at h
       refine h.mono ?_
       rintro e w' ⟨rb,ev,rfl,hf⟩
       have hv:=hf.evs
       obtain ⟨A6,c6,rfl⟩:=own_slice hv
       rw [evS_len,HKL.out] at hf
       exact ⟨rb,A6,c6,rfl,Lib.hid hf⟩)
      have HEE:Hid (∀ W,Sem.run Try.prog (Op.equalIn 10000 60 (.agg #[.int .i64 1,.int .u64 0]) (.agg #[.int .i64 1,.int .u64 0])) W=.ok true W):=Lib.hid equalIn_endS
      have HBW12:Hid (Below w.heap.size w w12):=Lib.hid (HB11.out.trans (HB12.out.mono HB11.out.size))
      clear HRT
      refine Lib.hid ?_
      go_wp2_with (go_at_call 12;refine HRN.out.mono ?_;rintro e w13 ⟨rb,A6,c6,rfl,HF⟩;refine Hid.out ?_)
      have y7:w13.cell? ⟨rb,7,none⟩=some (.int .i64 1):=HF.out.kind
      have y8:w13.cell? ⟨rb,8,none⟩=some (.int .u64 0):=HF.out.val
      have y6:w13.cell? ⟨rb,6,none⟩=some (.slice A6 q c6):=HF.out.evc
      have hee:=HEE.out
      have HB13:Hid (Below w.heap.size w w13):=Lib.hid (HBW12.out.trans (HF.out.below.mono HBW12.out.size))
      have HEV:Hid (w13.ownsRow w12.heap.size 65 2 (.slice A6 q c6) q (evW (evS vs q))):=Lib.hid (by have h:=HF.out.evs;rw [evS_len] at h;exact h)
      clear HRN k12
      refine Lib.hid ?_
      go_wp2
      clear y7 y8 y6 hee
      have HWN:Hid (vs.length=q):=HKL
      go_loopw [85] (fun i wr=>∃ j:Nat,j≤q∧i=.int .i64 j∧Hid (Below w13.heap.size w13 wr)) (fun i _=>q-(intOf i).toNat)
      case atStart=>exact ⟨0,Nat.zero_le _,rfl,Lib.hid (Below.refl _ _)⟩
      case round =>
       obtain ⟨j,hj,rfl,HBR⟩:=hrel
       have hzz:=HBR.out.size
       by_cases hlt:j<q
       ·have hown:wr.ownsRow w12.heap.size 65 2 (.slice A6 q c6) q (evW (evS vs q)):=own_kept HEV.out fun g hg=>HBR.out.block g (own_block_le HEV.out hg).2
        obtain ⟨g6,cap6,hv6,hg6,hlt6⟩:=hown.form (by omega)
        obtain ⟨rfl,rfl⟩:A6=some ⟨g6,0,none⟩∧c6=cap6:=by
         injection hv6 with e1 _ e3
         exact ⟨e1,e3⟩
        clear hv6
        obtain ⟨v,hv⟩:∃ v,v=vs.getD (q-1-j) 0:=⟨_,rfl⟩
        have hev:(evS vs q)[j]?=some (1,v):=by rw [hv,evS_at vs q j hlt,HWN.out]
        have c0:wr.cell? ⟨g6,j*2,none⟩=some (.int .i64 1):=by
         rw [hown.cellAt _ (by omega)]
         exact evW_at0 hev
        have c1:wr.cell? ⟨g6,j*2+1,none⟩=some (.int .u64 v):=by
         rw [hown.cellAt _ (by omega)]
         exact evW_at1 hev
        obtain ⟨p,hp⟩:∃ p,p=q-1-j:=⟨_,rfl⟩
        have hpi:(q:Int)-1-j=p:=by omega
        obtain ⟨b,off,hA,hb,x1⟩:=HT.out (wr.alloc (.cells #[.int .i64 1,.int .u64 v] 65)) (((HB13.out.trans (HBR.out.mono HB13.out.size))).alloc (by have:=HB13.out.size;omega) _) p (by omega)
        rw [hp,← hv,← hp] at x1
        have hpq:p<q:=by omega
        have hbz:b<wr.heap.size:=by have:=HB13.out.size;omega
        rw [hA]
        have HBR2:Hid (Below w13.heap.size w13 (wr.alloc (.cells #[.int .i64 1,.int .u64 v] 65))):=Lib.hid (HBR.out.alloc hzz _)
        have HV:=Lib.hid hv
        have HP:=Lib.hid hp
        clear hv hp hown hev hA
        go_wp2
        go_region
        go_wp2
        go_roundw
        case rel=>exact ⟨j+1,by omega,by go_num,Lib.hid HBR2.out.drew⟩
        case measure=>simp [intOf];omega
       ·obtain rfl:j=q:=by omega
        go_wp2
        go_ret
        exact ⟨rfl,HB13.out.trans (HBR.out.mono HB13.out.size)⟩
open Go.ChangeShapes Go.WideShapes Go.ChangeAt Go.RowKit Go.Joins
open Go.Deep
section
variable {H:Type} {enc:TypeId × Value→H} {W:World}
theorem open_words {base:Nat} {v:Value} {d:DataW H} {p:List MemPlace} (hv:Value.okWide Try.prog W .any base 48 v) (h:DataW.Trod enc Try.prog W 0 (fun _=>true) true 48 v d p) :
  ∃ (ao:Option Addr) (n c:Nat) (l:List Int),v=.slice ao n c∧Reads W W.heap.size 1 ao n (w64c l)∧l.length=n∧n≤c∧(∀ x ∈ l,0≤x∧x<18446744073709551616) ∧
   ((d=.nil∧c=0)∨∃ elems spare,d=.slice elems spare∧elems.length+spare.length=c):=by
 obtain ⟨ao,n,c,rfl⟩:=okWide_slice Try.underlying48 hv
 obtain ⟨fuel,hf⟩:=h
 rcases open_ints Try.underlying48 Try.underlying49 (by kernel_rfl) hf with ⟨hcs,hx⟩ | ⟨a,len,cap,zs,hcs,_,hl,hm,hz,hx,hcell,hwz⟩
 ·simp [Value.cells] at hcs
  obtain ⟨rfl,rfl,rfl⟩:=hcs
  simp only [Prod.mk.injEq] at hx
  exact ⟨none,0,0,[],rfl,Reads.none_,rfl,Nat.le_refl _,(fun x hx=>by cases hx),.inl ⟨hx.1,rfl⟩⟩
 ·simp [Value.cells] at hcs
  obtain ⟨rfl,rfl,rfl⟩:=hcs
  simp only [if_true] at hz
  simp only [Prod.mk.injEq] at hx
  refine ⟨some a,n,c,zs.take n,rfl,⟨by simp [w64c];omega,fun hn=>⟨a,rfl,?_,fun j u hu=>?_⟩⟩,by simp;omega,hl,(fun x hx=>Q.wf_u64 (hwz x (List.mem_of_mem_take hx))),.inr ⟨_,_,hx.1,?_⟩⟩
  ·have hc:=hcell 0 (by omega)
   rcases Nat.lt_or_ge a.block W.heap.size with hlt | hge
   ·exact hlt
   ·have:a.add 0=a:=by simp [Addr.add]
    rw [this] at hc
    simp [World.cell?,Array.getElem?_eq_none hge] at hc
  ·unfold w64c at hu
   rw [List.getElem?_map] at hu
   have hjl:j<(zs.take n).length:=by
    rcases Nat.lt_or_ge j (zs.take n).length with h1 | h1
    ·exact h1
    ·rw [List.getElem?_eq_none h1] at hu;cases hu
   have hjz:j<zs.length:=by simp at hjl;omega
   have hjn:j<n:=by simp at hjl;omega
   rw [hcell j hjz,← hu,List.getElem?_take,if_pos hjn,List.getElem?_eq_getElem hjz]
   simp [List.getD,hjz]
  ·simp [lits];omega
end
end Go.Proofs.Ytgekmjkfnhogkaa
