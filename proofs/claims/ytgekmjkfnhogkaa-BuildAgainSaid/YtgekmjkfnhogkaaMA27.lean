/-
  Texts of one seat, one behind the other: QKSolve, BFi0, BFi1, FRun, QLit0, FFst, QOpen.
-/
import Derived.Deep.Slices
import Derived.Deep.Fields
import Derived.ChangeSame
import Derived.Lib.SmallJoins
import Derived.OpenShut
import Derived.ShutString
import Derived.SizedLaws
import Derived.Test.YtgekmjkfnhogkaaMA1
import Derived.Test.YtgekmjkfnhogkaaMA2
import Derived.Test.YtgekmjkfnhogkaaMA26
import Derived.Test.YtgekmjkfnhogkaaMA43
import Derived.Test.YtgekmjkfnhogkaaMA44
import Derived.Test.YtgekmjkfnhogkaaMA3
import Derived.Test.YtgekmjkfnhogkaaMA42
import Derived.Test.YtgekmjkfnhogkaaMA15

set_option linter.unusedVariables false
set_option linter.unusedSimpArgs false
set_option maxRecDepth 100000
set_option maxHeartbeats 51200000
namespace Go.Proofs.Ytgekmjkfnhogkaa.Q
def addAll (l:List (Option Stk)) (w:List Nat):List Nat→Stk→Option (List (Option Stk) × List Nat)
 | [],_=>some (l,w)
 | b :: bs,s=>match l[b]? with
  | none=>none
  | some none=>addAll (l.set b (some s)) (w ++ [b]) bs s
  | some (some s2)=>if s2=s then addAll l w bs s else none
def solve (fs:List Fn) (f:Fn):Nat→List (Option Stk)→List Nat→Option (Option (List (Option Stk)))
 | 0,_,_=>none
 | _+1,l,[]=>some (some l)
 | k+1,l,a :: w=>match f.code[a]?,l[a]? with
  | some i,some (some s)=>match afterK fs f i s with
   | none=>some none
   | some s'=>match addAll l w (succK a i) s' with
    | none=>some none
    | some (l',w')=>solve fs f k l' w'
  | _,_=>some none
def solveF (fs:List Fn) (f:Fn):Option (Option (List (Option Stk))) :=
 if f.code.length=0 then some none else solve fs f 1000 ((List.replicate f.code.length none).set 0 (some [])) [0]
def solAll (fs:List Fn):List Fn→Option (Option (List (List (Option Stk))))
 | []=>some (some [])
 | f :: gs=>match solveF fs f with
  | none=>none
  | some none=>some none
  | some (some l)=>match solAll fs gs with
   | some (some ls)=>some (some (l :: ls))
   | some none=>some none
   | none=>none
def verdC (fs:List Fn):Option (Int × List (List (Option Stk))) :=
 if okP fs=false then some (30,[]) else if bnd fs=false then some (31,[]) else if refB fs=false then some (50,[])
 else match solAll fs fs with
  | none=>none
  | some none=>some (50,[])
  | some (some ls)=>if ls.any (fun l=>l.any deepO) then some (31,ls) else some (0,ls)
section
variable {fs:List Fn} {f:Fn}
theorem addAll_spec {a:Nat} {i:Ins} {s s':Stk} (hc:f.code[a]?=some i) (hs:afterK fs f i s=some s'):∀ (bs:List Nat) (l:List (Option Stk)) (w:List Nat),(∀ b ∈ bs,b ∈ succK a i)→Inv fs f l (a :: w)→l[a]?=some (some s)→s'.length+2*cnt l≤2*l.length →
  (addAll l w bs s'=none→¬ Fine fs f)∧∀ l2 w2,addAll l w bs s'=some (l2,w2)→Inv fs f l2 (a :: w2)∧l2[a]?=some (some s)∧(∀ b ∈ bs,l2[b]?=some (some s'))∧(∀ (b:Nat) t,l[b]?=some (some t)→l2[b]?=some (some t))
 | [],l,w,_,hi,ha,_=>⟨fun h=>by simp [addAll] at h,fun l2 w2 h=>by
   simp only [addAll,Option.some.injEq,Prod.mk.injEq] at h
   obtain ⟨rfl,rfl⟩:=h
   exact ⟨hi,ha,(fun b hb=>by cases hb),fun b t h=>h⟩⟩
 | b :: bs,l,w,hsub,hi,ha,hlen=>by
  have hr:Reach fs f b s':=hi.step ha hc hs (hsub b (by simp))
  have hsub':∀ x ∈ bs,x ∈ succK a i:=fun x hx=>hsub x (by simp [hx])
  unfold addAll
  cases hl:l[b]? with
  | none =>
   refine ⟨fun _=>not_fine_code hr (List.getElem?_eq_none ?_),fun l2 w2 h=>by cases h⟩
   rw [← hi.len]
   exact List.getElem?_eq_none_iff.1 hl
  | some x =>
   cases x with
   | none =>
    have hi':=hi.reach hl hr hlen
    have hcs:=cnt_set hl s'
    have hkeep:∀ (c:Nat) t,l[c]?=some (some t)→(l.set b (some s'))[c]?=some (some t):=fun c t h=>by
     rw [List.getElem?_set_ne (by rintro rfl;rw [hl] at h;cases h)];exact h
    have hself:(l.set b (some s'))[b]?=some (some s'):=by
     rw [List.getElem?_set];simp [(List.getElem?_eq_some_iff.1 hl).1]
    obtain ⟨h1,h2⟩:=addAll_spec hc hs bs (l.set b (some s')) (w ++ [b]) hsub' hi' (hkeep a s ha) (by rw [List.length_set];omega)
    refine ⟨h1,fun l2 w2 h=>?_⟩
    obtain ⟨e1,e2,e3,e4⟩:=h2 l2 w2 h
    refine ⟨e1,e2,fun x hx=>?_,fun c t h=>e4 c t (hkeep c t h)⟩
    rcases List.mem_cons.1 hx with rfl | hx
    ·exact e4 _ _ hself
    ·exact e3 x hx
   | some s2 =>
    simp only
    by_cases he:s2=s'
    ·rw [if_pos he]
     subst he
     obtain ⟨h1,h2⟩:=addAll_spec hc hs bs l w hsub' hi ha hlen
     refine ⟨h1,fun l2 w2 h=>?_⟩
     obtain ⟨e1,e2,e3,e4⟩:=h2 l2 w2 h
     refine ⟨e1,e2,fun x hx=>?_,e4⟩
     rcases List.mem_cons.1 hx with rfl | hx
     ·exact e4 _ _ hl
     ·exact e3 x hx
    ·rw [if_neg he]
     exact ⟨fun _=>not_fine_two (hi.sound b s2 hl) hr he,fun l2 w2 h=>by cases h⟩
theorem solve_spec:∀ (k:Nat) (l:List (Option Stk)) (w:List Nat),Inv fs f l w→(solve fs f k l w=some none→¬ Fine fs f)∧∀ l2,solve fs f k l w=some (some l2)→Sol fs f l2
 | 0,l,w,hi=>⟨fun h=>by simp [solve] at h,fun l2 h=>by simp [solve] at h⟩
 | k+1,l,[],hi=>⟨fun h=>by simp [solve] at h,fun l2 h=>by
   simp only [solve,Option.some.injEq] at h
   subst h
   exact hi.sol⟩
 | k+1,l,a :: w,hi=>by
  obtain ⟨s,ha⟩:=hi.opened a (by simp)
  have hlt:a<f.code.length:=by rw [← hi.len];exact (List.getElem?_eq_some_iff.1 ha).1
  have hc:f.code[a]?=some f.code[a]:=List.getElem?_eq_getElem hlt
  unfold solve
  rw [hc,ha]
  simp only
  cases hs:afterK fs f f.code[a] s with
  | none=>exact ⟨fun _=>not_fine_after (hi.sound a s ha) hc hs,fun l2 h=>by cases h⟩
  | some s' =>
   have hsh:=hi.short a s ha
   have hl:=afterK_len hs
   obtain ⟨h1,h2⟩:=addAll_spec hc hs (succK a f.code[a]) l w (fun b hb=>hb) hi ha (by omega)
   simp only
   cases hadd:addAll l w (succK a f.code[a]) s' with
   | none=>exact ⟨fun _=>h1 hadd,fun l2 h=>by cases h⟩
   | some q =>
    obtain ⟨l',w'⟩:=q
    obtain ⟨e1,e2,e3,_⟩:=h2 l' w' hadd
    exact solve_spec k l' w' (e1.close e2 hc hs e3)
theorem solveF_spec:(solveF fs f=some none→¬ Fine fs f)∧∀ l,solveF fs f=some (some l)→Sol fs f l:=by
 unfold solveF
 by_cases h0:f.code.length=0
 ·rw [if_pos h0]
  exact ⟨fun _=>not_fine_code .base (List.getElem?_eq_none (by omega)),fun l h=>by cases h⟩
 ·rw [if_neg h0]
  exact solve_spec 1000 _ _ (Inv.start (by omega))
theorem solAll_spec:∀ gs:List Fn,(solAll fs gs=some none→∃ f ∈ gs,¬ Fine fs f)∧∀ ls,solAll fs gs=some (some ls)→Sols fs gs ls
 | []=>⟨fun h=>by simp [solAll] at h,fun ls h=>by
   simp only [solAll,Option.some.injEq] at h
   subst h
   exact ⟨rfl,fun k f hf=>by simp at hf⟩⟩
 | f :: gs=>by
  obtain ⟨h1,h2⟩:=solveF_spec (fs:=fs) (f:=f)
  obtain ⟨g1,g2⟩:=solAll_spec gs
  unfold solAll
  cases hf:solveF fs f with
  | none=>exact ⟨(fun h=>by cases h),(fun ls h=>by cases h)⟩
  | some x =>
   cases x with
   | none=>exact ⟨fun _=>⟨f,by simp,h1 hf⟩,fun ls h=>by cases h⟩
   | some l =>
    simp only
    cases hg:solAll fs gs with
    | none=>exact ⟨(fun h=>by cases h),(fun ls h=>by cases h)⟩
    | some y =>
     cases y with
     | none =>
      obtain ⟨f',hf',hn⟩:=g1 hg
      exact ⟨fun _=>⟨f',by simp [hf'],hn⟩,fun ls h=>by cases h⟩
     | some ls' =>
      refine ⟨(fun h=>by cases h),fun ls h=>?_⟩
      simp only [Option.some.injEq] at h
      subst h
      obtain ⟨e1,e2⟩:=g2 ls' hg
      refine ⟨by simp [e1],fun k f' hk=>?_⟩
      cases k with
      | zero=>simp at hk;subst hk;exact ⟨l,rfl,h2 l hf⟩
      | succ k=>exact e2 k f' (by simpa using hk)
theorem verdC_spec {v:Int} {ls:List (List (Option Stk))} (h:verdC fs=some (v,ls)):verd fs=v∧(v=0→Sols fs fs ls):=by
 unfold verdC at h
 cases h1:okP fs with
 | false =>
  rw [if_pos h1] at h
  injection h with h;injection h with h2 h3
  exact ⟨by rw [verd_form h1,h2],fun h0=>by omega⟩
 | true =>
  rw [if_neg (by simp [h1])] at h
  cases h2:bnd fs with
  | false =>
   rw [if_pos h2] at h
   injection h with h;injection h with h3 h4
   exact ⟨by rw [verd_big h1 h2,h3],fun h0=>by omega⟩
  | true =>
   rw [if_neg (by simp [h2])] at h
   cases h3:refB fs with
   | false =>
    rw [if_pos h3] at h
    injection h with h;injection h with h4 h5
    exact ⟨by rw [verd_ref h1 h2 h3,h4],fun h0=>by omega⟩
   | true =>
    rw [if_neg (by simp [h3])] at h
    obtain ⟨e1,e2⟩:=solAll_spec (fs:=fs) fs
    cases hs:solAll fs fs with
    | none=>rw [hs] at h;cases h
    | some x =>
     rw [hs] at h
     cases x with
     | none =>
      obtain ⟨f,hf,hn⟩:=e1 hs
      simp only at h
      injection h with h;injection h with h4 h5
      exact ⟨by rw [verd_fine h1 h2 h3 hf hn,h4],fun h0=>by omega⟩
     | some ls' =>
      have hS:=e2 ls' hs
      simp only at h
      cases hd:ls'.any (fun l=>l.any deepO) with
      | true =>
       rw [hd,if_pos rfl] at h
       injection h with h;injection h with h4 h5
       exact ⟨by rw [verd_deep h1 h2 h3 hS hd,h4],fun h0=>by omega⟩
      | false =>
       rw [hd,if_neg (by simp)] at h
       injection h with h;injection h with h4 h5
       subst h5
       exact ⟨by rw [verd_ok h1 h2 h3 hS hd,h4],fun _=>hS⟩
theorem Sols.eq_ {ls ls':List (List (Option Stk))} (h:Sols fs fs ls) (h':Sols fs fs ls'):ls=ls':=by
 refine List.ext_getElem? fun k=>?_
 rcases Nat.lt_or_ge k fs.length with hk | hk
 ·obtain ⟨l,e1,e2⟩:=h.2 k fs[k] (List.getElem?_eq_getElem hk)
  obtain ⟨l',e3,e4⟩:=h'.2 k fs[k] (List.getElem?_eq_getElem hk)
  rw [e1,e3,e2.eq_ e4]
 ·rw [List.getElem?_eq_none (by rw [h.1];exact hk),List.getElem?_eq_none (by rw [h'.1];exact hk)]
end
end Go.Proofs.Ytgekmjkfnhogkaa.Q
namespace Go.Proofs.Ytgekmjkfnhogkaa
def fn0:Q.Fn:={ params:=0,locals:=[],result:=false,keep:=-1,code:=[⟨1,0,7⟩,⟨29,0,0⟩,⟨24,0,0⟩] }
def ls0:List (List (Option Q.Stk)):=[[some [],some [0],some []]]
theorem verdC0:Q.verdC [fn0]=some (0,ls0):=by rfl
theorem verd0:Q.verd [fn0]=0:=(Q.verdC_spec verdC0).1
theorem sols0 {ls:List (List (Option Q.Stk))} (h:Q.Sols [fn0] [fn0] ls):ls=ls0:=by
 have h0:=(Q.verdC_spec verdC0).2 rfl
 obtain ⟨l,h1,h2⟩:=h.2 0 fn0 rfl
 obtain ⟨l',h3,h4⟩:=h0.2 0 fn0 rfl
 have e:=h2.eq_ h4
 subst e
 have hl:ls.length=1:=h.1
 cases ls with
 | nil=>cases hl
 | cons a r =>
  cases r with
  | cons b r=>simp at hl
  | nil =>
   have e1:a=l:=by simpa using h1
   have e2:[some [],some [0],some []]=l:=by simpa [ls0] using h3
   rw [e1,← e2]
   rfl
def gr0:Gr:=⟨[],(List.replicate 16 [0,1]).flatten,0,[],false,-1,[⟨1,0,0,0,0,0,0,0,7,[],1,0⟩,⟨17,0,0,0,0,0,0,0,0,[],2,0⟩,⟨12,0,0,0,-1,0,0,0,0,[],0,0⟩],0⟩
theorem build0:buildB [fn0] ls0=[gr0]:=by rfl
open Go.ChangeShapes Go.WideShapes Go.ChangeAt Go.RowKit
theorem lit0 {w:World} {B:Nat} {A:Option Addr} {gs:List RG} (h:RdP w B A 1 gs) (hg:gs.map (·.gr)=[gr0]) :
  ∃ b o nb no r,gs=[r]∧r.gr=gr0∧A=some ⟨b,o,none⟩∧b<B∧nb<B ∧
   w.cell? ⟨b,o,none⟩=some (.slice r.po 0 r.pc)∧w.cell? ⟨b,o+1,none⟩=some (.slice r.ko 32 r.kc)∧w.cell? ⟨b,o+2,none⟩=some (.int .i64 0)∧w.cell? ⟨b,o+3,none⟩=some (.slice r.io 0 r.ic) ∧
   w.cell? ⟨b,o+4,none⟩=some (.bool false)∧w.cell? ⟨b,o+5,none⟩=some (.int .i64 (-1))∧w.cell? ⟨b,o+6,none⟩=some (.slice (some ⟨nb,no,none⟩) 3 r.nc)∧w.cell? ⟨b,o+7,none⟩=some (.int .i64 0) ∧
   (∃ n0 n1 n2,r.ns=[n0,n1,n2]∧n0.nd=⟨1,0,0,0,0,0,0,0,7,[],1,0⟩∧n1.nd=⟨17,0,0,0,0,0,0,0,0,[],2,0⟩∧n2.nd=⟨12,0,0,0,-1,0,0,0,0,[],0,0⟩ ∧
    ∀ j u,(rnOne n0 ++ (rnOne n1 ++ rnOne n2))[j]?=some u→w.cell? ⟨nb,no+j,none⟩=some u):=by
 obtain ⟨r,rfl⟩:∃ r,gs=[r]:=by
  have hl:gs.length=1:=h.len
  cases gs with
  | nil=>cases hl
  | cons a t =>
   cases t with
   | nil=>exact ⟨a,rfl⟩
   | cons b t=>simp at hl
 have hr:r.gr=gr0:=by simpa using hg
 obtain ⟨b,o,rfl,hb,hc⟩:=h.row.lit (by omega) (by omega)
 have hG:=h.each r (by simp)
 have hN:=hG.nodes.row
 have hnl:r.gr.nodes.length=3:=by rw [hr];rfl
 rw [hnl] at hN
 obtain ⟨nb,no,hne,hnb,hnc⟩:=hN.lit (by omega) (by omega)
 have hone:rgc [r]=[.slice r.po 0 r.pc,.slice r.ko 32 r.kc,.int .i64 0,.slice r.io 0 r.ic,.bool false,.int .i64 (-1),.slice r.no 3 r.nc,.int .i64 0]:=by
  show rgOne r ++ []=_
  rw [List.append_nil]
  unfold rgOne
  rw [hr]
  rfl
 rw [hone] at hc
 obtain ⟨n0,n1,n2,hns⟩:∃ n0 n1 n2,r.ns=[n0,n1,n2]:=by
  have hl:r.ns.length=3:=by rw [← length_nds,hG.nd,hr];rfl
  generalize r.ns=ns at hl
  cases ns with
  | nil=>cases hl
  | cons a t =>
   cases t with
   | nil=>simp at hl
   | cons b t =>
    cases t with
    | nil=>simp at hl
    | cons c t =>
     cases t with
     | nil=>exact ⟨a,b,c,rfl⟩
     | cons d t=>simp at hl
 have hnd:=hG.nd
 rw [hns,hr] at hnd
 have h3:n0.nd=⟨1,0,0,0,0,0,0,0,7,[],1,0⟩∧n1.nd=⟨17,0,0,0,0,0,0,0,0,[],2,0⟩∧n2.nd=⟨12,0,0,0,-1,0,0,0,0,[],0,0⟩:=by
  have e:[n0.nd,n1.nd,n2.nd]=gr0.nodes:=hnd
  unfold gr0 at e
  simp only [List.cons.injEq] at e
  exact ⟨e.1,e.2.1,e.2.2.1⟩
 refine ⟨b,o,nb,no,r,rfl,hr,rfl,hb,hnb,hc 0 _ rfl,hc 1 _ rfl,hc 2 _ rfl,hc 3 _ rfl,hc 4 _ rfl,hc 5 _ rfl,by rw [← hne];exact hc 6 _ rfl,hc 7 _ rfl,n0,n1,n2,hns,h3.1,h3.2.1,h3.2.2,fun j u hj=>hnc j u ?_⟩
 rw [hns]
 simpa [rnc] using hj
def st0 (i:Nat):One:=⟨if i=0 then 0 else if i=1 then 1 else 2,false,0,if i=0 then fun _=>0 else updI (fun _=>0) 0 7,if i<2 then [] else [(1,7)],i⟩
theorem run0 {W:World} {A:Option Addr} {c:Nat} {gs:List RG} (hG:RdP W W.heap.size A 1 gs) (hg:gs.map (·.gr)=[gr0]) :
  Calls Try.prog 12 #[.agg #[.slice A 1 c],.bool false,.slice none 0 0,.int .i64 20] W fun e w'=>∃ (rb:Nat) (ev:Value),e=.returned (.pointer (some ⟨rb,0,none⟩))∧FinI W rb 1 [(1,7)] ev w':=by
 obtain ⟨b,o,nb,no,r,rfl,hr,rfl,hb,hnb,_,_,_,_,_,_,_,_,n0,n1,n2,hns,e0,e1,e2,_⟩:=lit0 hG hg
 have hk:r.gr.kinds.length=32:=by rw [hr];rfl
 have hnl:r.gr.nodes.length=3:=by rw [hr];rfl
 refine all_line (fo:=some ⟨b,o,none⟩) (nF:=1) (cF:=c) 0 2 20 [r] r st0 hG (by omega) rfl (by rw [hr];rfl) (by rw [hr];rfl) (by omega) (by omega) (by rw [hr];rfl) (fun i=>rfl) (by omega) (by omega) ?_ ?_
 ·intro i hi h ev w hfo hnF hm hR
  have hG':RdP W W.heap.size h.fo h.nF [r]:=by rw [hfo,hnF];exact hG
  rw [hk] at hm
  obtain rfl | rfl:i=0∨i=1:=by omega
  ·have hs:=step_const (s:=st0 0) W.heap.size 0 [r] r n0 hR hG' (Nat.le_refl _) (by omega) rfl rfl (by omega) (by omega) (by rw [hns];rfl) (by rw [e0]) (by omega) (by decide) (by decide) 0 (by rw [e0];rfl) (by omega)
   refine hs.mono ?_
   rintro e w' ⟨rfl,hr'⟩
   refine ⟨rfl,ev,?_⟩
   rw [e0] at hr'
   exact hr'
  ·have hs:=step_out (s:=st0 1) W.heap.size 1 [r] r n1 hR hG' (Nat.le_refl _) (by omega) rfl rfl (by omega) (by omega) (by rw [hns];rfl) (by rw [e1]) (by omega) (by decide) (by decide) 0 (by rw [e1];rfl) (by omega) (by decide)
   refine hs.mono ?_
   rintro e w' ⟨rfl,A',c',hr'⟩
   refine ⟨rfl,.slice A' ((st0 1).evs.length+1) c',?_⟩
   rw [e1] at hr'
   exact hr'
 ·intro h ev w hfo hnF hm hR
  have hG':RdP W W.heap.size h.fo h.nF [r]:=by rw [hfo,hnF];exact hG
  rw [hk] at hm
  exact step_ret (s:=st0 2) W.heap.size 2 [r] r n2 hR hG' (Nat.le_refl _) (by omega) rfl rfl (by omega) (by omega) (by rw [hns];rfl) (by rw [e2]) (by omega) (by decide) (by decide) (by rw [e2])
end Go.Proofs.Ytgekmjkfnhogkaa
namespace Go.Proofs.Ytgekmjkfnhogkaa.Q
open Go.ChangeShapes Go.WideShapes Go.ChangeAt Go.RowKit
theorem lit0_prog {W:World} {g:Nat} (is:List Ins) (m c:Nat) (A:Option Addr) (hm:m=is.length) (hl:m≤1000) (hR:Reads W W.heap.size 3 A m (insc is)) (hw:∀ i ∈ is,WfI i) (hb:Blk W g 41 #[.int .i64 0,.slice none 0 0,.bool false,.int .i64 (-1),.slice A m c]) :
  RdP W W.heap.size (some ⟨g,0,none⟩) 1 [⟨⟨0,[],false,-1,is⟩,none,0,A,c⟩]:=by
 subst hm
 refine ⟨reads_blk (cs:=rawOne ⟨⟨0,[],false,-1,is⟩,none,0,A,c⟩) hb rfl,rfl,fun r hr=>?_,fun r hr=>?_,by omega⟩
 ·obtain rfl:r=⟨⟨0,[],false,-1,is⟩,none,0,A,c⟩:=by simpa using hr
  exact ⟨Reads.none_,hR,Nat.le_refl _⟩
 ·obtain rfl:r=⟨⟨0,[],false,-1,is⟩,none,0,A,c⟩:=by simpa using hr
  refine ⟨by show (-9223372036854775808:Int)≤0;omega,by show (0:Int)≤9223372036854775807;omega,by show (-9223372036854775808:Int)≤-1;omega,by show (-1:Int)≤9223372036854775807;omega,Byt.nil,hw,by show (0:Nat)≤_;omega,?_⟩
  show is.length*24≤_
  omega
theorem lit0_two (W:World) (is:List Ins) (m:Nat) (hm:m=is.length) (hl:m≤1000) (hw:∀ i ∈ is,WfI i) :
  RdP ((W.alloc (.cells (insc is).toArray 52)).alloc (.cells #[.int .i64 0,.slice none 0 0,.bool false,.int .i64 (-1),.slice (some ⟨W.heap.size,0,none⟩) m m] 41)) (W.heap.size+2) (some ⟨W.heap.size+1,0,none⟩) 1 [⟨⟨0,[],false,-1,is⟩,none,0,some ⟨W.heap.size,0,none⟩,m⟩]:=by
 have hb:=Blk.new (W.alloc (.cells (insc is).toArray 52)) 41 #[.int .i64 0,.slice none 0 0,.bool false,.int .i64 (-1),.slice (some ⟨W.heap.size,0,none⟩) m m]
 rw [show (W.alloc (.cells (insc is).toArray 52)).heap.size=W.heap.size+1 by simp] at hb
 have h:=lit0_prog (W:=(W.alloc (.cells (insc is).toArray 52)).alloc (.cells #[.int .i64 0,.slice none 0 0,.bool false,.int .i64 (-1),.slice (some ⟨W.heap.size,0,none⟩) m m] 41)) is m m (some ⟨W.heap.size,0,none⟩) hm hl (reads_blk ((Blk.new W 52 (insc is).toArray).alloc _) (by rw [length_insc,hm])) hw hb
 rw [show ((W.alloc (.cells (insc is).toArray 52)).alloc (.cells #[.int .i64 0,.slice none 0 0,.bool false,.int .i64 (-1),.slice (some ⟨W.heap.size,0,none⟩) m m] 41)).heap.size=W.heap.size+2 by simp] at h
 exact h
theorem lit0_box (W:World) (is:List Ins) (m:Nat) (u:Array Value) (t:TypeId) (hm:m=is.length) (hl:m≤1000) (hw:∀ i ∈ is,WfI i) :
  RdP (((W.alloc (.cells (insc is).toArray 52)).alloc (.cells #[.int .i64 0,.slice none 0 0,.bool false,.int .i64 (-1),.slice (some ⟨W.heap.size,0,none⟩) m m] 41)).alloc (.cells u t)) (W.heap.size+2) (some ⟨W.heap.size+1,0,none⟩) 1 [⟨⟨0,[],false,-1,is⟩,none,0,some ⟨W.heap.size,0,none⟩,m⟩] :=
 (lit0_two W is m hm hl hw).below ((Below.refl _ _).alloc (by simp) _)
end Go.Proofs.Ytgekmjkfnhogkaa.Q
namespace Go.Proofs.Ytgekmjkfnhogkaa
open Go.ChangeShapes Go.WideShapes Go.ChangeAt Go.RowKit
def is0:List Q.Ins:=[⟨1,0,7⟩,⟨29,0,0⟩,⟨24,0,0⟩]
theorem wf_is0:∀ i ∈ is0,Q.WfI i:=by
 intro i hi
 simp [is0] at hi
 rcases hi with rfl | rfl | rfl <;> exact ⟨by decide,by decide,by decide,by decide,by decide,by decide⟩
theorem build_first {W w':World} {e:Ending} {lo co:Option Addr} {lc cc:Nat} (h:BuildPost W [⟨⟨0,[],false,-1,is0⟩,lo,lc,co,cc⟩] e w') :
  ∃ (A:Option Addr) (c:Nat) (gs:List RG),e=.returned (.tuple #[.agg #[.slice A 1 c],.int .i64 0])∧Hid (RdP w' w'.heap.size A 1 gs)∧Hid (gs.map (·.gr)=[gr0])∧Hid (Below W.heap.size W w'):=by
 have hf:Q.fns [⟨⟨0,[],false,-1,is0⟩,lo,lc,co,cc⟩]=[fn0]:=rfl
 obtain ⟨hb,h⟩:=h
 rw [hf] at h
 rcases h with ⟨hne,_⟩ | ⟨hv,ls,A,c,gs,rfl,ho,he,hg,hs⟩
 ·exact absurd verd0 hne
 ·have hr:=build_rdP hv hs ho he hg
  have hl:=sols0 hs
  subst hl
  rw [build0] at hg
  have hn:gs.length=1:=by
   have:=congrArg List.length hg
   simpa using this
  rw [hn] at hr
  exact ⟨A,c,gs,by rw [hn],hr,hg,hb⟩
theorem valid0:valid [gr0] false:=by
 have h:=build_valid verd0 ((Q.verdC_spec verdC0).2 rfl)
 rw [build0] at h
 exact h
theorem bfirst_any (w:World):Calls Try.prog 6 #[] w fun e w'=>e=.returned (.bool true)∧Below w.heap.size w w':=by
 obtain ⟨W,hW⟩:∃ W,W=(((w.alloc (.cells #[.int .u8 1,.int .i64 0,.int .u64 7,.int .u8 29,.int .i64 0,.int .u64 0,.int .u8 24,.int .i64 0,.int .u64 0] 52)).alloc (.cells #[.int .i64 0,.slice none 0 0,.bool false,.int .i64 (-1),.slice (some ⟨w.heap.size,0,none⟩) 3 3] 41)).alloc (.cells #[.slice (some ⟨w.heap.size+1,0,none⟩) 1 1] 24)):=⟨_,rfl⟩
 have hz:W.heap.size=w.heap.size+3:=by rw [hW];simp
 have hbw:Below w.heap.size w W:=by
  rw [hW]
  exact (((Below.refl _ _).alloc (Nat.le_refl _) _).alloc (by simp) _).alloc (by simp;omega) _
 have hR:=Q.lit0_box w is0 3 #[.slice (some ⟨w.heap.size+1,0,none⟩) 1 1] 24 rfl (by omega) wf_is0
 rw [show (Q.insc is0).toArray=#[.int .u8 1,.int .i64 0,.int .u64 7,.int .u8 29,.int .i64 0,.int .u64 0,.int .u8 24,.int .i64 0,.int .u64 0] from rfl,← hW] at hR
 have HB1:=Lib.hid (build_any (w.heap.size+2) _ 1 1 _ W hR (by omega))
 have HBW:=Lib.hid hbw
 have HWE:=Lib.hid hW
 have c0:W.cell? ⟨w.heap.size+2,0,none⟩=some (.slice (some ⟨w.heap.size+1,0,none⟩) 1 1):=by
  have h:=Blk.new ((w.alloc (.cells #[.int .u8 1,.int .i64 0,.int .u64 7,.int .u8 29,.int .i64 0,.int .u64 0,.int .u8 24,.int .i64 0,.int .u64 0] 52)).alloc (.cells #[.int .i64 0,.slice none 0 0,.bool false,.int .i64 (-1),.slice (some ⟨w.heap.size,0,none⟩) 3 3] 41)) 24 #[.slice (some ⟨w.heap.size+1,0,none⟩) 1 1]
  rw [show ((w.alloc (.cells #[.int .u8 1,.int .i64 0,.int .u64 7,.int .u8 29,.int .i64 0,.int .u64 0,.int .u8 24,.int .i64 0,.int .u64 0] 52)).alloc (.cells #[.int .i64 0,.slice none 0 0,.bool false,.int .i64 (-1),.slice (some ⟨w.heap.size,0,none⟩) 3 3] 41)).heap.size=w.heap.size+2 by simp] at h
  rw [hW]
  exact h.cell 0
 clear hR hbw
 go_enter Try.func6,Try.ntmps6
 go_upto_region 2 with fail
 rw [← hW]
 clear hW
 go_wp2_with (go_at_call 8;refine HB1.out.mono ?_;intro e w2 hpost;obtain ⟨A,c,gs,rfl,HG2,HGE,HB2⟩:=build_first hpost;clear hpost;refine Hid.out ?_)
 have hb4:Below w2.heap.size w2 (w2.alloc (.cells #[.slice A 1 c] 29)):=(Below.refl _ _).alloc (Nat.le_refl _) _
 have hg4:RdP (w2.alloc (.cells #[.slice A 1 c] 29)) w2.heap.size A 1 gs:=HG2.out.below hb4
 have HR:Hid (Calls Try.prog 11 #[.agg #[.slice A 1 c],.bool false] (w2.alloc (.cells #[.slice A 1 c] 29)) fun e w'=>e=.returned (.bool true)∧Below (w2.alloc (.cells #[.slice A 1 c] 29)).heap.size (w2.alloc (.cells #[.slice A 1 c] 29)) w'):=Lib.hid ((rright_any w2.heap.size A 1 c gs false _ hg4 (by simp)).mono fun e w' h=>by
  rw [show grs gs=[gr0] from HGE.out,decide_eq_true valid0] at h
  exact h)
 have HG4:=Lib.hid hg4
 have HB4:=Lib.hid hb4
 have k0:(w2.alloc (.cells #[.slice A 1 c] 29)).cell? ⟨w2.heap.size,0,none⟩=some (.slice A 1 c):=(Blk.new w2 _ _).cell 0
 obtain ⟨W4,hW4⟩:∃ x,x=w2.alloc (.cells #[.slice A 1 c] 29):=⟨_,rfl⟩
 have hz4:w2.heap.size<W4.heap.size:=by rw [hW4];simp
 have HK:Hid (Blk W4 w2.heap.size 29 #[.slice A 1 c]):=Lib.hid (by rw [hW4];exact Blk.new _ _ _)
 rw [← hW4] at HR HG4 HB4
 clear hb4 hg4 k0
 have k0:W4.cell? ⟨w2.heap.size,0,none⟩=some (.slice A 1 c):=HK.out.cell 0
 refine Lib.hid ?_
 go_upto_region 3 with fail
 rw [← hW4]
 clear hW4
 go_wp2_with (go_at_call 11;refine HR.out.mono ?_;rintro e w5 ⟨rfl,hb5⟩;have HB5:=Lib.hid hb5;clear hb5;refine Hid.out ?_)
 have hg5:RdP w5 w5.heap.size A 1 gs:=(HG4.out.below (HB5.out.mono (by omega))).more (by have:=HB5.out.size;omega)
 have HA:=Lib.hid (run0 (c:=c) hg5 HGE.out)
 have HK5:Hid (Blk w5 w2.heap.size 29 #[.slice A 1 c]):=Lib.hid (HK.out.below HB5.out hz4)
 have k5:w5.cell? ⟨w2.heap.size,0,none⟩=some (.slice A 1 c):=HK5.out.cell 0
 clear hg5
 refine Lib.hid ?_
 go_wp2_with (go_at_call 12;refine HA.out.mono ?_;rintro e w6 ⟨rb,ev,rfl,hf⟩;obtain ⟨A6,c6,rfl⟩:=own_slice hf.evs;have e6:w6.cell? ⟨rb,6,none⟩=some (.slice A6 1 c6):=hf.evc;have HF:=Lib.hid hf;clear hf;refine Hid.out ?_)
 have HEND:Hid (Below w.heap.size w w6):=Lib.hid (by
  have h1:=HBW.out
  have h2:=HB2.out.mono (B':=w.heap.size) (by omega)
  have z2:=HB2.out.size
  have h4:=HB4.out.mono (B':=w.heap.size) (by omega)
  have z4:=HB4.out.size
  have h5:=HB5.out.mono (B':=w.heap.size) (by omega)
  have z5:=HB5.out.size
  have h6:=HF.out.below.mono (B':=w.heap.size) (by omega)
  exact (((h1.trans h2).trans h4).trans h5).trans h6)
 refine Lib.hid ?_
 go_wp2
 go_ret
 exact ⟨rfl,HEND.out⟩
end Go.Proofs.Ytgekmjkfnhogkaa
namespace Go.Proofs.Ytgekmjkfnhogkaa.Q
open Go.ChangeShapes Go.WideShapes Go.ChangeAt Go.RowKit Go.Joins
open Go.Deep
section
variable {H:Type} {enc:TypeId × Value→H} {P:Program} {w:World} {base:Nat} {spare:Nat→Bool} {held:Bool}
theorem open_slice_fields {t e:TypeId} {fs:Array Field} {fuel:Nat} {cs:List Value} {x:DataW H × List MemPlace} (ht:P.underlying t=some (.slice e)) (he:P.underlying e=some (.struct fs))
  (hone:oneCellFields P fs=true) (hC:P.cellsOf e=fs.size) (h:DataW.trod enc P w base spare held fuel t cs=some x) :
  (cs=[.slice none 0 0]∧x=(.nil,[])) ∨
  ∃ (a:Addr) (len cap m:Nat) (D:Nat→DataW H) (Pl:Nat→List MemPlace),cs=[.slice (some a) len cap]∧base≤a.block∧len≤cap∧cap≤maxLen∧m=(if spare a.block then cap else len) ∧
   x=(.slice ((List.range len).map D) ((List.range (m-len)).map fun j=>D (len+j)),MemPlace.row a (m*fs.size) ++ (List.range m).flatMap Pl) ∧
   ∀ i,i<m→∃ (ys:List (DataW H × List MemPlace)) (n:Nat),D i=.agg (ys.map (·.1))∧Pl i=ys.flatMap (·.2)∧ys.length=fs.size ∧
    ∀ (j:Nat) (f:Field),fs[j]?=some f→∃ (v:Value) (y:DataW H × List MemPlace),w.cell? (a.add (i*fs.size+j))=some v∧ys[j]?=some y∧DataW.trod enc P w base spare held n f.type [v]=some y:=by
 rcases open_slice ht h with h0 | ⟨a,len,cap,m,n,D,Pl,hcs,hb,hl,hm,hmm,hx,hi⟩
 ·exact .inl h0
 ·refine .inr ⟨a,len,cap,m,D,Pl,hcs,hb,hl,hm,hmm,by rw [hC] at hx;exact hx,fun i him=>?_⟩
  obtain ⟨cs',hc,ht'⟩:=hi i him
  rw [hC] at hc
  obtain ⟨ys,n',hn',hy,hlen,hyl,hf⟩:=DataW.trod_struct he ht'
  obtain ⟨_,hcl,hat⟩:=World.cells?_some hc
  simp only [Prod.mk.injEq] at hy
  refine ⟨ys,n',hy.1,hy.2,hyl,fun j f hj=>?_⟩
  obtain ⟨ho,hk⟩:=hone_of hone j f hj
  have hjl:j<fs.size:=(Array.getElem?_eq_some_iff.1 hj).1
  have hcell:=hat j hjl
  have hv:cs'[j]?=some (cs'[j]'(by omega)):=List.getElem?_eq_getElem (by omega)
  have h1:=hf j f hj
  rw [ho,hk] at h1
  have hone':(cs'.drop j).take 1=[cs'[j]'(by omega)]:=by
   rw [List.drop_eq_getElem_cons (by omega)]
   rfl
  rw [hone'] at h1
  have hys:ys[j]?=some (ys[j]'(by omega)):=List.getElem?_eq_getElem (by omega)
  refine ⟨_,_,?_,hys,h1.trans hys⟩
  rw [← Go.Deep.add_add,hcell,hv]
end
theorem row_of {α:Type} {P:Nat→α→Prop}:∀ (n:Nat),(∀ i,i<n→∃ x,P i x)→∃ l:List α,l.length=n∧∀ (i:Nat) (x:α),l[i]?=some x→P i x
 | 0,_=>⟨[],rfl,fun i x h=>by simp at h⟩
 | n+1,h=>by
  obtain ⟨l,hl,hP⟩:=row_of n fun i hi=>h i (by omega)
  obtain ⟨x,hx⟩:=h n (by omega)
  refine ⟨l ++ [x],by simp [hl],fun i y hy=>?_⟩
  rcases Nat.lt_trichotomy i n with h1 | h1 | h1
  ·rw [List.getElem?_append_left (by omega)] at hy
   exact hP i y hy
  ·subst h1
   rw [List.getElem?_append_right (by omega)] at hy
   simp [hl] at hy
   subst hy
   exact hx
  ·rw [List.getElem?_eq_none (by simp;omega)] at hy
   cases hy

theorem wf_i64 {n:Int} (h:(Lit.int .i64 n).wf=true):-9223372036854775808≤n∧n≤9223372036854775807:=by
 simp [Lit.wf,IntKind.min,IntKind.max,IntKind.signed,IntKind.bits] at h
 exact h
theorem wf_u64 {n:Int} (h:(Lit.int .u64 n).wf=true):0≤n∧n<18446744073709551616:=by
 simp [Lit.wf,IntKind.min,IntKind.max,IntKind.signed,IntKind.bits] at h
 omega

theorem wf_u8 {n:Int} (h:(Lit.int .u8 n).wf=true):0≤n∧n≤255:=by
 simp [Lit.wf,IntKind.min,IntKind.max,IntKind.signed,IntKind.bits] at h
 omega
theorem flat_inv {α:Type} (f:α→List Value) (m:Nat) (hm:0<m) (hf:∀ x,(f x).length=m) (l:List α) (j:Nat) (u:Value) (h:(l.flatMap f)[j]?=some u):∃ i x k,l[i]?=some x∧k<m∧j=i*m+k∧(f x)[k]?=some u:=by
 induction l generalizing j with
 | nil=>simp at h
 | cons y l ih =>
  rw [List.flatMap_cons] at h
  by_cases hj:j<m
  ·rw [List.getElem?_append_left (by rw [hf];exact hj)] at h
   exact ⟨0,y,j,rfl,hj,by omega,h⟩
  ·rw [List.getElem?_append_right (by rw [hf];omega),hf] at h
   obtain ⟨i,x,k,hx,hk,hjk,hu⟩:=ih (j-m) h
   exact ⟨i+1,x,k,by simpa using hx,hk,by rw [Nat.succ_mul];omega,hu⟩

section
variable {H:Type} {enc:TypeId × Value→H} {W:World}
theorem block_of_cell {W:World} {a:Addr} {u:Value} (h:W.cell? (a.add 0)=some u):a.block<W.heap.size:=by
 rcases Nat.lt_or_ge a.block W.heap.size with hlt | hge
 ·exact hlt
 ·have:a.add 0=a:=by simp [Addr.add]
  rw [this] at h
  simp [World.cell?,Array.getElem?_eq_none hge] at h

theorem open_u8 {t e:TypeId} (ht:Try.prog.underlying t=some (.slice e)) (he:Try.prog.underlying e=some (.int .u8)) (hc1:Try.prog.cellsOf e=1) {fuel:Nat} {cs:List Value} {x:DataW H × List MemPlace}
  (h:DataW.trod enc Try.prog W 0 (fun _=>true) true fuel t cs=some x) :
  ∃ (ao:Option Addr) (c:Nat) (l:List Int),cs=[.slice ao l.length c]∧Reads W W.heap.size 1 ao l.length (u8c l)∧Byt l∧l.length≤c∧c≤maxLen∧(ao=none→c=0) ∧
   ((x.1=.nil∧c=0)∨∃ elems spare,x.1=.slice elems spare∧elems.length+spare.length=c):=by
 rcases open_ints ht he hc1 h with ⟨hcs,hx⟩ | ⟨a,len,cap,zs,hcs,_,hl,hm,hz,hx,hcell,hwz⟩
 ·exact ⟨none,0,[],hcs,Reads.none_,Byt.nil,Nat.le_refl _,Nat.zero_le _,fun _=>rfl,.inl ⟨by rw [hx],rfl⟩⟩
 ·simp only [if_true] at hz
  have hlen:(zs.take len).length=len:=by simp;omega
  refine ⟨some a,cap,zs.take len,by rw [hlen];exact hcs,?_,fun y hy=>wf_u8 (hwz y (List.mem_of_mem_take hy)),by rw [hlen];exact hl,hm,(fun h=>by cases h),.inr ⟨_,_,by rw [hx],by simp [lits];omega⟩⟩
  rw [hlen]
  refine ⟨by rw [length_u8c,hlen];simp,fun hn=>⟨a,rfl,block_of_cell (hcell 0 (by omega)),fun j u hu=>?_⟩⟩
  unfold u8c at hu
  rw [List.getElem?_map] at hu
  have hjl:j<(zs.take len).length:=by
   rcases Nat.lt_or_ge j (zs.take len).length with h1 | h1
   ·exact h1
   ·rw [List.getElem?_eq_none h1] at hu;cases hu
  have hjz:j<zs.length:=by simp at hjl;omega
  have hjn:j<len:=by simp at hjl;omega
  rw [hcell j hjz,← hu,List.getElem?_take,if_pos hjn,List.getElem?_eq_getElem hjz]
  simp [List.getD,hjz]

theorem open_ins {fuel:Nat} {cs:List Value} {x:DataW H × List MemPlace} (h:DataW.trod enc Try.prog W 0 (fun _=>true) true fuel 39 cs=some x) :
  ∃ (ao:Option Addr) (c:Nat) (l:List Ins),cs=[.slice ao l.length c]∧Reads W W.heap.size 3 ao l.length (insc l)∧(∀ i ∈ l,WfI i)∧l.length≤c ∧
   ((x.1=.nil∧c=0)∨∃ elems spare,x.1=.slice elems spare∧elems.length+spare.length=c):=by
 rcases open_slice_fields Try.underlying39 Try.underlying52 (by kernel_rfl) (by kernel_rfl) h with ⟨hcs,hx⟩ | ⟨a,len,cap,m,D,Pl,hcs,_,hl,hm,hmm,hx,hi⟩
 ·exact ⟨none,0,[],hcs,Reads.none_,(fun i hi=>by cases hi),Nat.le_refl _,.inl ⟨by rw [hx],rfl⟩⟩
 ·simp only [if_true] at hmm
  subst hmm
  obtain ⟨l,hll,hlp⟩:=row_of (P:=fun i (x:Ins)=>WfI x∧W.cell? (a.add (i*3))=some (.int .u8 x.op)∧W.cell? (a.add (i*3+1))=some (.int .i64 x.arg)∧W.cell? (a.add (i*3+2))=some (.int .u64 x.imm)) len (fun i hin=>by
   obtain ⟨ys,k,_,_,hyl,hj⟩:=hi i (by omega)
   obtain ⟨v0,y0,hc0,_,ht0⟩:=hj 0 _ rfl
   obtain ⟨v1,y1,hc1,_,ht1⟩:=hj 1 _ rfl
   obtain ⟨v2,y2,hc2,_,ht2⟩:=hj 2 _ rfl
   obtain ⟨n0,e0,_,w0⟩:=DataW.trod_int Try.underlying50 ht0
   obtain ⟨n1,e1,_,w1⟩:=DataW.trod_int Try.underlying3 ht1
   obtain ⟨n2,e2,_,w2⟩:=DataW.trod_int Try.underlying49 ht2
   simp only [List.cons.injEq,and_true] at e0 e1 e2
   subst e0 e1 e2
   have h0:=wf_u8 w0
   have h1:=wf_i64 w1
   have h2:=wf_u64 w2
   exact ⟨⟨n0,n1,n2⟩,⟨h0.1,h0.2,h1.1,h1.2,h2.1,by show n2≤_;omega⟩,hc0,hc1,hc2⟩)
  refine ⟨some a,m,l,by rw [hll];exact hcs,?_,?_,by omega,.inr ⟨_,_,by rw [hx],by simp;omega⟩⟩
  ·rw [hll]
   refine ⟨by rw [length_insc,hll],fun hn=>⟨a,rfl,?_,fun j u hu=>?_⟩⟩
   ·obtain ⟨x,hx0⟩:∃ x,l[0]?=some x:=⟨_,List.getElem?_eq_getElem (by omega)⟩
    exact block_of_cell (hlp 0 x hx0).2.1
   ·obtain ⟨i,x,k,hxi,hk,rfl,hv⟩:=flat_inv insOne 3 (by omega) (fun _=>rfl) l j u hu
    have hp:=hlp i x hxi
    obtain rfl | rfl | rfl:k=0∨k=1∨k=2:=by omega
    ·rw [← hv];exact hp.2.1
    ·rw [← hv];exact hp.2.2.1
    ·rw [← hv];exact hp.2.2.2
  ·intro x hx
   obtain ⟨i,hil,rfl⟩:=List.getElem_of_mem hx
   exact (hlp i _ (List.getElem?_eq_getElem hil)).1

def Small (t:TypeId) (d:DataW H):Prop:=∀ x ∈ d.weights Try.prog t,x≤reachBytes
theorem small_slice {t e:TypeId} {elems spare:List (DataW H)} {b:Nat} (h:Small t (DataW.slice elems spare)) (ht:Try.prog.underlying t=some (.slice e)) (hb:Try.prog.bytesOf e=b):(elems.length+spare.length)*b≤140737488351232:=by
 have:=h ((elems.length+spare.length)*Try.prog.bytesOf e) (by simp [DataW.weights,ht])
 rw [hb] at this
 simpa [reachBytes] using this
theorem mem_weightsAll {P:Program} {e:TypeId} {d:DataW H} {l:List (DataW H)} (hd:d ∈ l) {x:Nat} (hx:x ∈ d.weights P e):x ∈ DataW.weightsAll P e l:=by
 induction l with
 | nil=>cases hd
 | cons y l ih =>
  rw [DataW.weightsAll,List.mem_append]
  rcases List.mem_cons.1 hd with rfl | hd
  ·exact .inl hx
  ·exact .inr (ih hd)
theorem small_elem {t e:TypeId} {elems spare:List (DataW H)} (h:Small t (DataW.slice elems spare)) (ht:Try.prog.underlying t=some (.slice e)) {d:DataW H} (hd:d ∈ elems):Small e d:=by
 intro x hx
 refine h x ?_
 simp only [DataW.weights,ht,List.mem_cons,List.mem_append]
 exact .inr (.inl (mem_weightsAll hd hx))
theorem small_field {t:TypeId} {fs:Array Field} {parts:List (DataW H)} (h:Small t (DataW.agg parts)) (ht:Try.prog.underlying t=some (.struct fs)) {j:Nat} {f:Field} {d:DataW H} (hf:(fs.toList.map (·.type))[j]?=some f.type) (hd:parts[j]?=some d):Small f.type d:=by
 intro x hx
 refine h x ?_
 simp only [DataW.weights,ht]
 exact DataW.weights_mem_each hf hd x hx

theorem open_fns {fuel:Nat} {cs:List Value} {x:DataW H × List MemPlace} (h:DataW.trod enc Try.prog W 0 (fun _=>true) true fuel 22 cs=some x) (hs:Small 22 x.1) :
  ∃ (ao:Option Addr) (n c:Nat) (rs:List Raw),cs=[.slice ao n c]∧RdP W W.heap.size ao n rs:=by
 rcases open_slice_fields Try.underlying22 Try.underlying41 (by kernel_rfl) (by kernel_rfl) h with ⟨hcs,hx⟩ | ⟨a,len,cap,m,D,Pl,hcs,_,hl,hm,hmm,hx,hi⟩
 ·exact ⟨none,0,0,[],hcs,⟨Reads.none_,rfl,(fun r hr=>by cases hr),(fun r hr=>by cases hr),by omega⟩⟩
 ·simp only [if_true] at hmm
  subst hmm
  rw [hx] at hs
  have hsz:=small_slice hs Try.underlying22 (show Try.prog.bytesOf 41=72 by kernel_rfl)
  obtain ⟨l,hll,hlp⟩:=row_of (P:=fun i (r:Raw)=>RdF W W.heap.size r∧WfF r.fn∧W.cell? (a.add (i*5))=some (.int .i64 r.fn.params)∧W.cell? (a.add (i*5+1))=some (.slice r.lo r.fn.locals.length r.lc)∧W.cell? (a.add (i*5+2))=some (.bool r.fn.result) ∧
    W.cell? (a.add (i*5+3))=some (.int .i64 r.fn.keep)∧W.cell? (a.add (i*5+4))=some (.slice r.co r.fn.code.length r.cc)) len (fun i hin=>by
   obtain ⟨ys,k,hD,_,hyl,hj⟩:=hi i (by omega)
   have hsi:Small 41 (D i):=small_elem hs Try.underlying22 (List.mem_map.2 ⟨i,List.mem_range.2 hin,rfl⟩)
   rw [hD] at hsi
   obtain ⟨v0,y0,hc0,_,ht0⟩:=hj 0 _ rfl
   obtain ⟨v1,y1,hc1,hy1,ht1⟩:=hj 1 _ rfl
   obtain ⟨v2,y2,hc2,_,ht2⟩:=hj 2 _ rfl
   obtain ⟨v3,y3,hc3,_,ht3⟩:=hj 3 _ rfl
   obtain ⟨v4,y4,hc4,hy4,ht4⟩:=hj 4 _ rfl
   obtain ⟨n0,e0,_,w0⟩:=DataW.trod_int Try.underlying3 ht0
   obtain ⟨lo,lc,ls,e1,hr1,hb1,hlc,_,_,hd1⟩:=open_u8 Try.underlying38 Try.underlying46 (by kernel_rfl) ht1
   obtain ⟨b2,e2,_⟩:=DataW.trod_bool Try.underlying4 ht2
   obtain ⟨n3,e3,_,w3⟩:=DataW.trod_int Try.underlying3 ht3
   obtain ⟨co,cc,is,e4,hr4,hw4,hcc,hd4⟩:=open_ins ht4
   have h1:=wf_i64 w0
   have h3:=wf_i64 w3
   have s1:Small 38 y1.1:=small_field hsi Try.underlying41 (j:=1) rfl (by rw [List.getElem?_map,hy1];rfl)
   have s4:Small 39 y4.1:=small_field hsi Try.underlying41 (j:=4) rfl (by rw [List.getElem?_map,hy4];rfl)
   have b1:ls.length≤140737488351232:=by
    rcases hd1 with ⟨_,h0⟩ | ⟨elems,spare,he,hc⟩
    ·omega
    ·rw [he] at s1
     have:=small_slice s1 Try.underlying38 (show Try.prog.bytesOf 46=1 by kernel_rfl)
     omega
   have b4:is.length*24≤140737488351232:=by
    rcases hd4 with ⟨_,h0⟩ | ⟨elems,spare,he,hc⟩
    ·omega
    ·rw [he] at s4
     have:=small_slice s4 Try.underlying39 (show Try.prog.bytesOf 52=24 by kernel_rfl)
     omega
   simp only [List.cons.injEq,and_true] at e0 e1 e2 e3 e4
   subst e0 e1 e2 e3 e4
   exact ⟨⟨⟨n0,ls,b2,n3,is⟩,lo,lc,co,cc⟩,⟨hr1,hr4,hlc⟩,⟨h1.1,h1.2,h3.1,h3.2,hb1,hw4,b1,b4⟩,hc0,hc1,hc2,hc3,hc4⟩)
  refine ⟨some a,len,m,l,hcs,⟨⟨by rw [length_rawc,hll],fun hn=>⟨a,rfl,?_,fun j u hu=>?_⟩⟩,hll,fun r hr=>?_,fun r hr=>?_,?_⟩⟩
  ·obtain ⟨x,hx0⟩:∃ x,l[0]?=some x:=⟨_,List.getElem?_eq_getElem (by omega)⟩
   exact block_of_cell (hlp 0 x hx0).2.2.1
  ·obtain ⟨i,x,k,hxi,hk,rfl,hv⟩:=flat_inv rawOne 5 (by omega) (fun _=>rfl) l j u hu
   have hp:=hlp i x hxi
   obtain rfl | rfl | rfl | rfl | rfl:k=0∨k=1∨k=2∨k=3∨k=4:=by omega
   ·rw [← hv];exact hp.2.2.1
   ·rw [← hv];exact hp.2.2.2.1
   ·rw [← hv];exact hp.2.2.2.2.1
   ·rw [← hv];exact hp.2.2.2.2.2.1
   ·rw [← hv];exact hp.2.2.2.2.2.2
  ·obtain ⟨i,hil,rfl⟩:=List.getElem_of_mem hr
   exact (hlp i _ (List.getElem?_eq_getElem hil)).1
  ·obtain ⟨i,hil,rfl⟩:=List.getElem_of_mem hr
   exact (hlp i _ (List.getElem?_eq_getElem hil)).2.1
  ·simp at hsz
   have:=Nat.mul_le_mul_right 72 hl
   omega

theorem open_prog {base:Nat} {v:Value} {d:DataW H} {p:List MemPlace} (hv:Value.okWide Try.prog W .any base 24 v) (h:DataW.Trod enc Try.prog W 0 (fun _=>true) true 24 v d p) (hs:Small 24 d) :
  ∃ (ao:Option Addr) (n c:Nat) (rs:List Raw),v=.agg #[.slice ao n c]∧RdP W W.heap.size ao n rs:=by
 obtain ⟨cs,rfl,hsz⟩:=okWide_struct Try.underlying24 hv
 obtain ⟨l⟩:=cs
 match l,hsz.trans (show Try.prog.cellsOf 24=1 by kernel_rfl) with
 | [c0],_ =>
  obtain ⟨fuel,hf⟩:=h
  obtain ⟨xs,n,_,hx,_,hlen,hg⟩:=DataW.trod_struct Try.underlying24 hf
  match xs,hlen with
  | [y0],_ =>
   simp only [Prod.mk.injEq] at hx
   have h0:DataW.trod enc Try.prog W 0 (fun _=>true) true n 22 [c0]=some y0:=by
    have:=hg 0 _ rfl
    simpa [Value.cells,show Try.prog.cellsOf 22=1 by kernel_rfl] using this
   rw [hx.1] at hs
   have s0:Small 22 y0.1:=small_field hs Try.underlying24 (j:=0) rfl rfl
   obtain ⟨ao,m,c,rs,e,hr⟩:=open_fns h0 s0
   simp only [List.cons.injEq,and_true] at e
   subst e
   exact ⟨ao,m,c,rs,rfl,hr⟩
end
end Go.Proofs.Ytgekmjkfnhogkaa.Q
