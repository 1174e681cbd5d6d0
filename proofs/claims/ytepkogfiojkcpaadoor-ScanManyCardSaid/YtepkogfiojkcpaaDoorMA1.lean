/-
  Texts of one seat, one behind the other: Lang, LMath, LSet.
-/
import Derived.Test.YtepkogfiojkcpaaDoorRows
import Derived.Lib.TrailingZeros

set_option linter.unusedVariables false
set_option linter.unusedSimpArgs false
set_option maxRecDepth 100000
set_option maxHeartbeats 51200000
namespace Go.Proofs.YtepkogfiojkcpaaDoor
structure Nd where
 op:Int
 bop:Int
 d:Int
 e:Int
 a:Int
 b:Int
 f:Int
 cell:Int
 imm:Int
 args:List Int
 next:Int
 els:Int
structure Gr where
 params:List Int
 kinds:List Int
 cells:Int
 init:List Int
 result:Bool
 keep:Int
 nodes:List Nd
 entry:Int
instance:DecidableEq Nd:=fun x y=>decidable_of_iff (x.op=y.op∧x.bop=y.bop∧x.d=y.d∧x.e=y.e∧x.a=y.a∧x.b=y.b∧x.f=y.f∧x.cell=y.cell∧x.imm=y.imm∧x.args=y.args∧x.next=y.next∧x.els=y.els)
 ⟨fun h=>by cases x;cases y;simp only [Nd.mk.injEq];exact h,fun h=>by subst h;exact ⟨rfl,rfl,rfl,rfl,rfl,rfl,rfl,rfl,rfl,rfl,rfl,rfl⟩⟩
instance:DecidableEq Gr:=fun x y=>decidable_of_iff (x.params=y.params∧x.kinds=y.kinds∧x.cells=y.cells∧x.init=y.init∧x.result=y.result∧x.keep=y.keep∧x.nodes=y.nodes∧x.entry=y.entry)
 ⟨fun h=>by cases x;cases y;simp only [Gr.mk.injEq];exact h,fun h=>by subst h;exact ⟨rfl,rfl,rfl,rfl,rfl,rfl,rfl,rfl⟩⟩

def Byt (l:List Int):Prop:=∀ x ∈ l,0≤x∧x≤255
theorem Byt.nil:Byt []:=fun _ h=>by cases h
def add1 (l:List Int) (x:Int):List Int:=if 0≤x∧x ∉ l then l ++ [x] else l
def addL (l more:List Int):List Int:=more.foldl add1 l
theorem addL_snoc (l more:List Int) (x:Int):addL l (more ++ [x])=add1 (addL l more) x:=by simp [addL]
theorem addL_len (l more:List Int):(addL l more).length≤l.length+more.length:=by
 unfold addL
 induction more generalizing l with
 | nil=>simp
 | cons x r ih =>
  rw [List.foldl_cons]
  have:=ih (add1 l x)
  have h1:(add1 l x).length≤l.length+1:=by unfold add1;split <;> simp
  simp only [List.length_cons]
  omega
def readF (n:Nd):List Int :=
 if n.op=2∨n.op=5∨n.op=7∨n.op=9∨n.op=12∨n.op=14∨n.op=17∨n.op=18 then [n.a]
 else if n.op=3∨n.op=8 then [n.a,n.b] else if n.op=11∨n.op=13 then n.args else []
def writeF (n:Nd):List Int :=
 if n.op=1∨n.op=2∨n.op=3∨n.op=4∨n.op=6∨n.op=7∨n.op=11∨n.op=16 then [n.d] else if n.op=15 then [n.d,n.e] else []
def readsOf (n:Nd):List Int:=addL [] (readF n)
def writesOf (n:Nd):List Int:=addL [] (writeF n)
def nextsOf (n:Nd):List Int :=
 if n.op<1∨18<n.op∨n.op=12∨n.op=14∨n.op=18 then []
 else if n.op=9∧n.els≠n.next then [n.next,n.els] else [n.next]
def isOne (i n:Int):Prop:=0≤i∧i<n
instance (i n:Int):Decidable (isOne i n):=inferInstanceAs (Decidable (_∧_))
def kindAt (ks:List Int) (p:Int):Int:=ks.getD p.toNat 0
def fits (ks:List Int) (bd:Bool) (p k:Int):Prop:=isOne p ks.length∧(bd=true∨kindAt ks p=k)
instance (ks:List Int) (bd:Bool) (p k:Int):Decidable (fits ks bd p k):=inferInstanceAs (Decidable (_∧_))
def inOrder (l:List Int):Prop:=∀ i,i<l.length→l.getD i 0=i
instance (l:List Int):Decidable (inOrder l):=inferInstanceAs (Decidable (∀ i,i<l.length→l.getD i 0=(i:Int)))
def kindsHold (ks:List Int) (bd:Bool):Prop:=ks.length≤1024∧(bd=true→16≤ks.length)∧∀ k ∈ ks,k=0∨k=1
instance (ks:List Int) (bd:Bool):Decidable (kindsHold ks bd):=inferInstanceAs (Decidable (_∧_∧_))
def paramsHold (ps ks:List Int) (bd:Bool):Prop:=ps.length≤4∧if bd=true then inOrder ps else ∀ i,i<ps.length→isOne (ps.getD i 0) ks.length∧ps.getD i 0 ∉ ps.take i
instance (ps ks:List Int) (bd:Bool):Decidable (paramsHold ps ks bd):=inferInstanceAs (Decidable (_∧_))
def initHolds (ps ks is:List Int) (cells:Int) (bd:Bool):Prop:=is.length=ps.length∧∀ i,i<is.length→is.getD i 0=-1∨isOne (is.getD i 0) cells∧(bd=true∨kindAt ks (ps.getD i 0)=0)
instance (ps ks is:List Int) (cells:Int) (bd:Bool):Decidable (initHolds ps ks is cells bd):=inferInstanceAs (Decidable (_∧_))
def headHolds (g:Gr) (bd:Bool):Prop:=kindsHold g.kinds bd∧0≤g.cells∧g.cells≤64∧paramsHold g.params g.kinds bd∧initHolds g.params g.kinds g.init g.cells bd∧(g.keep=-1∨isOne g.keep g.cells)∧g.nodes.length≤4096∧isOne g.entry g.nodes.length
instance (g:Gr) (bd:Bool):Decidable (headHolds g bd):=inferInstanceAs (Decidable (_∧_∧_∧_∧_∧_∧_∧_))
def grAt (gs:List Gr) (k:Int):Gr:=gs.getD k.toNat ⟨[],[],0,[],false,0,[],0⟩
def hands (gs:List Gr) (g:Gr) (bd:Bool) (f:Int) (xs:List Int):Prop :=
 isOne f gs.length∧xs.length=(grAt gs f).params.length∧if bd=true then inOrder xs else ∀ i,i<xs.length→fits g.kinds false (xs.getD i 0) (kindAt (grAt gs f).kinds ((grAt gs f).params.getD i 0))
instance (gs:List Gr) (g:Gr) (bd:Bool) (f:Int) (xs:List Int):Decidable (hands gs g bd f xs):=inferInstanceAs (Decidable (_∧_∧_))
def gets (gs:List Gr) (g:Gr) (bd:Bool) (f d:Int):Prop:=d=-1∨(grAt gs f).result=true∧fits g.kinds bd d 0∧(bd=false∨d=0)
instance (gs:List Gr) (g:Gr) (bd:Bool) (f d:Int):Decidable (gets gs g bd f d):=inferInstanceAs (Decidable (_∨_∧_∧_))
def uses (gs:List Gr) (g:Gr) (bd:Bool) (n:Nd):Prop :=
 if n.op=1∨n.op=16 then fits g.kinds bd n.d 0
 else if n.op=2 then isOne n.a g.kinds.length∧fits g.kinds bd n.d (kindAt g.kinds n.a)
 else if n.op=3 then (7≤n.bop∧n.bop≤20)∧fits g.kinds bd n.d 0∧fits g.kinds bd n.a 0∧fits g.kinds bd n.b 0
 else if n.op=4 then isOne n.cell g.cells∧fits g.kinds bd n.d 0
 else if n.op=5 then isOne n.cell g.cells∧fits g.kinds bd n.a 0
 else if n.op=6 then isOne n.cell g.cells∧fits g.kinds bd n.d 1
 else if n.op=7 then fits g.kinds bd n.d 0∧fits g.kinds bd n.a 1
 else if n.op=8 then fits g.kinds bd n.a 1∧fits g.kinds bd n.b 0
 else if n.op=9∨n.op=14∨n.op=18∨n.op=17 then fits g.kinds bd n.a 0
 else if n.op=10 then True
 else if n.op=11 then hands gs g bd n.f n.args∧gets gs g bd n.f n.d
 else if n.op=12 then (if g.result=true then fits g.kinds bd n.a 0 else n.a=-1)
 else if n.op=13 then hands gs g bd n.f n.args
 else if n.op=15 then n.d≠n.e∧fits g.kinds bd n.d 0∧fits g.kinds bd n.e 0
 else False
instance (gs:List Gr) (g:Gr) (bd:Bool) (n:Nd):Decidable (uses gs g bd n):=by unfold uses;infer_instance
def nodeHolds (gs:List Gr) (g:Gr) (bd:Bool) (n:Nd):Prop:=uses gs g bd n∧∀ x ∈ nextsOf n,isOne x g.nodes.length
instance (gs:List Gr) (g:Gr) (bd:Bool) (n:Nd):Decidable (nodeHolds gs g bd n):=inferInstanceAs (Decidable (_∧_))
def valid (gs:List Gr) (bd:Bool):Prop:=(1≤gs.length∧gs.length≤16)∧((grAt gs 0).params.length=0∧(grAt gs 0).result=false)∧(∀ g ∈ gs,headHolds g bd)∧∀ g ∈ gs,∀ n ∈ g.nodes,nodeHolds gs g bd n
instance (gs:List Gr) (bd:Bool):Decidable (valid gs bd):=inferInstanceAs (Decidable (_∧_∧_∧_))
inductive Live (ns:List Nd) (p:Int):Nat→Prop
 | here {i:Nat} {n:Nd} (h:ns[i]?=some n) (hr:p ∈ readsOf n):Live ns p i
 | next {i j:Nat} {n:Nd} (h:ns[i]?=some n) (hw:p ∉ writesOf n) (hj:(j:Int) ∈ nextsOf n) (hl:Live ns p j):Live ns p i
def LiveO (ns:List Nd) (p:Int) (i:Nat):Prop:=∃ n,ns[i]?=some n∧∃ j:Nat,(j:Int) ∈ nextsOf n∧Live ns p j
def hasW (ws:List Nat) (j:Nat):Bool:=(ws.getD (j / 64) 0).testBit (j % 64)
def addW (ws:List Nat) (j:Nat):List Nat:=ws.set (j / 64) (ws.getD (j / 64) 0 ||| 2 ^ (j % 64))
theorem hasW_add {ws:List Nat} {j:Nat} (h:j / 64<ws.length) (i:Nat):hasW (addW ws j) i=(hasW ws i || decide (i=j)):=by
 unfold hasW addW
 rw [List.getD_eq_getElem?_getD,List.getElem?_set]
 by_cases e:j / 64=i / 64
 ·rw [if_pos e,if_pos h]
  simp only [Option.getD_some,Nat.testBit_or,Nat.testBit_two_pow,e]
  congr 1
  by_cases e2:i=j
  ·subst e2
   simp
  ·have:¬ j % 64=i % 64:=fun h2=>e2 (by omega)
   simp [e2,this]
 ·rw [if_neg e,← List.getD_eq_getElem?_getD]
  have:¬ i=j:=fun h2=>e (by rw [h2])
  simp [this]
theorem addW_len (ws:List Nat) (j:Nat):(addW ws j).length=ws.length:=by simp [addW]
theorem addW_lt {ws:List Nat} (h:∀ x ∈ ws,x<18446744073709551616) (j:Nat):∀ x ∈ addW ws j,x<18446744073709551616:=by
 intro x hx
 rcases List.mem_or_eq_of_mem_set hx with hx | rfl
 ·exact h x hx
 ·have h1:ws.getD (j / 64) 0<2 ^ 64:=by
   rw [List.getD_eq_getElem?_getD]
   rcases e:ws[j / 64]? with _ | y
   ·simp
   ·simpa using h y (List.mem_of_getElem? e)
  exact Nat.or_lt_two_pow h1 (Nat.pow_lt_pow_right (by decide) (Nat.mod_lt _ (by decide)))
theorem hasW_zero (q j:Nat):hasW (List.replicate q 0) j=false:=by
 unfold hasW
 rw [List.getD_eq_getElem?_getD,List.getElem?_replicate]
 split <;> simp
def hasS (wss:List (List Nat)) (i j:Nat):Bool:=hasW (wss.getD i []) j
def addS (wss:List (List Nat)) (i j:Nat):List (List Nat):=wss.set i (addW (wss.getD i []) j)
structure WfS (wss:List (List Nat)) (n q m:Nat):Prop where
 len:wss.length=n
 each:∀ ws ∈ wss,ws.length=q
 lt:∀ ws ∈ wss,∀ x ∈ ws,x<18446744073709551616
 most:∀ i j,hasS wss i j=true→j<m
theorem getD_mem {α:Type} {l:List α} {i:Nat} (d:α) (h:i<l.length):l.getD i d ∈ l:=by
 rw [List.getD_eq_getElem?_getD,List.getElem?_eq_getElem h]
 exact List.getElem_mem h
theorem hasS_add {wss:List (List Nat)} {n q m i j:Nat} (h:WfS wss n q m) (hi:i<n) (hj:j / 64<q) (a b:Nat):hasS (addS wss i j) a b=(hasS wss a b || decide (a=i∧b=j)):=by
 unfold hasS addS
 rw [List.getD_eq_getElem?_getD,List.getElem?_set]
 by_cases e:i=a
 ·subst e
  rw [if_pos rfl,if_pos (by rw [h.len];exact hi)]
  simp only [Option.getD_some,true_and]
  exact hasW_add (by rw [h.each _ (getD_mem _ (by rw [h.len];exact hi))];exact hj) b
 ·rw [if_neg e,← List.getD_eq_getElem?_getD]
  have:¬ a=i:=fun h=>e h.symm
  simp [this]
theorem addS_wf {wss:List (List Nat)} {n q m i j:Nat} (h:WfS wss n q m) (hi:i<n) (hj:j / 64<q) (hm:j<m):WfS (addS wss i j) n q m:=by
 have hmem:=getD_mem [] (show i<wss.length by rw [h.len];exact hi)
 refine ⟨by simp [addS,h.len],fun ws hw=>?_,fun ws hw=>?_,fun a b hab=>?_⟩
 ·rcases List.mem_or_eq_of_mem_set hw with hw | rfl
  ·exact h.each ws hw
  ·rw [addW_len];exact h.each _ hmem
 ·rcases List.mem_or_eq_of_mem_set hw with hw | rfl
  ·exact h.lt ws hw
  ·exact addW_lt (h.lt _ hmem) j
 ·rw [hasS_add h hi hj] at hab
  rcases Bool.or_eq_true _ _ ▸ hab with hab | hab
  ·exact h.most a b hab
  ·have:=of_decide_eq_true hab
   omega
theorem zeroS_wf (n q m:Nat):WfS (List.replicate n (List.replicate q 0)) n q m:=by
 refine ⟨by simp,fun ws hw=>?_,fun ws hw x hx=>?_,fun a b hab=>?_⟩
 ·rw [List.eq_of_mem_replicate hw];simp
 ·rw [List.eq_of_mem_replicate hw] at hx
  rw [List.eq_of_mem_replicate hx];decide
 ·unfold hasS at hab
  rw [List.getD_eq_getElem?_getD,List.getElem?_replicate] at hab
  split at hab
  ·rw [Option.getD_some,hasW_zero] at hab
   cases hab
  ·simp [hasW] at hab
theorem zeroS_has (n q a b:Nat):hasS (List.replicate n (List.replicate q 0)) a b=false:=by
 unfold hasS
 rw [List.getD_eq_getElem?_getD,List.getElem?_replicate]
 split
 ·rw [Option.getD_some,hasW_zero]
 ·simp [hasW]
def cntS (wss:List (List Nat)) (n p:Nat):Nat:=(List.range n).countP fun i=>hasS wss i p
theorem cntS_le (wss:List (List Nat)) (n p:Nat):cntS wss n p≤n:=by
 unfold cntS
 have:=List.countP_le_length (p:=fun i=>hasS wss i p) (l:=List.range n)
 simpa using this
theorem countP_one (P Q:Nat→Bool) (a:Nat):∀ n,a<n→P a=false→(∀ i,Q i=(P i || decide (i=a)))→(List.range n).countP Q=(List.range n).countP P+1
 | 0,h,_,_=>absurd h (by omega)
 | n+1,h,hP,hQ=>by
  rw [List.range_succ,List.countP_append,List.countP_append]
  by_cases e:a=n
  ·subst e
   have h1:(List.range a).countP Q=(List.range a).countP P:=List.countP_congr fun i hi=>by
    have:i<a:=List.mem_range.1 hi
    rw [hQ i]
    have:¬ i=a:=by omega
    simp [this]
   rw [h1]
   simp [hQ,hP]
  ·have h1:=countP_one P Q a n (by omega) hP hQ
   rw [h1]
   have:Q n=P n:=by
    rw [hQ n]
    have:¬ n=a:=fun h=>e h.symm
    simp [this]
   simp [this]
   omega
theorem cntS_add {wss:List (List Nat)} {n q m i j:Nat} (h:WfS wss n q m) (hi:i<n) (hj:j / 64<q) (hn:hasS wss i j=false):cntS (addS wss i j) n j=cntS wss n j+1 :=
 countP_one _ _ i n hi hn fun a=>by rw [hasS_add h hi hj];simp

def addE (bs:List (List Int)) (i:Int) (x:Int):List (List Int):=bs.set x.toNat (bs.getD x.toNat [] ++ [i])
def befN (bs:List (List Int)) (i:Int) (xs:List Int):List (List Int):=xs.foldl (fun b x=>addE b i x) bs
theorem befN_snoc (bs:List (List Int)) (i x:Int) (xs:List Int):befN bs i (xs ++ [x])=addE (befN bs i xs) i x:=by simp [befN]
theorem addE_len (bs:List (List Int)) (i x:Int):(addE bs i x).length=bs.length:=by simp [addE]
theorem befN_len (bs:List (List Int)) (i:Int) (xs:List Int):(befN bs i xs).length=bs.length:=by
 induction xs generalizing bs with
 | nil=>rfl
 | cons x xs ih=>exact (ih _).trans (addE_len _ _ _)
def befK (n:Nat) (ns:List Nd):Nat→List (List Int)
 | 0=>List.replicate n []
 | k+1=>befN (befK n ns k) k (match ns[k]? with
  | some x=>nextsOf x
  | none=>[])
theorem befK_len (n:Nat) (ns:List Nd):∀ k,(befK n ns k).length=n
 | 0=>by simp [befK]
 | k+1=>by rw [befK,befN_len,befK_len n ns k]
theorem addE_mem {bs:List (List Int)} {i x:Int} (h0:0≤x) (h1:x<bs.length) (a:Nat) (y:Int):y ∈ (addE bs i x).getD a []↔y ∈ bs.getD a []∨(y=i∧x=a):=by
 unfold addE
 rw [List.getD_eq_getElem?_getD,List.getElem?_set]
 by_cases e:x.toNat=a
 ·rw [if_pos e,if_pos (by omega),Option.getD_some,List.mem_append,e]
  constructor
  ·rintro (h | h)
   ·exact .inl h
   ·exact .inr ⟨by simpa using h,by omega⟩
  ·rintro (h | ⟨h,_⟩)
   ·exact .inl h
   ·exact .inr (by simp [h])
 ·rw [if_neg e,← List.getD_eq_getElem?_getD]
  constructor
  ·exact .inl
  ·rintro (h | ⟨_,h⟩)
   ·exact h
   ·omega
theorem befN_mem {i:Int} (a:Nat) (y:Int):∀ (xs:List Int) (bs:List (List Int)),(∀ x ∈ xs,0≤x∧x<bs.length)→(y ∈ (befN bs i xs).getD a []↔y ∈ bs.getD a []∨(y=i∧(a:Int) ∈ xs))
 | [],bs,_=>by simp [befN]
 | x :: xs,bs,h=>by
  have hx:=h x (by simp)
  rw [show befN bs i (x :: xs)=befN (addE bs i x) i xs from rfl,befN_mem a y xs (addE bs i x) (fun z hz=>by rw [addE_len];exact h z (by simp [hz])),addE_mem hx.1 hx.2]
  constructor
  ·rintro ((h | ⟨h,e⟩) | ⟨h,e⟩)
   ·exact .inl h
   ·exact .inr ⟨h,by simp [e]⟩
   ·exact .inr ⟨h,by simp [e]⟩
  ·rintro (h | ⟨h,e⟩)
   ·exact .inl (.inl h)
   ·rcases List.mem_cons.1 e with e | e
    ·exact .inl (.inr ⟨h,e.symm⟩)
    ·exact .inr ⟨h,e⟩
def NextIn (ns:List Nd):Prop:=∀ n ∈ ns,∀ x ∈ nextsOf n,0≤x∧x<ns.length
theorem befK_mem {ns:List Nd} (hv:NextIn ns) (a:Nat) (y:Int):∀ k,k≤ns.length→(y ∈ (befK ns.length ns k).getD a []↔∃ i:Nat,i<k∧y=i∧∃ n,ns[i]?=some n∧(a:Int) ∈ nextsOf n)
 | 0,_=>by
  rw [befK,List.getD_eq_getElem?_getD,List.getElem?_replicate]
  split <;> simp
 | k+1,hk=>by
  have hkl:k<ns.length:=by omega
  have e:ns[k]?=some ns[k]:=List.getElem?_eq_getElem hkl
  rw [befK]
  simp only [e]
  rw [befN_mem a y _ _ (fun x hx=>by rw [befK_len];exact hv _ (List.getElem_mem hkl) x hx),befK_mem hv a y k (by omega)]
  constructor
  ·rintro (⟨i,h1,h2,h3⟩ | ⟨h1,h2⟩)
   ·exact ⟨i,by omega,h2,h3⟩
   ·exact ⟨k,by omega,h1,_,e,h2⟩
  ·rintro ⟨i,h1,h2,n,h3,h4⟩
   by_cases he:i=k
   ·subst he
    rw [e] at h3
    injection h3 with h3
    subst h3
    exact .inr ⟨h2,h4⟩
   ·exact .inl ⟨i,by omega,h2,n,h3,h4⟩
theorem addE_el (bs:List (List Int)) (i x:Int) (a:Nat):((addE bs i x).getD a []).length≤(bs.getD a []).length+1:=by
 unfold addE
 rw [List.getD_eq_getElem?_getD,List.getElem?_set]
 by_cases e:x.toNat=a
 ·rw [if_pos e]
  split
  ·rw [Option.getD_some,List.length_append,e];simp
  ·simp
 ·rw [if_neg e,← List.getD_eq_getElem?_getD]
  omega
theorem befN_el (i:Int) (a:Nat):∀ (xs:List Int) (bs:List (List Int)),((befN bs i xs).getD a []).length≤(bs.getD a []).length+xs.length
 | [],bs=>by simp [befN]
 | x :: xs,bs=>by
  have h1:=befN_el i a xs (addE bs i x)
  have h2:=addE_el bs i x a
  rw [show befN bs i (x :: xs)=befN (addE bs i x) i xs from rfl]
  simp only [List.length_cons]
  omega
theorem nexts_len (n:Nd):(nextsOf n).length≤2:=by
 unfold nextsOf
 split
 ·simp
 ·split <;> simp
theorem befK_el (n:Nat) (ns:List Nd) (a:Nat):∀ k,((befK n ns k).getD a []).length≤2*k
 | 0=>by
  rw [befK,List.getD_eq_getElem?_getD,List.getElem?_replicate]
  split <;> simp
 | k+1=>by
  have h1:=befK_el n ns a k
  have h2:=befN_el k a (match ns[k]? with
   | some x=>nextsOf x
   | none=>[]) (befK n ns k)
  have h3:(match ns[k]? with
   | some x=>nextsOf x
   | none=>[]).length≤2:=by
   split
   ·exact nexts_len _
   ·simp
  rw [befK]
  omega

structure SpI (ns:List Nd) (p r:Nat) (w0 wss:List (List Nat)) (wait:List Int):Prop where
 old:∀ i q,hasS w0 i q=true→hasS wss i q=true
 sound:∀ i q,hasS wss i q=true→hasS w0 i q=true∨(q=p∧Live ns p i)
 wl:∀ x ∈ wait,∃ k:Nat,x=k∧k<ns.length∧Live ns p k
 clo:∀ a,hasS wss a p=true→∀ (i:Nat) n,ns[i]?=some n→(p:Int) ∉ writesOf n→(a:Int) ∈ nextsOf n→hasS wss i p=true∨(i:Int) ∈ wait
 src:hasS wss r p=true∨(r:Int) ∈ wait
theorem SpI.start {ns:List Nd} {p r:Nat} {w0:List (List Nat)} {n:Nd} (hr:ns[r]?=some n) (hp:(p:Int) ∈ readsOf n)
  (hc:∀ a,hasS w0 a p=true→∀ (i:Nat) n,ns[i]?=some n→(p:Int) ∉ writesOf n→(a:Int) ∈ nextsOf n→hasS w0 i p=true):SpI ns p r w0 w0 [(r:Int)] :=
 ⟨fun _ _ h=>h,fun _ _ h=>.inl h,fun x hx=>⟨r,by simpa using hx,(List.getElem?_eq_some_iff.1 hr).1,.here hr hp⟩,fun a ha i n h1 h2 h3=>.inl (hc a ha i n h1 h2 h3),.inr (by simp)⟩
theorem SpI.skip {ns:List Nd} {p r:Nat} {w0 wss:List (List Nat)} {wait:List Int} {k:Nat} (h:SpI ns p r w0 wss (wait ++ [(k:Int)])) (hk:hasS wss k p=true):SpI ns p r w0 wss wait:=by
 refine ⟨h.old,h.sound,fun x hx=>h.wl x (by simp [hx]),fun a ha i n h1 h2 h3=>?_,?_⟩
 ·rcases h.clo a ha i n h1 h2 h3 with h4 | h4
  ·exact .inl h4
  ·rcases List.mem_append.1 h4 with h4 | h4
   ·exact .inr h4
   ·have:i=k:=by have:=List.mem_singleton.1 h4;omega
    subst this
    exact .inl hk
 ·rcases h.src with h4 | h4
  ·exact .inl h4
  ·rcases List.mem_append.1 h4 with h4 | h4
   ·exact .inr h4
   ·have:r=k:=by have:=List.mem_singleton.1 h4;omega
    subst this
    exact .inl hk
def keepB (ns:List Nd) (p:Nat) (l:List Int):List Int:=l.filter fun x=>match ns[x.toNat]? with
 | some n=>!(writesOf n).contains (p:Int)
 | none=>false
theorem SpI.step {ns:List Nd} {p r n0 q m:Nat} {w0 wss:List (List Nat)} {wait:List Int} {k:Nat} (h:SpI ns p r w0 wss (wait ++ [(k:Int)])) (hw:WfS wss n0 q m) (hk:k<n0) (hq:p / 64<q) (bk:List Int)
  (hb:∀ y,y ∈ bk↔∃ i:Nat,y=i∧∃ n,ns[i]?=some n∧(k:Int) ∈ nextsOf n):SpI ns p r w0 (addS wss k p) (wait ++ keepB ns p bk):=by
 have hlk:Live ns p k:=by
  obtain ⟨k',e,_,hl⟩:=h.wl (k:Int) (by simp)
  have:k=k':=by omega
  subst this
  exact hl
 have hadd:=hasS_add hw hk hq
 refine ⟨fun i j hij=>by rw [hadd,h.old i j hij];rfl,fun i j hij=>?_,fun x hx=>?_,fun a ha i n h1 h2 h3=>?_,?_⟩
 ·rw [hadd] at hij
  rcases Bool.or_eq_true _ _ ▸ hij with hij | hij
  ·exact h.sound i j hij
  ·obtain ⟨e1,e2⟩:=of_decide_eq_true hij
   subst e1 e2
   exact .inr ⟨rfl,hlk⟩
 ·rcases List.mem_append.1 hx with hx | hx
  ·exact h.wl x (by simp [hx])
  ·obtain ⟨hm,hf⟩:=List.mem_filter.1 hx
   obtain ⟨i,rfl,n,hn,hnk⟩:=(hb x).1 hm
   rw [Int.toNat_natCast,hn] at hf
   have hf':¬ (p:Int) ∈ writesOf n:=by simpa using hf
   exact ⟨i,rfl,(List.getElem?_eq_some_iff.1 hn).1,.next hn hf' hnk hlk⟩
 ·rw [hadd] at ha
  rcases Bool.or_eq_true _ _ ▸ ha with ha | ha
  ·rcases h.clo a ha i n h1 h2 h3 with h4 | h4
   ·exact .inl (by rw [hadd,h4];rfl)
   ·rcases List.mem_append.1 h4 with h4 | h4
    ·exact .inr (by simp [h4])
    ·have:i=k:=by have:=List.mem_singleton.1 h4;omega
     subst this
     exact .inl (by rw [hadd];simp)
  ·obtain ⟨e1,_⟩:=of_decide_eq_true ha
   subst e1
   refine .inr (List.mem_append_right _ (List.mem_filter.2 ⟨(hb i).2 ⟨i,rfl,n,h1,h3⟩,?_⟩))
   rw [Int.toNat_natCast,h1]
   simpa using h2
 ·rcases h.src with h4 | h4
  ·exact .inl (by rw [hadd,h4];rfl)
  ·rcases List.mem_append.1 h4 with h4 | h4
   ·exact .inr (by simp [h4])
   ·have:r=k:=by have:=List.mem_singleton.1 h4;omega
    subst this
    exact .inl (by rw [hadd];simp)
structure LvI (ns:List Nd) (wss:List (List Nat)) (k j:Nat):Prop where
 sound:∀ i q,hasS wss i q=true→Live ns q i
 clo:∀ p a:Nat,hasS wss a p=true→∀ (i:Nat) n,ns[i]?=some n→(p:Int) ∉ writesOf n→(a:Int) ∈ nextsOf n→hasS wss i p=true
 done:∀ (i:Nat) n,i<k→ns[i]?=some n→∀ p:Nat,(p:Int) ∈ readsOf n→hasS wss i p=true
 part:∀ n,ns[k]?=some n→∀ p:Nat,(p:Int) ∈ (readsOf n).take j→hasS wss k p=true
theorem LvI.start (ns:List Nd) (n q:Nat):LvI ns (List.replicate n (List.replicate q 0)) 0 0 :=
 ⟨(fun i j h=>by rw [zeroS_has] at h;cases h),(fun p a h=>by rw [zeroS_has] at h;cases h),(fun i _ h=>absurd h (by omega)),(fun _ _ _ h=>by simp at h)⟩
theorem LvI.next {ns:List Nd} {wss:List (List Nat)} {k j:Nat} {n:Nd} (h:LvI ns wss k j) (hn:ns[k]?=some n) (hj:(readsOf n).length≤j):LvI ns wss (k+1) 0 :=
 ⟨h.sound,h.clo,fun i n' hi hn' p hp=>by
  by_cases e:i=k
  ·subst e
   rw [hn] at hn'
   injection hn' with hn'
   subst hn'
   exact h.part n hn p (by rw [List.take_of_length_le hj];exact hp)
  ·exact h.done i n' (by omega) hn' p hp,fun _ _ _ h=>by simp at h⟩
theorem LvI.spread {ns:List Nd} {wss w2:List (List Nat)} {k j p:Nat} {n:Nd} (h:LvI ns wss k j) (hn:ns[k]?=some n) (hp:(readsOf n)[j]?=some (p:Int)) (hs:SpI ns p k wss w2 []):LvI ns w2 k (j+1):=by
 refine ⟨fun i q hq=>?_,fun p' a ha i n' h1 h2 h3=>?_,fun i n' hi hn' p' hp'=>hs.old _ _ (h.done i n' hi hn' p' hp'),fun n' hn' p' hp'=>?_⟩
 ·rcases hs.sound i q hq with h1 | ⟨rfl,h1⟩
  ·exact h.sound i q h1
  ·exact h1
 ·rcases hs.sound a p' ha with h4 | ⟨rfl,_⟩
  ·exact hs.old _ _ (h.clo p' a h4 i n' h1 h2 h3)
  ·rcases hs.clo a ha i n' h1 h2 h3 with h5 | h5
   ·exact h5
   ·cases h5
 ·rw [hn] at hn'
  injection hn' with hn'
  subst hn'
  rw [List.take_add_one,hp] at hp'
  rcases List.mem_append.1 hp' with h1 | h1
  ·exact hs.old _ _ (h.part n hn p' h1)
  ·have e:p'=p:=by
    have:(p':Int)=p:=by simpa using h1
    omega
   subst e
   rcases hs.src with h5 | h5
   ·exact h5
   ·cases h5
theorem LvI.all {ns:List Nd} {wss:List (List Nat)} (h:LvI ns wss ns.length 0) (i p:Nat):hasS wss i p=true↔Live ns p i:=by
 refine ⟨h.sound i p,fun hl=>?_⟩
 generalize hpp:(p:Int)=pp at hl
 induction hl with
 | here h1 hr =>
  subst hpp
  exact h.done _ _ (List.getElem?_eq_some_iff.1 h1).1 h1 p hr
 | next h1 hw hj _ ih =>
  subst hpp
  exact h.clo p _ ih _ _ h1 hw hj
theorem ctz_spec (x:Nat) (h0:x≠0) (h:x<18446744073709551616):∃ m,x=2 ^ Lib.ctz 64 x*(2*m+1)∧Lib.ctz 64 x<64:=by
 unfold Lib.ctz
 rw [if_neg h0]
 exact Lib.ctzFrom_spec 64 x (by omega) h
theorem ctz_bit (x i:Nat) (h0:x≠0) (h:x<18446744073709551616):(i<Lib.ctz 64 x→x.testBit i=false)∧x.testBit (Lib.ctz 64 x)=true:=by
 obtain ⟨m,hm,_⟩:=ctz_spec x h0 h
 refine ⟨fun hi=>?_,?_⟩
 ·rw [hm,Nat.mul_comm,Nat.testBit_mul_two_pow]
  simp
  omega
 ·have g:∀ c,x=2 ^ c*(2*m+1)→x.testBit c=true:=by
   intro c hc
   rw [hc,Nat.mul_comm,Nat.testBit_mul_two_pow]
   simp [Nat.testBit_zero]
  exact g _ hm
theorem low_out (x i:Nat) (h0:x≠0) (h:x<18446744073709551616):(x &&& (x-1)).testBit i=(x.testBit i && decide (i≠Lib.ctz 64 x)):=by
 obtain ⟨m,hm,hc⟩:=ctz_spec x h0 h
 generalize Lib.ctz 64 x=c at hm hc
 have hp:0<2 ^ c:=Nat.pow_pos (by decide)
 have e1:x=2 ^ c*(2*m+1)+0:=by omega
 have e2:x-1=2 ^ c*(2*m)+(2 ^ c-1):=by
  rw [hm,Nat.mul_add]
  omega
 rw [Nat.testBit_and,e2,Nat.testBit_two_pow_mul_add _ (by omega)]
 by_cases hi:i<c
 ·have h1:x.testBit i=false:=by
   rw [hm,Nat.mul_comm,Nat.testBit_mul_two_pow]
   simp
   omega
  simp [h1]
 ·rw [if_neg hi,hm,Nat.mul_comm (2 ^ c),Nat.testBit_mul_two_pow]
  simp only [ge_iff_le,Nat.le_of_not_lt hi,decide_true,Bool.true_and]
  by_cases he:i=c
  ·subst he
   simp [Nat.testBit_zero]
  ·obtain ⟨j,rfl⟩:∃ j,i=c+(j+1):=⟨i-c-1,by omega⟩
   rw [show c+(j+1)-c=j+1 by omega,Nat.testBit_succ,Nat.testBit_succ]
   simp only [he,ne_eq,not_false_eq_true,decide_true,Bool.and_true]
   rw [show (2*m+1) / 2=m by omega,show 2*m / 2=m by omega,Bool.and_self]
theorem low_lt (x:Nat) (h0:x≠0):x &&& (x-1)<x:=by
 have:x &&& (x-1)≤x-1:=Nat.and_le_right
 omega
def bitsL (w t:Nat):List Nat:=(List.range t).filter w.testBit
def RestW (w x t:Nat):Prop:=t≤64∧∀ i,x.testBit i=(decide (t≤i) && w.testBit i)
theorem RestW.start (w:Nat):RestW w w 0:=⟨by omega,fun i=>by simp⟩
theorem filter_range_skip (P:Nat→Bool) (t:Nat):∀ c,t≤c→(∀ i,t≤i→i<c→P i=false)→(List.range c).filter P=(List.range t).filter P
 | 0,h,_=>by rw [show t=0 by omega]
 | c+1,h,hP=>by
  by_cases e:t=c+1
  ·rw [e]
  ·rw [List.range_succ,List.filter_append,filter_range_skip P t c (by omega) (fun i h1 h2=>hP i h1 (by omega))]
   simp [hP c (by omega) (by omega)]
theorem RestW.step {w x t:Nat} (h:RestW w x t) (h0:x≠0) (hx:x<18446744073709551616) :
  RestW w (x &&& (x-1)) (Lib.ctz 64 x+1)∧bitsL w (Lib.ctz 64 x+1)=bitsL w t ++ [Lib.ctz 64 x]:=by
 obtain ⟨_,_,hc⟩:=ctz_spec x h0 hx
 have hb:=ctz_bit x (Lib.ctz 64 x) h0 hx
 have ht:t≤Lib.ctz 64 x:=by
  have h2:=hb.2
  rw [h.2] at h2
  simp at h2
  exact h2.1
 have hwc:w.testBit (Lib.ctz 64 x)=true:=by
  have h2:=hb.2
  rw [h.2] at h2
  simp at h2
  exact h2.2
 have hlow:∀ i,t≤i→i<Lib.ctz 64 x→w.testBit i=false:=by
  intro i h1 h2
  have h3:=(ctz_bit x i h0 hx).1 h2
  rw [h.2] at h3
  simpa [h1] using h3
 refine ⟨⟨by omega,fun i=>?_⟩,?_⟩
 ·rw [low_out x i h0 hx,h.2 i]
  by_cases h1:Lib.ctz 64 x+1≤i
  ·have h2:t≤i:=by omega
   have h3:¬ i=Lib.ctz 64 x:=by omega
   simp [h1,h2,h3]
  ·by_cases h3:i=Lib.ctz 64 x
   ·simp only [h1,decide_false,Bool.false_and]
    simp [h3]
   ·by_cases h2:t≤i
    ·simp [hlow i h2 (by omega),h1]
    ·simp [h2,h1]
 ·unfold bitsL
  rw [List.range_succ,List.filter_append,filter_range_skip _ t _ ht hlow]
  simp [hwc]
theorem RestW.done {w t:Nat} (h:RestW w 0 t) (hw:w<18446744073709551616):bitsL w 64=bitsL w t:=by
 refine filter_range_skip _ t 64 h.1 fun i h1 h2=>?_
 have:=h.2 i
 simpa [h1] using this.symm
theorem RestW.lt {w x t:Nat} (h:RestW w x t) (hw:w<18446744073709551616):x<18446744073709551616:=by
 have h64:w<2 ^ 64:=hw
 refine Nat.lt_pow_two_of_testBit x (n:=64) fun i hi=>?_
 rw [h.2 i]
 have:w.testBit i=false:=Nat.testBit_lt_two_pow (Nat.lt_of_lt_of_le h64 (Nat.pow_le_pow_right (by decide) hi))
 simp [this]
def listK (ws:List Nat) (k:Nat):List Int:=((List.range (64*k)).filter (hasW ws)).map fun (j:Nat)=>(j:Int)
theorem listK_succ (ws:List Nat) (k:Nat):listK ws (k+1)=listK ws k ++ (bitsL (ws.getD k 0) 64).map fun (c:Nat)=>((64*k+c:Nat):Int):=by
 unfold listK bitsL
 rw [show 64*(k+1)=64*k+64 by omega,List.range_add,List.filter_append,List.map_append,List.filter_map,List.map_map]
 congr 1
 have:(List.range 64).filter (hasW ws ∘ fun x=>64*k+x)=(List.range 64).filter (ws.getD k 0).testBit:=by
  refine List.filter_congr fun c hc=>?_
  have hc':c<64:=List.mem_range.1 hc
  show hasW ws (64*k+c)=_
  unfold hasW
  rw [show (64*k+c) / 64=k by omega,show (64*k+c) % 64=c by omega]
 rw [this]
 rfl
theorem listK_all {ws:List Nat} {q m:Nat} (hq:m≤64*q) (hm:∀ j,hasW ws j=true→j<m):listK ws q=((List.range m).filter (hasW ws)).map fun (j:Nat)=>(j:Int):=by
 unfold listK
 rw [filter_range_skip _ m (64*q) hq fun i h1 _=>by
  rcases e:hasW ws i with _ | _
  ·rfl
  ·have:=hm i e;omega]
theorem listK_len (ws:List Nat) (k:Nat):(listK ws k).length≤64*k:=by
 unfold listK
 rw [List.length_map]
 have:=List.length_filter_le (hasW ws) (List.range (64*k))
 simpa using this
theorem bitsL_len (w t:Nat):(bitsL w t).length≤t:=by
 have:=List.length_filter_le w.testBit (List.range t)
 simpa [bitsL] using this
def orK (ws vs:List Nat) (k:Nat):List Nat:=(List.range ws.length).map fun i=>if i<k then ws.getD i 0 ||| vs.getD i 0 else ws.getD i 0
theorem orK_len (ws vs:List Nat) (k:Nat):(orK ws vs k).length=ws.length:=by simp [orK]
theorem orK_at (ws vs:List Nat) (k i:Nat):(orK ws vs k).getD i 0=if i<ws.length∧i<k then ws.getD i 0 ||| vs.getD i 0 else ws.getD i 0:=by
 unfold orK
 rw [List.getD_eq_getElem?_getD,List.getElem?_map]
 by_cases h:i<ws.length
 ·rw [List.getElem?_range h]
  simp [h]
 ·rw [List.getElem?_eq_none (by simp;omega)]
  have:ws[i]?=none:=List.getElem?_eq_none (by omega)
  simp [h,this]
theorem orK_zero (ws vs:List Nat):orK ws vs 0=ws:=by
 apply List.ext_getElem?
 intro i
 unfold orK
 rw [List.getElem?_map]
 by_cases h:i<ws.length
 ·simp [h]
 ·simp [h]
theorem orK_succ (ws vs:List Nat) (k:Nat) (hk:k<ws.length):orK ws vs (k+1)=(orK ws vs k).set k (ws.getD k 0 ||| vs.getD k 0):=by
 apply List.ext_getElem?
 intro i
 rw [List.getElem?_set]
 unfold orK
 rw [List.getElem?_map,List.getElem?_map,List.length_map,List.length_range]
 by_cases h:i<ws.length
 ·by_cases e:k=i
  ·subst e
   simp [h]
  ·have h1:i<k+1↔i<k:=by omega
   simp [h,e,h1]
 ·have:¬ k=i:=by omega
  simp [h,this]
theorem orK_has {ws vs:List Nat} {q:Nat} (h1:ws.length=q) (h2:vs.length=q) (j:Nat):hasW (orK ws vs q) j=(hasW ws j || hasW vs j):=by
 unfold hasW
 rw [orK_at]
 by_cases h:j / 64<q
 ·rw [if_pos ⟨by omega,h⟩,Nat.testBit_or]
 ·rw [if_neg (fun hh=>h hh.2)]
  have:vs.getD (j / 64) 0=0:=by
   rw [List.getD_eq_getElem?_getD,List.getElem?_eq_none (by omega)]
   rfl
  rw [this]
  simp
theorem orK_lt {ws vs:List Nat} (h1:∀ x ∈ ws,x<18446744073709551616) (h2:∀ x ∈ vs,x<18446744073709551616) (k:Nat):∀ x ∈ orK ws vs k,x<18446744073709551616:=by
 have g:∀ (l:List Nat),(∀ x ∈ l,x<18446744073709551616)→∀ i,l.getD i 0<2 ^ 64:=by
  intro l hl i
  rw [List.getD_eq_getElem?_getD]
  rcases e:l[i]? with _ | y
  ·simp
  ·simpa using hl y (List.mem_of_getElem? e)
 intro x hx
 obtain ⟨i,_,rfl⟩:=List.mem_map.1 hx
 show (if i<k then _ else _)<2 ^ 64
 split
 ·exact Nat.or_lt_two_pow (g ws h1 i) (g vs h2 i)
 ·exact g ws h1 i
theorem or_added (x t s:Nat) (hx:x<18446744073709551616) (ht:t<18446744073709551616) (hs:∀ i,t.testBit i=true→i<s) (hs64:s≤64) :
  x ||| ((t &&& (18446744073709551615-x)) &&& (2 ^ s-1))=x ||| t:=by
 apply Nat.eq_of_testBit_eq
 intro i
 have e:18446744073709551615-x=2 ^ 64-(x+1):=by omega
 rw [Nat.testBit_or,Nat.testBit_or,Nat.testBit_and,Nat.testBit_and,Nat.testBit_two_pow_sub_one,e,Nat.testBit_two_pow_sub_succ (by omega)]
 rcases ht':t.testBit i with _ | _
 ·simp
 ·have h1:=hs i ht'
  have h2:i<64:=by omega
  simp [h1,h2]
end Go.Proofs.YtepkogfiojkcpaaDoor
