/-
  Texts of one seat, one behind the other: QLang, QKMath, Lang, BMach.
-/
import Derived.Test.YtgekmjkfnhogkaaRows

set_option linter.unusedVariables false
set_option linter.unusedSimpArgs false
set_option maxRecDepth 100000
set_option maxHeartbeats 51200000
namespace Go.Proofs.Ytgekmjkfnhogkaa.Q
structure Ins where
 op:Int
 arg:Int
 imm:Int
structure Fn where
 params:Int
 locals:List Int
 result:Bool
 keep:Int
 code:List Ins
instance:DecidableEq Ins:=fun a b=>decidable_of_iff (a.op=b.op∧a.arg=b.arg∧a.imm=b.imm) ⟨fun ⟨h1,h2,h3⟩=>by cases a;cases b;simp_all,fun h=>by subst h;exact ⟨rfl,rfl,rfl⟩⟩
instance:DecidableEq Fn:=fun a b=>decidable_of_iff (a.params=b.params∧a.locals=b.locals∧a.result=b.result∧a.keep=b.keep∧a.code=b.code) ⟨fun ⟨h1,h2,h3,h4,h5⟩=>by cases a;cases b;simp_all,fun h=>by subst h;exact ⟨rfl,rfl,rfl,rfl,rfl⟩⟩
def le:Nat→Int→List Int
 | 0,_=>[]
 | n+1,v=>v % 256 :: le n (v / 256)
def Byt (l:List Int):Prop:=∀ x ∈ l,0≤x∧x≤255
theorem Byt.nil:Byt []:=fun _ h=>by cases h
theorem Byt.cons {x:Int} {l:List Int} (h0:0≤x) (h1:x≤255) (h:Byt l):Byt (x :: l):=fun y hy=>by
 rcases List.mem_cons.1 hy with rfl | hy
 ·exact ⟨h0,h1⟩
 ·exact h y hy
theorem Byt.app {a b:List Int} (ha:Byt a) (hb:Byt b):Byt (a ++ b):=fun y hy=>by
 rcases List.mem_append.1 hy with hy | hy
 ·exact ha y hy
 ·exact hb y hy
theorem Byt.drop {l:List Int} (h:Byt l) (k:Nat):Byt (l.drop k):=fun y hy=>h y (List.mem_of_mem_drop hy)
theorem Byt.take {l:List Int} (h:Byt l) (k:Nat):Byt (l.take k):=fun y hy=>h y (List.mem_of_mem_take hy)
theorem length_le (n:Nat) (v:Int):(le n v).length=n:=by
 induction n generalizing v with
 | zero=>rfl
 | succ n ih=>simp [le,ih]
theorem le_one {v:Int} (h0:0≤v) (h:v≤255):le 1 v=[v]:=by simp [le];omega
theorem le_snoc (n:Nat) (v:Int):le (n+1) v=le n v ++ [v / 256 ^ n % 256]:=by
 induction n generalizing v with
 | zero=>simp [le]
 | succ n ih =>
  rw [le,ih (v / 256)]
  simp only [le,List.cons_append]
  rw [show v / 256 / 256 ^ n=v / 256 ^ (n+1) by rw [Int.ediv_ediv_of_nonneg (by omega),show (256:Int) ^ (n+1)=256*256 ^ n by rw [Int.pow_succ,Int.mul_comm]]]
def argW (op:Int):Nat:=if op=2∨op=3∨op=4∨op=23∨op=25 then 1 else if op=21∨op=22 then 2 else 0
def immW (op:Int):Nat:=if op=1 then 8 else 0
def opB (op:Int):Bool:=decide (1≤op∧op≤32)
def kindB (k:Int):Bool:=decide (k=0∨k=1)
def fitB (n:Nat) (v:Int):Bool:=decide (0≤v∧v<256 ^ n)
theorem argW_le (op:Int):argW op≤2:=by unfold argW;split <;> (try split) <;> omega
theorem immW_le (op:Int):immW op≤8:=by unfold immW;split <;> omega
def okI (i:Ins):Bool:=opB i.op && fitB (argW i.op) i.arg && fitB (immW i.op) i.imm
def okF (f:Fn):Bool:=decide (f.locals.length≤255) && decide (f.code.length≤65535) && decide (0≤f.params) && decide (f.params≤f.locals.length) && decide (-1≤f.keep) && decide (f.keep≤254) && f.locals.all kindB && f.code.all okI
def okP (fs:List Fn):Bool:=decide (0<fs.length) && decide (fs.length≤255) && fs.all okF
def encI (i:Ins):List Int:=i.op :: (le (argW i.op) i.arg ++ le (immW i.op) i.imm)
def keepByte (k:Int):Int:=if k=-1 then 255 else k
def encF (f:Fn):List Int:=f.params :: (f.locals.length:Int) :: (f.locals ++ ((if f.result then 1 else 0) :: keepByte f.keep :: (le 2 f.code.length ++ f.code.flatMap encI)))
def enc (fs:List Fn):List Int:=87 :: 76 :: (fs.length:Int) :: fs.flatMap encF
def bndF (f:Fn):Bool:=decide (f.params≤4) && decide (f.locals.length≤16) && decide (f.code.length≤256)
def bnd (fs:List Fn):Bool:=decide (fs.length≤16) && fs.all bndF
abbrev St:=Option (List Int)
def need (c:Bool) (s:St):St:=if c then s else none
/-! what is written is read again -/
theorem okI_iff {i:Ins}:okI i=true↔opB i.op=true∧fitB (argW i.op) i.arg=true∧fitB (immW i.op) i.imm=true:=by simp [okI,and_assoc]
theorem fitB_iff {n:Nat} {v:Int}:fitB n v=true↔0≤v∧v<256 ^ n:=by simp [fitB]
theorem opB_iff {v:Int}:opB v=true↔1≤v∧v≤32:=by simp [opB]
theorem kindB_iff {v:Int}:kindB v=true↔v=0∨v=1:=by simp [kindB]
theorem okF_iff {f:Fn}:okF f=true↔f.locals.length≤255∧f.code.length≤65535∧0≤f.params∧f.params≤f.locals.length∧-1≤f.keep∧f.keep≤254∧(∀ k ∈ f.locals,kindB k=true)∧(∀ i ∈ f.code,okI i=true):=by
 simp [okF,and_assoc]
theorem okP_iff {fs:List Fn}:okP fs=true↔0<fs.length∧fs.length≤255∧∀ f ∈ fs,okF f=true:=by simp [okP,and_assoc]
/-! what is read is what was written -/
abbrev Stk:=List Int
def resOf (f:Fn):Stk:=if f.result then [0] else []
def locK (f:Fn) (i:Ins):Int:=f.locals.getD i.arg.toNat 0
def parK (fs:List Fn) (i:Ins):Stk:=match fs[i.arg.toNat]? with
 | some g=>g.locals.take g.params.toNat
 | none=>[]
def resK (fs:List Fn) (i:Ins):Stk:=match fs[i.arg.toNat]? with
 | some g=>resOf g
 | none=>[]
def takesK (fs:List Fn) (f:Fn) (i:Ins) (top:Int):Stk :=
 if i.op=3 then [locK f i] else if i.op=5 then [1] else if i.op=6 then [1,0]
 else if i.op=22∨i.op=26∨i.op=29∨i.op=30 then [0]
 else if i.op=23∨i.op=25 then parK fs i
 else if i.op=24 then resOf f
 else if i.op=31∨i.op=32 then [top]
 else if 7≤i.op∧i.op≤20 then [0,0] else []
def leavesK (fs:List Fn) (f:Fn) (i:Ins) (top:Int):Stk :=
 if i.op=1∨i.op=28∨i.op=5 then [0]
 else if i.op=2 then [locK f i] else if i.op=4 then [1]
 else if i.op=23 then resK fs i else if i.op=27 then [0,0] else if i.op=32 then [top,top]
 else if 7≤i.op∧i.op≤20 then [0] else []
def topK (s:Stk):Int:=s.getLast?.getD 0
def afterK (fs:List Fn) (f:Fn) (i:Ins) (s:Stk):Option Stk :=
 if (takesK fs f i (topK s)).length≤s.length∧s.drop (s.length-(takesK fs f i (topK s)).length)=takesK fs f i (topK s)∧¬(i.op=24∧(takesK fs f i (topK s)).length<s.length)
 then some (s.take (s.length-(takesK fs f i (topK s)).length) ++ leavesK fs f i (topK s)) else none
def succK (a:Nat) (i:Ins):List Nat :=
 if i.op=21 then [i.arg.toNat] else if i.op=22 then [a+1,i.arg.toNat] else if i.op=24∨i.op=26∨i.op=30 then [] else [a+1]

theorem resOf_len (f:Fn):(resOf f).length≤1:=by unfold resOf;split <;> simp
theorem leavesK_len (fs:List Fn) (f:Fn) (i:Ins) (t:Int):(leavesK fs f i t).length≤2:=by
 unfold leavesK
 split
 ·simp
 split
 ·simp
 split
 ·simp
 split
 ·unfold resK;split
  ·have:=resOf_len ‹_›;omega
  ·simp
 split
 ·simp
 split
 ·simp
 split <;> simp
theorem afterK_len {fs:List Fn} {f:Fn} {i:Ins} {s s':Stk} (h:afterK fs f i s=some s'):s'.length≤s.length+2:=by
 unfold afterK at h
 split at h
 ·injection h with h
  rw [← h,List.length_append,List.length_take]
  have:=leavesK_len fs f i (topK s)
  omega
 ·cases h
theorem succK_len (a:Nat) (i:Ins):(succK a i).length≤2:=by
 unfold succK
 split
 ·simp
 split
 ·simp
 split <;> simp

inductive Reach (fs:List Fn) (f:Fn):Nat→Stk→Prop where
 | base:Reach fs f 0 []
 | step {a:Nat} {s:Stk} {i:Ins} {s':Stk} {b:Nat}:Reach fs f a s→f.code[a]?=some i→afterK fs f i s=some s'→b ∈ succK a i→Reach fs f b s'
def Fine (fs:List Fn) (f:Fn):Prop:=∀ a s,Reach fs f a s→(∃ i s',f.code[a]?=some i∧afterK fs f i s=some s')∧∀ s2,Reach fs f a s2→s2=s
def cnt (l:List (Option Stk)):Nat:=l.countP Option.isNone
structure Inv (fs:List Fn) (f:Fn) (l:List (Option Stk)) (o:List Nat):Prop where
 len:l.length=f.code.length
 zero:l[0]?=some (some [])
 sound:∀ (a:Nat) s,l[a]?=some (some s)→Reach fs f a s
 opened:∀ a ∈ o,∃ s,l[a]?=some (some s)
 closed:∀ (a:Nat) s,l[a]?=some (some s)→a ∉ o→∃ i s',f.code[a]?=some i∧afterK fs f i s=some s'∧∀ b ∈ succK a i,l[b]?=some (some s')
 short:∀ (a:Nat) s,l[a]?=some (some s)→s.length+2+2*cnt l≤2*l.length
structure Sol (fs:List Fn) (f:Fn) (l:List (Option Stk)):Prop where
 len:l.length=f.code.length
 fine:Fine fs f
 iff:∀ (a:Nat) s,l[a]?=some (some s)↔Reach fs f a s

section
variable {fs:List Fn} {f:Fn} {l l':List (Option Stk)} {o o':List Nat} {a b:Nat} {s s':Stk} {i:Ins}
theorem cnt_set (hb:l[b]?=some none) (s:Stk):cnt (l.set b (some s))+1=cnt l:=by
 obtain ⟨hlt,he⟩:=List.getElem?_eq_some_iff.1 hb
 have hp:0<l.countP Option.isNone:=List.countP_pos_iff.2 ⟨none,List.mem_of_getElem? hb,rfl⟩
 unfold cnt
 rw [List.countP_set hlt,he]
 simp
 omega
theorem cnt_le (l:List (Option Stk)):cnt l≤l.length:=List.countP_le_length
theorem not_fine_code (h:Reach fs f a s) (hc:f.code[a]?=none):¬ Fine fs f:=fun hf=>by
 obtain ⟨⟨i,_,hi,_⟩,_⟩:=hf a s h
 rw [hc] at hi
 cases hi
theorem not_fine_after (h:Reach fs f a s) (hc:f.code[a]?=some i) (hn:afterK fs f i s=none):¬ Fine fs f:=fun hf=>by
 obtain ⟨⟨j,_,hj,hs⟩,_⟩:=hf a s h
 rw [hc] at hj
 injection hj with hj
 subst hj
 rw [hn] at hs
 cases hs
theorem not_fine_two {s2:Stk} (h:Reach fs f a s) (h2:Reach fs f a s2) (hn:s≠s2):¬ Fine fs f:=fun hf=>hn ((hf a s2 h2).2 s h)
theorem Inv.start (hc:0<f.code.length):Inv fs f ((List.replicate f.code.length none).set 0 (some [])) [0]:=by
 have h0:(List.replicate f.code.length (none:Option Stk))[0]?=some none:=by rw [List.getElem?_replicate];simp [hc]
 have hat:∀ (a:Nat) s,((List.replicate f.code.length none).set 0 (some ([]:Stk)))[a]?=some (some s)→a=0∧s=[]:=by
  intro a s h
  rw [List.getElem?_set] at h
  split at h
  ·subst_vars
   split at h
   ·simp at h;exact ⟨rfl,h⟩
   ·cases h
  ·rw [List.getElem?_replicate] at h
   split at h <;> simp at h
 refine ⟨by simp,by rw [List.getElem?_set];simp [hc],fun a s h=>?_,fun a ha=>?_,fun a s h hn=>?_,fun a s h=>?_⟩
 ·obtain ⟨rfl,rfl⟩:=hat a s h
  exact .base
 ·obtain rfl:a=0:=by simpa using ha
  exact ⟨[],by rw [List.getElem?_set];simp [hc]⟩
 ·obtain ⟨rfl,rfl⟩:=hat a s h
  simp at hn
 ·obtain ⟨rfl,rfl⟩:=hat a s h
  have h1:=cnt_set h0 ([]:Stk)
  have h2:=cnt_le (List.replicate f.code.length (none:Option Stk))
  simp at h2 ⊢
  omega
theorem Inv.reach (h:Inv fs f l o) (hb:l[b]?=some none) (hr:Reach fs f b s) (hs:s.length+2*cnt l≤2*l.length):Inv fs f (l.set b (some s)) (o ++ [b]):=by
 obtain ⟨hlt,he⟩:=List.getElem?_eq_some_iff.1 hb
 have hcs:=cnt_set hb s
 have hsame:∀ a,a≠b→(l.set b (some s))[a]?=l[a]?:=fun a ha=>List.getElem?_set_ne (Ne.symm ha)
 have hself:(l.set b (some s))[b]?=some (some s):=by rw [List.getElem?_set];simp [hlt]
 have hkeep:∀ (a:Nat) t,l[a]?=some (some t)→(l.set b (some s))[a]?=some (some t):=fun a t ht=>by
  rw [hsame a (by rintro rfl;rw [hb] at ht;cases ht)];exact ht
 refine ⟨by rw [List.length_set];exact h.len,hkeep _ _ h.zero,fun a t ht=>?_,fun a ha=>?_,fun a t ht hn=>?_,fun a t ht=>?_⟩
 ·by_cases hab:a=b
  ·subst hab;rw [hself] at ht;injection ht with ht;injection ht with ht;subst ht;exact hr
  ·rw [hsame a hab] at ht;exact h.sound a t ht
 ·rcases List.mem_append.1 ha with ha | ha
  ·obtain ⟨t,ht⟩:=h.opened a ha;exact ⟨t,hkeep _ _ ht⟩
  ·obtain rfl:a=b:=by simpa using ha
   exact ⟨s,hself⟩
 ·simp only [List.mem_append,List.mem_singleton,not_or] at hn
  rw [hsame a hn.2] at ht
  obtain ⟨i,t',h1,h2,h3⟩:=h.closed a t ht hn.1
  exact ⟨i,t',h1,h2,fun c hc=>hkeep _ _ (h3 c hc)⟩
 ·rw [List.length_set]
  by_cases hab:a=b
  ·subst hab;rw [hself] at ht;injection ht with ht;injection ht with ht;subst ht;omega
  ·rw [hsame a hab] at ht;have:=h.short a t ht;omega
theorem Inv.more (h:Inv fs f l o) (hs:∀ x ∈ o,x ∈ o') (ho:∀ x ∈ o',∃ s,l[x]?=some (some s)):Inv fs f l o' :=
 ⟨h.len,h.zero,h.sound,ho,fun a s ha hn=>h.closed a s ha fun hx=>hn (hs a hx),h.short⟩
theorem Inv.close (h:Inv fs f l (a :: o)) (ha:l[a]?=some (some s)) (hc:f.code[a]?=some i) (hs:afterK fs f i s=some s') (hb:∀ b ∈ succK a i,l[b]?=some (some s')):Inv fs f l o :=
 ⟨h.len,h.zero,h.sound,fun x hx=>h.opened x (by simp [hx]),fun x t ht hn=>by
  by_cases hxa:x=a
  ·subst hxa;rw [ha] at ht;injection ht with ht;injection ht with ht;subst ht;exact ⟨i,s',hc,hs,hb⟩
  ·exact h.closed x t ht (by simp [hxa,hn]),h.short⟩
theorem Inv.sol (h:Inv fs f l []):Sol fs f l:=by
 have hall:∀ a s,Reach fs f a s→l[a]?=some (some s):=by
  intro a s hr
  induction hr with
  | base=>exact h.zero
  | step _ hc hs hb ih =>
   obtain ⟨i,s',h1,h2,h3⟩:=h.closed _ _ ih (by simp)
   rw [hc] at h1
   injection h1 with h1
   subst h1
   rw [hs] at h2
   injection h2 with h2
   subst h2
   exact h3 _ hb
 refine ⟨h.len,fun a s hr=>⟨?_,fun s2 hr2=>?_⟩,fun a s=>⟨h.sound a s,hall a s⟩⟩
 ·obtain ⟨i,s',h1,h2,_⟩:=h.closed a s (hall a s hr) (by simp)
  exact ⟨i,s',h1,h2⟩
 ·have h1:=hall a s hr
  rw [hall a s2 hr2] at h1
  injection h1 with h1
  injection h1 with h1
theorem Inv.step (h:Inv fs f l o) (ha:l[a]?=some (some s)) (hc:f.code[a]?=some i) (hs:afterK fs f i s=some s') (hb:b ∈ succK a i):Reach fs f b s':=.step (h.sound a s ha) hc hs hb
theorem Sol.eq_ (h:Sol fs f l) (h':Sol fs f l'):l=l':=by
 refine List.ext_getElem? fun a=>?_
 have key:∀ {m m':List (Option Stk)},Sol fs f m→Sol fs f m'→∀ x,m[a]?=some x→m'[a]?=some x:=by
  intro m m' k k' x hx
  cases x with
  | some s=>exact (k'.iff a s).2 ((k.iff a s).1 hx)
  | none =>
   obtain ⟨hlt,_⟩:=List.getElem?_eq_some_iff.1 hx
   have hlt':a<m'.length:=by rw [k'.len,← k.len];exact hlt
   cases hm:m'[a] with
   | none=>rw [List.getElem?_eq_getElem hlt',hm]
   | some s =>
    have h1:=(k.iff a s).2 ((k'.iff a s).1 (by rw [List.getElem?_eq_getElem hlt',hm]))
    rw [hx] at h1
    cases h1
 cases hx:l[a]? with
 | some x=>exact (key h h' x hx).symm
 | none =>
  cases hy:l'[a]? with
  | none=>rfl
  | some y=>rw [key h' h y hy] at hx;cases hx
theorem Sol.zero (h:Sol fs f l):l[0]?=some (some []):=(h.iff 0 []).2 .base
theorem Sol.next (h:Sol fs f l) (ha:l[a]?=some (some s)) (hc:f.code[a]?=some i):∃ s',afterK fs f i s=some s'∧∀ b ∈ succK a i,l[b]?=some (some s'):=by
 have hr:=(h.iff a s).1 ha
 obtain ⟨⟨j,s',hj,hs⟩,_⟩:=h.fine a s hr
 rw [hc] at hj
 injection hj with hj
 subst hj
 exact ⟨s',hs,fun b hb=>(h.iff b s').2 (.step hr hc hs hb)⟩
end
def deepO (x:Option Stk):Bool:=match x with
 | some s=>decide (16<s.length)
 | none=>false
def Deep (fs:List Fn):Prop:=∃ f ∈ fs,∃ a s,Reach fs f a s∧16<s.length
/-! the rules that ask nothing of a stack -/
def numL (f:Fn) (x:Int):Bool:=decide (x<f.locals.length) && decide (f.locals.getD x.toNat 0=0)
def hasDef (f:Fn):Bool:=f.code.any fun i=>decide (i.op=25)
def keepsB (f:Fn):Bool:=if f.keep=-1 then !f.result || !hasDef f else numL f f.keep
def insRef (fs:List Fn) (f:Fn) (i:Ins):Bool :=
 if i.op=2∨i.op=3 then decide (i.arg<f.locals.length)
 else if i.op=4 then numL f i.arg
 else if i.op=21∨i.op=22 then decide (i.arg<f.code.length)
 else if i.op=23∨i.op=25 then decide (i.arg<fs.length) else true
def fnRef (fs:List Fn) (f:Fn):Bool:=keepsB f && f.code.all (insRef fs f)
def mainB (fs:List Fn):Bool:=match fs with
 | m :: _=>decide (m.params≤0) && !m.result
 | []=>true
def refB (fs:List Fn):Bool:=mainB fs && fs.all (fnRef fs)
open Classical in
noncomputable def verd (fs:List Fn):Int :=
 if okP fs=false then 30 else if bnd fs=false then 31 else if refB fs=false then 50 else if ¬ ∀ f ∈ fs,Fine fs f then 50 else if Deep fs then 31 else 0
def Sols (fs gs:List Fn) (ls:List (List (Option Stk))):Prop:=ls.length=gs.length∧∀ (k:Nat) f,gs[k]?=some f→∃ l,ls[k]?=some l∧Sol fs f l
section
variable {fs:List Fn}
theorem verd_form (h:okP fs=false):verd fs=30:=by unfold verd;rw [if_pos h]
theorem verd_big (h:okP fs=true) (hb:bnd fs=false):verd fs=31:=by unfold verd;rw [if_neg (by simp [h]),if_pos hb]
theorem verd_ref (h:okP fs=true) (hb:bnd fs=true) (hr:refB fs=false):verd fs=50:=by unfold verd;rw [if_neg (by simp [h]),if_neg (by simp [hb]),if_pos hr]
theorem verd_fine (h:okP fs=true) (hb:bnd fs=true) (hr:refB fs=true) {f:Fn} (hf:f ∈ fs) (hn:¬ Fine fs f):verd fs=50:=by
 unfold verd;rw [if_neg (by simp [h]),if_neg (by simp [hb]),if_neg (by simp [hr]),if_pos fun hall=>hn (hall f hf)]
theorem Sols.fine {ls:List (List (Option Stk))} (h:Sols fs fs ls):∀ f ∈ fs,Fine fs f:=fun f hf=>by
 obtain ⟨k,hk,he⟩:=List.getElem_of_mem hf
 obtain ⟨l,_,hl⟩:=h.2 k f (by rw [List.getElem?_eq_getElem hk,he])
 exact hl.fine
theorem Sols.deep {ls:List (List (Option Stk))} (h:Sols fs fs ls):Deep fs↔ls.any (fun l=>l.any deepO)=true:=by
 constructor
 ·rintro ⟨f,hf,a,s,hr,hs⟩
  obtain ⟨k,hk,he⟩:=List.getElem_of_mem hf
  obtain ⟨l,hl,hS⟩:=h.2 k f (by rw [List.getElem?_eq_getElem hk,he])
  exact List.any_eq_true.2 ⟨l,List.mem_of_getElem? hl,List.any_eq_true.2 ⟨some s,List.mem_of_getElem? ((hS.iff a s).2 hr),by simp [deepO,hs]⟩⟩
 ·intro hd
  obtain ⟨l,hl,hd⟩:=List.any_eq_true.1 hd
  obtain ⟨x,hx,hd⟩:=List.any_eq_true.1 hd
  obtain ⟨k,hk,he⟩:=List.getElem_of_mem hl
  have hk':k<fs.length:=by rw [← h.1];exact hk
  obtain ⟨l',hl',hS⟩:=h.2 k fs[k] (List.getElem?_eq_getElem hk')
  rw [List.getElem?_eq_getElem hk,he] at hl'
  injection hl' with hl'
  subst hl'
  obtain ⟨a,ha,hxa⟩:=List.getElem_of_mem hx
  cases x with
  | none=>cases hd
  | some s=>exact ⟨fs[k],List.getElem_mem hk',a,s,(hS.iff a s).1 (by rw [List.getElem?_eq_getElem ha,hxa]),by simpa [deepO] using hd⟩
theorem verd_deep (h:okP fs=true) (hb:bnd fs=true) (hr:refB fs=true) {ls:List (List (Option Stk))} (hs:Sols fs fs ls) (hd:ls.any (fun l=>l.any deepO)=true):verd fs=31:=by
 unfold verd;rw [if_neg (by simp [h]),if_neg (by simp [hb]),if_neg (by simp [hr]),if_neg (fun hn=>hn hs.fine),if_pos (hs.deep.2 hd)]
theorem verd_ok (h:okP fs=true) (hb:bnd fs=true) (hr:refB fs=true) {ls:List (List (Option Stk))} (hs:Sols fs fs ls) (hd:ls.any (fun l=>l.any deepO)=false):verd fs=0:=by
 unfold verd;rw [if_neg (by simp [h]),if_neg (by simp [hb]),if_neg (by simp [hr]),if_neg (fun hn=>hn hs.fine),if_neg (fun hn=>by rw [hs.deep.1 hn] at hd;cases hd)]
end
end Go.Proofs.Ytgekmjkfnhogkaa.Q
namespace Go.Proofs.Ytgekmjkfnhogkaa
structure Nd where
 op:Int
 bop:Int
 d:Int
 e:Int
 a:Int
 b:Int
 f:Int
 cell:Int
 imm:Int
 args:List Int
 next:Int
 els:Int
structure Gr where
 params:List Int
 kinds:List Int
 cells:Int
 init:List Int
 result:Bool
 keep:Int
 nodes:List Nd
 entry:Int
instance:DecidableEq Nd:=fun x y=>decidable_of_iff (x.op=y.op∧x.bop=y.bop∧x.d=y.d∧x.e=y.e∧x.a=y.a∧x.b=y.b∧x.f=y.f∧x.cell=y.cell∧x.imm=y.imm∧x.args=y.args∧x.next=y.next∧x.els=y.els)
 ⟨fun h=>by cases x;cases y;simp only [Nd.mk.injEq];exact h,fun h=>by subst h;exact ⟨rfl,rfl,rfl,rfl,rfl,rfl,rfl,rfl,rfl,rfl,rfl,rfl⟩⟩
instance:DecidableEq Gr:=fun x y=>decidable_of_iff (x.params=y.params∧x.kinds=y.kinds∧x.cells=y.cells∧x.init=y.init∧x.result=y.result∧x.keep=y.keep∧x.nodes=y.nodes∧x.entry=y.entry)
 ⟨fun h=>by cases x;cases y;simp only [Gr.mk.injEq];exact h,fun h=>by subst h;exact ⟨rfl,rfl,rfl,rfl,rfl,rfl,rfl,rfl⟩⟩

def Byt (l:List Int):Prop:=∀ x ∈ l,0≤x∧x≤255
theorem Byt.nil:Byt []:=fun _ h=>by cases h
def nextsOf (n:Nd):List Int :=
 if n.op<1∨18<n.op∨n.op=12∨n.op=14∨n.op=18 then []
 else if n.op=9∧n.els≠n.next then [n.next,n.els] else [n.next]
def isOne (i n:Int):Prop:=0≤i∧i<n
instance (i n:Int):Decidable (isOne i n):=inferInstanceAs (Decidable (_∧_))
def kindAt (ks:List Int) (p:Int):Int:=ks.getD p.toNat 0
def fits (ks:List Int) (bd:Bool) (p k:Int):Prop:=isOne p ks.length∧(bd=true∨kindAt ks p=k)
instance (ks:List Int) (bd:Bool) (p k:Int):Decidable (fits ks bd p k):=inferInstanceAs (Decidable (_∧_))
def inOrder (l:List Int):Prop:=∀ i,i<l.length→l.getD i 0=i
instance (l:List Int):Decidable (inOrder l):=inferInstanceAs (Decidable (∀ i,i<l.length→l.getD i 0=(i:Int)))
def kindsHold (ks:List Int) (bd:Bool):Prop:=ks.length≤1024∧(bd=true→16≤ks.length)∧∀ k ∈ ks,k=0∨k=1
instance (ks:List Int) (bd:Bool):Decidable (kindsHold ks bd):=inferInstanceAs (Decidable (_∧_∧_))
def paramsHold (ps ks:List Int) (bd:Bool):Prop:=ps.length≤4∧if bd=true then inOrder ps else ∀ i,i<ps.length→isOne (ps.getD i 0) ks.length∧ps.getD i 0 ∉ ps.take i
instance (ps ks:List Int) (bd:Bool):Decidable (paramsHold ps ks bd):=inferInstanceAs (Decidable (_∧_))
def initHolds (ps ks is:List Int) (cells:Int) (bd:Bool):Prop:=is.length=ps.length∧∀ i,i<is.length→is.getD i 0=-1∨isOne (is.getD i 0) cells∧(bd=true∨kindAt ks (ps.getD i 0)=0)
instance (ps ks is:List Int) (cells:Int) (bd:Bool):Decidable (initHolds ps ks is cells bd):=inferInstanceAs (Decidable (_∧_))
def headHolds (g:Gr) (bd:Bool):Prop:=kindsHold g.kinds bd∧0≤g.cells∧g.cells≤64∧paramsHold g.params g.kinds bd∧initHolds g.params g.kinds g.init g.cells bd∧(g.keep=-1∨isOne g.keep g.cells)∧g.nodes.length≤4096∧isOne g.entry g.nodes.length
instance (g:Gr) (bd:Bool):Decidable (headHolds g bd):=inferInstanceAs (Decidable (_∧_∧_∧_∧_∧_∧_∧_))
def grAt (gs:List Gr) (k:Int):Gr:=gs.getD k.toNat ⟨[],[],0,[],false,0,[],0⟩
def hands (gs:List Gr) (g:Gr) (bd:Bool) (f:Int) (xs:List Int):Prop :=
 isOne f gs.length∧xs.length=(grAt gs f).params.length∧if bd=true then inOrder xs else ∀ i,i<xs.length→fits g.kinds false (xs.getD i 0) (kindAt (grAt gs f).kinds ((grAt gs f).params.getD i 0))
instance (gs:List Gr) (g:Gr) (bd:Bool) (f:Int) (xs:List Int):Decidable (hands gs g bd f xs):=inferInstanceAs (Decidable (_∧_∧_))
def gets (gs:List Gr) (g:Gr) (bd:Bool) (f d:Int):Prop:=d=-1∨(grAt gs f).result=true∧fits g.kinds bd d 0∧(bd=false∨d=0)
instance (gs:List Gr) (g:Gr) (bd:Bool) (f d:Int):Decidable (gets gs g bd f d):=inferInstanceAs (Decidable (_∨_∧_∧_))
def uses (gs:List Gr) (g:Gr) (bd:Bool) (n:Nd):Prop :=
 if n.op=1∨n.op=16 then fits g.kinds bd n.d 0
 else if n.op=2 then isOne n.a g.kinds.length∧fits g.kinds bd n.d (kindAt g.kinds n.a)
 else if n.op=3 then (7≤n.bop∧n.bop≤20)∧fits g.kinds bd n.d 0∧fits g.kinds bd n.a 0∧fits g.kinds bd n.b 0
 else if n.op=4 then isOne n.cell g.cells∧fits g.kinds bd n.d 0
 else if n.op=5 then isOne n.cell g.cells∧fits g.kinds bd n.a 0
 else if n.op=6 then isOne n.cell g.cells∧fits g.kinds bd n.d 1
 else if n.op=7 then fits g.kinds bd n.d 0∧fits g.kinds bd n.a 1
 else if n.op=8 then fits g.kinds bd n.a 1∧fits g.kinds bd n.b 0
 else if n.op=9∨n.op=14∨n.op=18∨n.op=17 then fits g.kinds bd n.a 0
 else if n.op=10 then True
 else if n.op=11 then hands gs g bd n.f n.args∧gets gs g bd n.f n.d
 else if n.op=12 then (if g.result=true then fits g.kinds bd n.a 0 else n.a=-1)
 else if n.op=13 then hands gs g bd n.f n.args
 else if n.op=15 then n.d≠n.e∧fits g.kinds bd n.d 0∧fits g.kinds bd n.e 0
 else False
instance (gs:List Gr) (g:Gr) (bd:Bool) (n:Nd):Decidable (uses gs g bd n):=by unfold uses;infer_instance
def nodeHolds (gs:List Gr) (g:Gr) (bd:Bool) (n:Nd):Prop:=uses gs g bd n∧∀ x ∈ nextsOf n,isOne x g.nodes.length
instance (gs:List Gr) (g:Gr) (bd:Bool) (n:Nd):Decidable (nodeHolds gs g bd n):=inferInstanceAs (Decidable (_∧_))
def valid (gs:List Gr) (bd:Bool):Prop:=(1≤gs.length∧gs.length≤16)∧((grAt gs 0).params.length=0∧(grAt gs 0).result=false)∧(∀ g ∈ gs,headHolds g bd)∧∀ g ∈ gs,∀ n ∈ g.nodes,nodeHolds gs g bd n
instance (gs:List Gr) (bd:Bool):Decidable (valid gs bd):=inferInstanceAs (Decidable (_∧_∧_∧_))
def wordB (f:Q.Fn) (d:Nat) (k:Int):Int:=(f.locals.length:Int)+2*d+k
def topB (f:Q.Fn) (s:Q.Stk) (n:Nat):List Int:=(List.range n).map fun j=>wordB f (s.length-n+j) (s.getD (s.length-n+j) 0)
def takesB (fs:List Q.Fn) (f:Q.Fn) (i:Q.Ins):Int :=
 if i.op=1∨i.op=2∨i.op=4∨i.op=21∨i.op=27∨i.op=28 then 0
 else if i.op=3∨i.op=5∨i.op=22∨i.op=26∨i.op=29∨i.op=30∨i.op=31∨i.op=32 then 1
 else if i.op=23∨i.op=25 then (match fs[i.arg.toNat]? with
  | some g=>g.params
  | none=>0)
 else if i.op=24 then (if f.result=true then 1 else 0) else 2
def ndB (op d a:Int):Nd:=⟨op,0,d,0,a,0,0,0,0,[],0,0⟩
def getB (cells:List Int) (l to:Int):Nd:=if cells.getD l.toNat 0≠-1 then { ndB 4 to 0 with cell:=cells.getD l.toNat 0 } else ndB 2 to l
def setB (cells:List Int) (l fr:Int):Nd:=if cells.getD l.toNat 0≠-1 then { ndB 5 0 fr with cell:=cells.getD l.toNat 0 } else ndB 2 l fr
def callB (fs:List Q.Fn) (g:Int) (args:List Int) (left:Int):Nd:={ ndB 11 (if (match fs[g.toNat]? with
  | some h=>h.result
  | none=>false)=true then left else -1) 0 with f:=g,args:=args }
def retB (taken:List Int):Nd:=ndB 12 0 (match taken with
  | t :: _=>t
  | []=>-1)
def effB (fs:List Q.Fn) (f:Q.Fn) (cells:List Int) (i:Q.Ins) (s:Q.Stk):Nd :=
 let tk:=topB f s (takesB fs f i).toNat
 let below:=s.length-tk.length
 let left:=wordB f below 0
 if i.op=1 then { ndB 1 left 0 with imm:=i.imm }
 else if i.op=2 then getB cells i.arg (wordB f below (f.locals.getD i.arg.toNat 0))
 else if i.op=3 then setB cells i.arg (tk.getD 0 0)
 else if i.op=4 then { ndB 6 (wordB f below 1) 0 with cell:=cells.getD i.arg.toNat 0 }
 else if i.op=5 then ndB 7 left (tk.getD 0 0)
 else if i.op=6 then { ndB 8 0 (tk.getD 0 0) with b:=tk.getD 1 0 }
 else if i.op=21∨i.op=31 then ndB 10 0 0
 else if i.op=22 then ndB 9 0 (tk.getD 0 0)
 else if i.op=23 then callB fs i.arg tk left
 else if i.op=24 then retB tk
 else if i.op=25 then { ndB 13 0 0 with f:=i.arg,args:=tk }
 else if i.op=26 then ndB 14 0 (tk.getD 0 0)
 else if i.op=27 then { ndB 15 left 0 with e:=wordB f (below+1) 0 }
 else if i.op=28 then ndB 16 left 0
 else if i.op=29 then ndB 17 0 (tk.getD 0 0)
 else if i.op=30 then ndB 18 0 (tk.getD 0 0)
 else if i.op=32 then ndB 2 (wordB f (below+1) (s.getD below 0)) (tk.getD 0 0)
 else { ndB 3 left (tk.getD 0 0) with bop:=i.op,b:=tk.getD 1 0 }
def nodeB (fs:List Q.Fn) (f:Q.Fn) (cells nodes:List Int) (k:Nat) (i:Q.Ins) (s:Q.Stk):Nd :=
 let n:=effB fs f cells i s
 if i.op=24∨i.op=26∨i.op=30 then n
 else if i.op=21 then { n with next:=nodes.getD i.arg.toNat 0 }
 else if i.op=22 then { n with next:=nodes.getD (k+1) 0,els:=nodes.getD i.arg.toNat 0 }
 else { n with next:=nodes.getD (k+1) 0 }
def needB (x:List Int × Nat) (l:Int):List Int × Nat:=if x.1.getD l.toNat 0=-1 then (x.1.set l.toNat x.2,x.2+1) else x
def cellsB (f:Q.Fn) (l:List (Option Q.Stk)):List Int × Nat :=
 let x0:List Int × Nat:=(List.replicate f.locals.length (-1),0)
 let x1:=if f.keep=-1 then x0 else needB x0 f.keep
 (f.code.zip l).foldl (fun x p=>if p.2.isSome∧p.1.op=4 then needB x p.1.arg else x) x1
def nodesB:Nat→List (Option Q.Stk)→List Int
 | _,[]=>[]
 | n,none :: l=>-1 :: nodesB n l
 | n,some _ :: l=>(n:Int) :: nodesB (n+1) l
def kindsB (f:Q.Fn):List Int:=f.locals ++ (List.replicate 16 [0,1]).flatten
def graphB (fs:List Q.Fn) (f:Q.Fn) (l:List (Option Q.Stk)):Gr :=
 let c:=cellsB f l
 let ns:=nodesB 0 l
 {params:=(List.range f.params.toNat).map fun (j:Nat)=>(j:Int),kinds:=kindsB f,cells:=c.2,init:=(List.range f.params.toNat).map fun j=>c.1.getD j 0,result:=f.result,
  keep:=if f.keep=-1 then -1 else c.1.getD f.keep.toNat 0,
  nodes:=(List.range l.length).filterMap fun k=>match l[k]?,f.code[k]? with
   | some (some s),some i=>some (nodeB fs f c.1 ns k i s)
   | _,_=>none,
  entry:=0 }
def buildB (fs:List Q.Fn) (ls:List (List (Option Q.Stk))):List Gr:=(fs.zip ls).map fun p=>graphB fs p.1 p.2
end Go.Proofs.Ytgekmjkfnhogkaa
