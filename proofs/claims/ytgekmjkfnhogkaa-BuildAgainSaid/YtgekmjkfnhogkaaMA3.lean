/-
  Texts of one seat, one behind the other: QMem, BEff, BKin, BNu0, BNu1, QApp, QOwn, QKMem.
-/
import Derived.WalkKit
import Derived.ProofKit
import Derived.Below
import Derived.Laws.OwnMore
import Derived.Deep.AppendLies
import Derived.Deep.Draws
import Derived.Laws.Rows
import Derived.Maps.AppendAt
import Derived.RegionTactic
import Derived.OwnWalk
import Derived.Lib.Hide
import Derived.Deep.QuietTactic
import Derived.BigQuiet
import Derived.Laws.StructEq
import Derived.LoopTactic
import Derived.Outline
import Derived.WalkSpells
import Derived.WalkLawsBesides
import Derived.StillTailTactics
import Derived.Test.YtgekmjkfnhogkaaMA1
import Derived.Test.YtgekmjkfnhogkaaMA2

set_option linter.unusedVariables false
set_option linter.unusedSimpArgs false
set_option maxRecDepth 100000
set_option maxHeartbeats 51200000
namespace Go.Proofs.Ytgekmjkfnhogkaa.Q
open Go.ChangeShapes Go.WideShapes Go.ChangeAt Go.RowKit
theorem block_of_add (a:Addr) (n:Nat):(a.add n).block=a.block:=by unfold Addr.add;split <;> rfl
theorem add_of_add (a:Addr) (i j:Nat):(a.add i).add j=a.add (i+j):=by
 unfold Addr.add
 by_cases hi:i=0 <;> by_cases hj:j=0 <;> simp [hi,hj,Nat.add_assoc]

def Reads (w:World) (B size:Nat) (A:Option Addr) (n:Nat) (xs:List Value):Prop :=
 xs.length=n*size∧(0<n→∃ ad,A=some ad∧ad.block<B∧∀ j u,xs[j]?=some u→w.cell? (ad.add j)=some u)

section
variable {w w':World} {B B' size n:Nat} {A:Option Addr} {xs:List Value}
theorem Reads.none_:Reads w B size A 0 []:=⟨by simp,fun h=>absurd h (by omega)⟩
theorem Reads.at_ {k:Nat} (h:Reads w B 1 A n xs) (hk:k<n):∃ ad u,A=some ad∧ad.block<B∧xs[k]?=some u∧w.cell? (ad.add k)=some u:=by
 obtain ⟨ad,e,hb,hc⟩:=h.2 (by omega)
 have hl:k<xs.length:=by have:=h.1;omega
 exact ⟨ad,xs[k],e,hb,List.getElem?_eq_getElem hl,hc k _ (List.getElem?_eq_getElem hl)⟩
theorem Reads.keep (h:Reads w B size A n xs) (hk:∀ p:Addr,p.block<B→w'.cell? p=w.cell? p):Reads w' B size A n xs :=
 ⟨h.1,fun hn=>by
  obtain ⟨ad,e,hb,hc⟩:=h.2 hn
  exact ⟨ad,e,hb,fun j u hu=>(hk _ (by rw [block_of_add];exact hb)).trans (hc j u hu)⟩⟩
theorem Reads.more (h:Reads w B size A n xs) (hB:B≤B'):Reads w B' size A n xs :=
 ⟨h.1,fun hn=>by
  obtain ⟨ad,e,hb,hc⟩:=h.2 hn
  exact ⟨ad,e,by omega,hc⟩⟩
theorem Reads.below (h:Reads w B size A n xs) (hb:Below B w w'):Reads w' B size A n xs:=h.keep fun _ hp=>hb.cell hp
theorem Reads.drew (h:Reads w B size A n xs):Reads w.drew B size A n xs:=h
theorem Reads.drewN (h:Reads w B size A n xs) (k:Nat):Reads (w.drewN k) B size A n xs:=h
theorem Reads.alloc (h:Reads w B size A n xs) (hB:B≤w.heap.size) (o:Obj):Reads (w.alloc o) B size A n xs:=h.keep fun p hp=>World.cell?_alloc_lt w o p (by omega)
theorem Reads.setCell (h:Reads w B size A n xs) {p:Addr} (hB:B≤p.block) (u:Value):Reads (w.setCell p u) B size A n xs :=
 h.keep fun q hq=>World.cell?_setCell_other w p q u (fun e=>by subst e;omega)
theorem Reads.grown (h:Reads w B size A n xs) {row:Option Nat} (hg:w.grownBy w' row) (hB:B≤w.heap.size) (hr:∀ g,row=some g→B≤g):Reads w' B size A n xs :=
 h.keep fun p hp=>World.cell?_of_block (hg.block p.block (by omega) (fun e=>by have:=hr _ e.symm;omega))
theorem Reads.cut (h:Reads w B size A n xs) {k cap:Nat} (hk:k≤n) (hc:n≤cap) :
  Reads w B size (if cap=k then A else A.map (·.add (k*size))) (n-k) (xs.drop (k*size)):=by
 refine ⟨by rw [List.length_drop,h.1,Nat.sub_mul],fun hn=>?_⟩
 obtain ⟨ad,rfl,hb,hcell⟩:=h.2 (by omega)
 rw [if_neg (by omega)]
 refine ⟨ad.add (k*size),rfl,by rw [block_of_add];exact hb,fun j u hu=>?_⟩
 rw [add_of_add]
 exact hcell _ u (by rw [← hu,List.getElem?_drop])
theorem Reads.of_own {base:Nat} {e:TypeId} {c:Nat} (h:w.ownsRow base e size (.slice A n c) n xs):Reads w w.heap.size size A n xs:=by
 refine ⟨h.1,fun hn=>?_⟩
 obtain ⟨g,cap,hv,_,hlt⟩:=h.form hn
 have hA:A=some ⟨g,0,none⟩:=by injection hv
 subst hA
 exact ⟨_,rfl,hlt,h.cells (g:=g) rfl⟩
end
def Blk (w:World) (g:Nat) (t:TypeId) (cs:Array Value):Prop:=w.heap[g]?=some (.cells cs t (0,0))
section
variable {w w':World} {g:Nat} {t:TypeId} {cs:Array Value}
theorem Blk.lt (h:Blk w g t cs):g<w.heap.size:=by
 rcases Nat.lt_or_ge g w.heap.size with hlt | hge
 ·exact hlt
 ·unfold Blk at h;rw [Array.getElem?_eq_none hge] at h;cases h
theorem Blk.cell (h:Blk w g t cs) (i:Nat):w.cell? ⟨g,i,none⟩=cs[i]?:=cell_of_row w g i cs t (0,0) h
theorem Blk.frozen (h:Blk w g t cs) (i:Nat):w.frozen? ⟨g,i,none⟩=false:=by
 unfold Blk at h
 simp [World.frozen?,h]
theorem Blk.new (w:World) (t:TypeId) (cs:Array Value):Blk (w.alloc (.cells cs t)) w.heap.size t cs:=heap_alloc_new w _
theorem Blk.drew (h:Blk w g t cs):Blk w.drew g t cs:=h
theorem Blk.drewN (h:Blk w g t cs) (n:Nat):Blk (w.drewN n) g t cs:=h
theorem Blk.alloc (h:Blk w g t cs) (o:Obj):Blk (w.alloc o) g t cs:=(Below.heap_alloc w o g h.lt).trans h
theorem Blk.set_ (h:Blk w g t cs) (i:Nat) (u:Value):Blk (w.setCell ⟨g,i,none⟩ u) g t (cs.setIfInBounds i u):=by
 unfold Blk at h ⊢
 simp [World.setCell,Array.getElem?_modify,h]
theorem Blk.far (h:Blk w g t cs) {p:Addr} (hp:g≠p.block) (u:Value):Blk (w.setCell p u) g t cs:=(Below.heap_setCell w p u g hp).trans h
theorem Blk.below {B:Nat} (h:Blk w g t cs) (hb:Below B w w') (hg:g<B):Blk w' g t cs:=(hb.block g hg).trans h
theorem Blk.grown {row:Option Nat} (h:Blk w g t cs) (hb:w.grownBy w' row) (hg:some g≠row):Blk w' g t cs:=(hb.block g h.lt hg).trans h
theorem Blk.ne_ {g':Nat} {t':TypeId} {cs':Array Value} (h:Blk w g t cs) (h':Blk w g' t' cs') (hne:t≠t'):g≠g':=by
 rintro rfl
 unfold Blk at h h'
 rw [h] at h'
 injection h' with h'
 injection h' with _ ht
 exact hne ht
theorem own_blk_ne {base:Nat} {e:TypeId} {size n:Nat} {v:Value} {xs:List Value} (h:w.ownsRow base e size v n xs) (hg:Blk w g t cs) (hne:e≠t):v.ownBlock≠some g:=by
 rcases h.2 with ⟨rfl,_⟩ | ⟨g',cap,cur,rfl,_,hh,_⟩
 ·simp [Value.ownBlock]
 ·intro he
  have:g'=g:=by simpa [Value.ownBlock] using he
  subst this
  exact Blk.ne_ (t:=e) hh hg hne rfl
end
section
variable {P:Program} (w:World)
theorem run_append_of_nil (base:Nat) (t ty e:TypeId) (i:TypeInfo) (size:Nat) (ht:P.underlying t=some (.slice e)) (hi:P.info? e=some i)
  (v:Value) (n:Nat) (xs:List Value) (hown:w.ownsRow base e size v n xs) (c:Nat):(Builtin.append_ #[t,t] ty #[v,.slice none 0 c]).run P w=.ok v w:=by
 rcases hown.2 with ⟨rfl,rfl⟩ | ⟨g,cap,cur,rfl,_,_,hnc,_⟩
 ·simp [Builtin.append_,run_underlying ht,sizeOf,typeInfo,hi,Builtin.lenOf,Builtin.firstCells]
 ·simp [Builtin.append_,run_underlying ht,sizeOf,typeInfo,hi,Builtin.lenOf,Builtin.firstCells,hnc,storeCells]

theorem run_append_any (base:Nat) (t ty e:TypeId) (i:TypeInfo) (z:Value) (size bytes:Nat) (ht:P.underlying t=some (.slice e)) (hi:P.info? e=some i) (hz:i.zero=some z)
  (hsize:i.size=size) (hby:i.bytes=bytes) (hzs:z.cells.size=size) (hsz:0<size)
  (v:Value) (n:Nat) (xs:List Value) (hown:w.ownsRow base e size v n xs)
  (B:Nat) (A:Option Addr) (m c:Nat) (news:List Value) (hr:Reads w B size A m news) (h1:∀ u ∈ news,u.oneCell'=true)
  (h63:n+m≤maxLen) (hbytes:(n+m)*bytes≤140737488355328) (hbase:base≤w.heap.size) :
  ∃ v' w',(Builtin.append_ #[t,t] ty #[v,.slice A m c]).run P w=.ok v' w'∧w'.ownsRow base e size v' (n+m) (xs ++ news)∧w.grownBy w' v.ownBlock ∧
   (v'.ownBlock=v.ownBlock∨v'.ownBlock=some w.heap.size):=by
 rcases A with _ | ad
 ·have hm:m=0:=by
   rcases Nat.eq_zero_or_pos m with h0 | h0
   ·exact h0
   ·obtain ⟨ad,h,_⟩:=hr.2 h0
    cases h
  subst hm
  have hn:news=[]:=List.eq_nil_of_length_eq_zero (by simpa using hr.1)
  subst hn
  exact ⟨v,w,run_append_of_nil w base t ty e i size ht hi v n xs hown c,by simpa using hown,World.grownBy.refl w _,.inl rfl⟩
 ·have hcells:∀ j u,news[j]?=some u→w.cell? (ad.add j)=some u:=by
   intro j u hu
   rcases Nat.eq_zero_or_pos m with h0 | h0
   ·subst h0
    have hn:news=[]:=List.eq_nil_of_length_eq_zero (by simpa using hr.1)
    subst hn
    simp at hu
   ·obtain ⟨ad',h,_,hc⟩:=hr.2 h0
    injection h with h
    subst h
    exact hc j u hu
  obtain ⟨v',w',hrun,h2,h3,_,h5⟩:=run_append_own_at (P:=P) w base t ty e i z size bytes ht hi hz hsize hby hzs hsz v n xs hown ad m c news hr.1 hcells h1 h63 hbytes hbase
  exact ⟨v',w',hrun,h2,h3,h5⟩

theorem wp_append_any {o:Oper} {a:Act} {K:Act→World→Prop} {Q:Exit→Act→World→Prop} (s x:Operand) (t:TypeId)
  (ho:o.op=.call { callee:=.builtin .append,args:=#[s,x],argTypes:=#[t,t] })
  (base:Nat) (e:TypeId) (i:TypeInfo) (z:Value) (size bytes:Nat) (ht:P.underlying t=some (.slice e)) (hi:P.info? e=some i) (hz:i.zero=some z)
  (hsize:i.size=size) (hby:i.bytes=bytes) (hzs:z.cells.size=size) (hsz:0<size)
  (v:Value) (n:Nat) (xs:List Value) (hs:a.eval s=v) (hown:w.ownsRow base e size v n xs)
  (B:Nat) (A:Option Addr) (m c:Nat) (news:List Value) (hx:a.eval x=.slice A m c) (hr:Reads w B size A m news) (h1:∀ u ∈ news,u.oneCell'=true)
  (h63:n+m≤maxLen) (hbytes:(n+m)*bytes≤140737488355328) (hbase:base≤w.heap.size)
  (h:∀ v' w',w'.ownsRow base e size v' (n+m) (xs ++ news)→w.grownBy w' v.ownBlock→(v'.ownBlock=v.ownBlock∨v'.ownBlock=some w.heap.size)→K (a.put o.dst v') w'):o.wp P a w K Q:=by
 obtain ⟨v',w',hrun,h2,h3,h4⟩:=run_append_any (P:=P) w base t o.type e i z size bytes ht hi hz hsize hby hzs hsz v n xs hown B A m c news hr h1 h63 hbytes hbase
 unfold Oper.wp execOp
 simp only [ho,resolve,invoke,builtin,Sem.run_bind,Sem.run_pure,Result.andThen_ok,List.map_toArray,List.map_cons,List.map_nil,hs,hx,hrun]
 exact h v' w' h2 h3 h4

theorem wpList_append_any {ops:Array Oper} {rest:List Oper} {o:Oper} {a:Act} {Q:Exit→Act→World→Prop} (hgd:o.guard=none) (s x:Operand) (t:TypeId)
  (ho:o.op=.call { callee:=.builtin .append,args:=#[s,x],argTypes:=#[t,t] })
  (base:Nat) (e:TypeId) (i:TypeInfo) (z:Value) (size bytes:Nat) (ht:P.underlying t=some (.slice e)) (hi:P.info? e=some i) (hz:i.zero=some z)
  (hsize:i.size=size) (hby:i.bytes=bytes) (hzs:z.cells.size=size) (hsz:0<size)
  (v:Value) (n:Nat) (xs:List Value) (hs:a.eval s=v) (hown:w.ownsRow base e size v n xs)
  (B:Nat) (A:Option Addr) (m c:Nat) (news:List Value) (hx:a.eval x=.slice A m c) (hr:Reads w B size A m news) (h1:∀ u ∈ news,u.oneCell'=true)
  (h63:n+m≤maxLen) (hbytes:(n+m)*bytes≤140737488355328) (hbase:base≤w.heap.size)
  (h:∀ v' w',w'.ownsRow base e size v' (n+m) (xs ++ news)→w.grownBy w' v.ownBlock→(v'.ownBlock=v.ownBlock∨v'.ownBlock=some w.heap.size)→wpList P ops Q rest (a.put o.dst v') w'):wpList P ops Q (o :: rest) a w :=
 wpList_plain hgd fun _ hK=>wp_append_any w s x t ho base e i z size bytes ht hi hz hsize hby hzs hsz v n xs hs hown B A m c news hx hr h1 h63 hbytes hbase fun v' w' h2 h3 h4=>hK _ _ (h v' w' h2 h3 h4)

theorem step_append_any {ops:Array Oper} {o:Oper} {a:Act} {K:Act→World→Prop} {Q:Exit→Act→World→Prop} {E:Prop} (hgd:o.guard=none) (s x:Operand) (t:TypeId)
  (ho:o.op=.call { callee:=.builtin .append,args:=#[s,x],argTypes:=#[t,t] })
  (base:Nat) (e:TypeId) (i:TypeInfo) (z:Value) (size bytes:Nat) (ht:P.underlying t=some (.slice e)) (hi:P.info? e=some i) (hz:i.zero=some z)
  (hsize:i.size=size) (hby:i.bytes=bytes) (hzs:z.cells.size=size) (hsz:0<size)
  (v:Value) (n:Nat) (xs:List Value) (hs:a.eval s=v) (hown:w.ownsRow base e size v n xs)
  (B:Nat) (A:Option Addr) (m c:Nat) (news:List Value) (hx:a.eval x=.slice A m c) (hr:Reads w B size A m news) (h1:∀ u ∈ news,u.oneCell'=true)
  (h63:n+m≤maxLen) (hbytes:(n+m)*bytes≤140737488355328) (hbase:base≤w.heap.size)
  (h:∀ v' w',w'.ownsRow base e size v' (n+m) (xs ++ news)→w.grownBy w' v.ownBlock→(v'.ownBlock=v.ownBlock∨v'.ownBlock=some w.heap.size)→K (a.put o.dst v') w') :
  if Region.wanted o (yielded ops a.tmps)=true then Oper.wp P o a w K Q else E:=by
 have hw:Region.wanted o (yielded ops a.tmps)=true:=by simp [Region.wanted,hgd]
 rw [if_pos hw]
 exact wp_append_any w s x t ho base e i z size bytes ht hi hz hsize hby hzs hsz v n xs hs hown B A m c news hx hr h1 h63 hbytes hbase h
end
theorem below_drewN {B:Nat} {a w:World} (h:Below B a w) (n:Nat):Below B a (w.drewN n):=⟨h.os,h.tape,h.output,h.size,h.block⟩
theorem Reads.lit {w:World} {B size n:Nat} {A:Option Addr} {xs:List Value} (h:Reads w B size A n xs) (hn:0<n) (hs:0<size) :
  ∃ b off,A=some ⟨b,off,none⟩∧b<B∧∀ j u,xs[j]?=some u→w.cell? ⟨b,off+j,none⟩=some u:=by
 obtain ⟨ad,rfl,hb,hc⟩:=h.2 hn
 obtain ⟨b,off,spot⟩:=ad
 have hl:0<xs.length:=by rw [h.1];exact Nat.mul_pos hn hs
 have h0:=hc 0 _ (List.getElem?_eq_getElem hl)
 have hspot:spot=none:=by simpa [Addr.add] using World.cell?_spot h0
 subst hspot
 refine ⟨b,off,rfl,hb,fun j u hj=>?_⟩
 have ea:(⟨b,off,none⟩:Addr).add j=⟨b,off+j,none⟩:=by simp [Addr.add]
 rw [← ea];exact hc j u hj
theorem own_slice {w:World} {base size n:Nat} {e:TypeId} {v:Value} {xs:List Value} (h:w.ownsRow base e size v n xs):∃ A c,v=.slice A n c:=by
 rcases h.2 with ⟨rfl,rfl⟩ | ⟨g,cap,cur,rfl,_⟩
 ·exact ⟨_,_,rfl⟩
 ·exact ⟨_,_,rfl⟩
theorem own_kept {w w':World} {base size n:Nat} {e:TypeId} {v:Value} {xs:List Value} (h:w.ownsRow base e size v n xs) (hk:∀ i,v.ownBlock=some i→w'.heap[i]?=w.heap[i]?):w'.ownsRow base e size v n xs:=by
 obtain ⟨h1,h2⟩:=h
 refine ⟨h1,?_⟩
 rcases h2 with h2 | ⟨g,cap,cur,rfl,hg,hb,hr⟩
 ·exact .inl h2
 ·exact .inr ⟨g,cap,cur,rfl,hg,(hk g rfl).trans hb,hr⟩
theorem own_block_le {w:World} {base size n:Nat} {e:TypeId} {v:Value} {xs:List Value} (h:w.ownsRow base e size v n xs) {i:Nat} (hi:v.ownBlock=some i):base≤i∧i<w.heap.size:=by
 rcases h.2 with ⟨rfl,_⟩ | ⟨g,cap,cur,rfl,hg,hb,_⟩
 ·simp [Value.ownBlock] at hi
 ·simp [Value.ownBlock] at hi
  subst hi
  exact ⟨hg,Blk.lt (t:=e) (cs:=cur) hb⟩
theorem own_cap {w:World} {base size n c:Nat} {A:Option Addr} {e:TypeId} {xs:List Value} (h:w.ownsRow base e size (.slice A n c) n xs):n≤c:=by
 rcases h.2 with ⟨he,rfl⟩ | ⟨g,cap,cur,he,_,_,hnc,_⟩
 ·omega
 ·injection he with _ _ he;subst he;exact hnc
theorem own_none (w:World) (B:Nat) (e:TypeId) (size:Nat):w.ownsRow B e size (.slice none 0 0) 0 []:=⟨by simp,.inl ⟨rfl,rfl⟩⟩
theorem own_more {w:World} {base base' size n:Nat} {e:TypeId} {v:Value} {xs:List Value} (h:w.ownsRow base e size v n xs) (hb:base'≤base):w.ownsRow base' e size v n xs:=by
 obtain ⟨h1,h2⟩:=h
 refine ⟨h1,?_⟩
 rcases h2 with h2 | ⟨g,cap,cur,rfl,hg,hr⟩
 ·exact .inl h2
 ·exact .inr ⟨g,cap,cur,rfl,by omega,hr⟩
theorem only_drew {a w:World} {row:Option Nat} (h:a.grownBy w row):a.grownBy w.drew row:=⟨h.os,h.tape,h.output,h.size,h.block⟩
theorem only_alloc {a w:World} {row:Option Nat} (h:a.grownBy w row) (o:Obj):a.grownBy (w.alloc o) row :=
 ⟨h.os,h.tape,h.output,Nat.le_trans h.size (by simp),fun i hi hne=>(Below.heap_alloc w o i (Nat.lt_of_lt_of_le hi h.size)).trans (h.block i hi hne)⟩
theorem only_of_below {a w:World} (h:Below a.heap.size a w) (row:Option Nat):a.grownBy w row:=⟨h.os,h.tape,h.output,h.size,fun i hi _=>h.block i hi⟩
theorem Reads.only {w w':World} {B size n g:Nat} {A:Option Addr} {xs:List Value} (h:Reads w B size A n xs) (hg:w.grownBy w' (some g)) (hB:B≤w.heap.size) (hr:B≤g):Reads w' B size A n xs :=
 h.grown hg hB fun i hi=>by injection hi with hi;omega
def u8c (l:List Int):List Value:=l.map (Value.int .u8)
theorem length_u8c (l:List Int):(u8c l).length=l.length:=by simp [u8c]
theorem u8c_append (a b:List Int):u8c (a ++ b)=u8c a ++ u8c b:=by simp [u8c]
theorem u8c_at {l:List Int} {k:Nat} {x:Int} (h:l[k]?=some x):(u8c l)[k]?=some (.int .u8 x):=by simp [u8c,h]
theorem u8c_one (l:List Int):∀ u ∈ u8c l,u.oneCell'=true:=by
 intro u hu
 simp [u8c] at hu
 obtain ⟨x,_,rfl⟩:=hu
 rfl
def insOne (i:Ins):List Value:=[.int .u8 i.op,.int .i64 i.arg,.int .u64 i.imm]
def insc (l:List Ins):List Value:=l.flatMap insOne
theorem length_insc (l:List Ins):(insc l).length=l.length*3:=by
 induction l with
 | nil=>rfl
 | cons p l ih=>unfold insc at *;rw [List.flatMap_cons,List.length_append,ih];simp [insOne];omega
theorem insc_append (a b:List Ins):insc (a ++ b)=insc a ++ insc b:=by simp [insc]
theorem insOne_one (x:Ins):∀ u ∈ insOne x,u.oneCell'=true:=by
 intro u hu
 simp [insOne] at hu
 rcases hu with rfl | rfl | rfl <;> rfl
theorem insc_one (l:List Ins):∀ u ∈ insc l,u.oneCell'=true:=by
 intro u hu
 simp only [insc,List.mem_flatMap] at hu
 obtain ⟨p,_,hu⟩:=hu
 exact insOne_one p u hu
theorem flat_at {α:Type} (f:α→List Value) (m:Nat) (hf:∀ x,(f x).length=m) (l:List α) (k j:Nat) (x:α) (hk:l[k]?=some x) (hj:j<m):(l.flatMap f)[k*m+j]?=(f x)[j]?:=by
 induction l generalizing k with
 | nil=>simp at hk
 | cons y l ih =>
  rw [List.flatMap_cons]
  cases k with
  | zero =>
   simp at hk
   subst hk
   rw [Nat.zero_mul,Nat.zero_add,List.getElem?_append_left (by rw [hf];exact hj)]
  | succ k =>
   rw [List.getElem?_append_right (by rw [hf,Nat.succ_mul];omega),hf,show (k+1)*m+j-m=k*m+j by rw [Nat.succ_mul];omega]
   exact ih k (by simpa using hk)
theorem insc_at {l:List Ins} {k:Nat} {x:Ins} (h:l[k]?=some x):(insc l)[k*3]?=some (.int .u8 x.op)∧(insc l)[k*3+1]?=some (.int .i64 x.arg)∧(insc l)[k*3+2]?=some (.int .u64 x.imm):=by
 refine ⟨?_,?_,?_⟩
 ·exact flat_at insOne 3 (fun _=>rfl) l k 0 x h (by omega)
 ·exact flat_at insOne 3 (fun _=>rfl) l k 1 x h (by omega)
 ·exact flat_at insOne 3 (fun _=>rfl) l k 2 x h (by omega)
theorem Reads.byte {w:World} {B n:Nat} {A:Option Addr} {l:List Int} (h:Reads w B 1 A n (u8c l)) {k:Nat} (hk:k<n) :
  ∃ b off x,A=some ⟨b,off,none⟩∧b<B∧Hid (l[k]?=some x)∧w.cell? ⟨b,off+k,none⟩=some (.int .u8 x):=by
 obtain ⟨b,off,rfl,hb,hc⟩:=h.lit (by omega) (by omega)
 have hl:k<l.length:=by have:=h.1;rw [length_u8c] at this;omega
 exact ⟨b,off,l[k],rfl,hb,List.getElem?_eq_getElem hl,hc _ _ (u8c_at (List.getElem?_eq_getElem hl))⟩
theorem Reads.ins {w:World} {B n:Nat} {A:Option Addr} {l:List Ins} (h:Reads w B 3 A n (insc l)) {k:Nat} (hk:k<n) :
  ∃ b off x,A=some ⟨b,off,none⟩∧b<B∧Hid (l[k]?=some x)∧w.cell? ⟨b,off+k*3,none⟩=some (.int .u8 x.op)∧w.cell? ⟨b,off+k*3+1,none⟩=some (.int .i64 x.arg)∧w.cell? ⟨b,off+k*3+2,none⟩=some (.int .u64 x.imm):=by
 obtain ⟨b,off,rfl,hb,hc⟩:=h.lit (by omega) (by omega)
 have hl:k<l.length:=by have:=h.1;rw [length_insc] at this;omega
 obtain ⟨h1,h2,h3⟩:=insc_at (List.getElem?_eq_getElem hl)
 exact ⟨b,off,l[k],rfl,hb,List.getElem?_eq_getElem hl,hc _ _ h1,by rw [Nat.add_assoc];exact hc _ _ h2,by rw [Nat.add_assoc];exact hc _ _ h3⟩

structure Raw where
 fn:Fn
 lo:Option Addr
 lc:Nat
 co:Option Addr
 cc:Nat
def rawOne (r:Raw):List Value:=[.int .i64 r.fn.params,.slice r.lo r.fn.locals.length r.lc,.bool r.fn.result,.int .i64 r.fn.keep,.slice r.co r.fn.code.length r.cc]
def rawc (l:List Raw):List Value:=l.flatMap rawOne
theorem rawc_append (a b:List Raw):rawc (a ++ b)=rawc a ++ rawc b:=by simp [rawc]
theorem length_rawc (l:List Raw):(rawc l).length=l.length*5:=by
 induction l with
 | nil=>rfl
 | cons p l ih=>unfold rawc at *;rw [List.flatMap_cons,List.length_append,ih];simp [rawOne];omega
theorem rawOne_one (x:Raw):∀ u ∈ rawOne x,u.oneCell'=true:=by
 intro u hu
 simp [rawOne] at hu
 rcases hu with rfl | rfl | rfl | rfl | rfl <;> rfl
theorem rawc_at {l:List Raw} {k:Nat} {x:Raw} (h:l[k]?=some x):(rawc l)[k*5]?=some (.int .i64 x.fn.params)∧(rawc l)[k*5+1]?=some (.slice x.lo x.fn.locals.length x.lc)∧(rawc l)[k*5+2]?=some (.bool x.fn.result)∧(rawc l)[k*5+3]?=some (.int .i64 x.fn.keep)∧(rawc l)[k*5+4]?=some (.slice x.co x.fn.code.length x.cc):=by
 refine ⟨?_,?_,?_,?_,?_⟩
 ·exact flat_at rawOne 5 (fun _=>rfl) l k 0 x h (by omega)
 ·exact flat_at rawOne 5 (fun _=>rfl) l k 1 x h (by omega)
 ·exact flat_at rawOne 5 (fun _=>rfl) l k 2 x h (by omega)
 ·exact flat_at rawOne 5 (fun _=>rfl) l k 3 x h (by omega)
 ·exact flat_at rawOne 5 (fun _=>rfl) l k 4 x h (by omega)

structure RdF (w:World) (B:Nat) (r:Raw):Prop where
 locals:Reads w B 1 r.lo r.fn.locals.length (u8c r.fn.locals)
 code:Reads w B 3 r.co r.fn.code.length (insc r.fn.code)
 cap:r.fn.locals.length≤r.lc
structure WfI (i:Ins):Prop where
 o0:0≤i.op
 o1:i.op≤255
 a0:-9223372036854775808≤i.arg
 a1:i.arg≤9223372036854775807
 m0:0≤i.imm
 m1:i.imm≤18446744073709551615
structure WfF (f:Fn):Prop where
 p0:-9223372036854775808≤f.params
 p1:f.params≤9223372036854775807
 k0:-9223372036854775808≤f.keep
 k1:f.keep≤9223372036854775807
 locals:Byt f.locals
 code:∀ i ∈ f.code,WfI i
 ll:f.locals.length≤140737488351232
 cl:f.code.length*24≤140737488351232
structure RdP (w:World) (B:Nat) (A:Option Addr) (n:Nat) (rs:List Raw):Prop where
 row:Reads w B 5 A n (rawc rs)
 len:rs.length=n
 each:∀ r ∈ rs,RdF w B r
 wf:∀ r ∈ rs,WfF r.fn
 sz:n*72≤140737488351232
def fns (rs:List Raw):List Fn:=rs.map Raw.fn
theorem fns_append (a b:List Raw):fns (a ++ b)=fns a ++ fns b:=by simp [fns]
theorem length_fns (rs:List Raw):(fns rs).length=rs.length:=by simp [fns]
section
variable {w w':World} {B B' n:Nat} {A:Option Addr} {rs:List Raw} {r:Raw}
theorem RdF.keep (h:RdF w B r) (hk:∀ p:Addr,p.block<B→w'.cell? p=w.cell? p):RdF w' B r:=⟨h.locals.keep hk,h.code.keep hk,h.cap⟩
theorem RdF.more (h:RdF w B r) (hB:B≤B'):RdF w B' r:=⟨h.locals.more hB,h.code.more hB,h.cap⟩
theorem RdP.keep (h:RdP w B A n rs) (hk:∀ p:Addr,p.block<B→w'.cell? p=w.cell? p):RdP w' B A n rs:=⟨h.row.keep hk,h.len,fun r hr=>(h.each r hr).keep hk,h.wf,h.sz⟩
theorem RdP.more (h:RdP w B A n rs) (hB:B≤B'):RdP w B' A n rs:=⟨h.row.more hB,h.len,fun r hr=>(h.each r hr).more hB,h.wf,h.sz⟩
theorem RdP.below (h:RdP w B A n rs) (hb:Below B w w'):RdP w' B A n rs:=h.keep fun _ hp=>hb.cell hp
theorem RdP.drewN (h:RdP w B A n rs) (k:Nat):RdP (w.drewN k) B A n rs:=h.keep fun _ _=>rfl
theorem RdP.alloc (h:RdP w B A n rs) (hB:B≤w.heap.size) (o:Obj):RdP (w.alloc o) B A n rs:=h.keep fun p hp=>World.cell?_alloc_lt w o p (by omega)
theorem RdP.setCell (h:RdP w B A n rs) {p:Addr} (hB:B≤p.block) (u:Value):RdP (w.setCell p u) B A n rs :=
 h.keep fun q hq=>World.cell?_setCell_other w p q u (fun e=>by subst e;omega)
theorem RdF.below (h:RdF w B r) (hb:Below B w w'):RdF w' B r:=h.keep fun _ hp=>hb.cell hp
theorem RdP.fn (h:RdP w B A n rs) {k:Nat} (hk:k<n) :
  ∃ b off r,A=some ⟨b,off,none⟩∧b<B∧Hid (rs[k]?=some r)∧Hid (RdF w B r)∧Hid (WfF r.fn)∧w.cell? ⟨b,off+k*5,none⟩=some (.int .i64 r.fn.params)∧w.cell? ⟨b,off+k*5+1,none⟩=some (.slice r.lo r.fn.locals.length r.lc) ∧
   w.cell? ⟨b,off+k*5+2,none⟩=some (.bool r.fn.result)∧w.cell? ⟨b,off+k*5+3,none⟩=some (.int .i64 r.fn.keep)∧w.cell? ⟨b,off+k*5+4,none⟩=some (.slice r.co r.fn.code.length r.cc):=by
 obtain ⟨b,off,rfl,hb,hc⟩:=h.row.lit (by omega) (by omega)
 have hl:k<rs.length:=by have:=h.len;omega
 have hm:=List.getElem_mem hl
 obtain ⟨h1,h2,h3,h4,h5⟩:=rawc_at (List.getElem?_eq_getElem hl)
 exact ⟨b,off,rs[k],rfl,hb,List.getElem?_eq_getElem hl,h.each _ hm,h.wf _ hm,hc _ _ h1,by rw [Nat.add_assoc];exact hc _ _ h2,by rw [Nat.add_assoc];exact hc _ _ h3,by rw [Nat.add_assoc];exact hc _ _ h4,by rw [Nat.add_assoc];exact hc _ _ h5⟩
end
end Go.Proofs.Ytgekmjkfnhogkaa.Q
namespace Go.Proofs.Ytgekmjkfnhogkaa
open Go.ChangeShapes Go.WideShapes Go.ChangeAt Go.RowKit
structure BR (W:World) (B bb:Nat) (fa:Option Addr) (n nc:Nat) (rs:List Q.Raw) (r:Q.Raw) (ca:Option Addr) (cc:Nat) (cells:List Int):Prop where
 lt:bb<B
 c0:W.cell? ⟨bb,0,none⟩=some (.slice fa n nc)
 c2:W.cell? ⟨bb,2,none⟩=some (.slice r.lo r.fn.locals.length r.lc)
 c3:W.cell? ⟨bb,3,none⟩=some (.bool r.fn.result)
 c8:W.cell? ⟨bb,8,none⟩=some (.slice ca cells.length cc)
 fs:Q.RdP W B fa n rs
 lo:Reads W B 1 r.lo r.fn.locals.length (u8c r.fn.locals)
 ce:Reads W B 1 ca cells.length (i64c cells)
 ll:r.fn.locals.length≤100000
 cl:cells.length=r.fn.locals.length
 nl:n≤100000
theorem BR.below {W W':World} {B bb n nc cc:Nat} {fa ca:Option Addr} {rs:List Q.Raw} {r:Q.Raw} {cells:List Int} (h:BR W B bb fa n nc rs r ca cc cells) (hb:Below B W W'):BR W' B bb fa n nc rs r ca cc cells :=
 ⟨h.lt,(hb.cell (p:=⟨bb,0,none⟩) h.lt).trans h.c0,(hb.cell (p:=⟨bb,2,none⟩) h.lt).trans h.c2,(hb.cell (p:=⟨bb,3,none⟩) h.lt).trans h.c3,(hb.cell (p:=⟨bb,8,none⟩) h.lt).trans h.c8,h.fs.keep fun _ hp=>hb.cell hp,h.lo.below hb,h.ce.below hb,h.ll,h.cl,h.nl⟩
def zero12:Array Value:=#[.int .u8 0,.int .u8 0,.int .i64 0,.int .i64 0,.int .i64 0,.int .i64 0,.int .i64 0,.int .i64 0,.int .u64 0,.slice none 0 0,.int .i64 0,.int .i64 0]
def ndSet (w:World) (p:Nat) (m:Nd) (A:Option Addr) (n c:Nat):World:=((((((((((((w.setCell ⟨p,0,none⟩ (.int .u8 m.op)).setCell ⟨p,1,none⟩ (.int .u8 m.bop)).setCell ⟨p,2,none⟩ (.int .i64 m.d)).setCell ⟨p,3,none⟩ (.int .i64 m.e)).setCell ⟨p,4,none⟩ (.int .i64 m.a)).setCell ⟨p,5,none⟩ (.int .i64 m.b)).setCell ⟨p,6,none⟩ (.int .i64 m.f)).setCell ⟨p,7,none⟩ (.int .i64 m.cell)).setCell ⟨p,8,none⟩ (.int .u64 m.imm)).setCell ⟨p,9,none⟩ (.slice A n c)).setCell ⟨p,10,none⟩ (.int .i64 m.next)).setCell ⟨p,11,none⟩ (.int .i64 m.els))
def ndC (m:Nd) (A:Option Addr) (n c:Nat):Array Value:=#[.int .u8 m.op,.int .u8 m.bop,.int .i64 m.d,.int .i64 m.e,.int .i64 m.a,.int .i64 m.b,.int .i64 m.f,.int .i64 m.cell,.int .u64 m.imm,.slice A n c,.int .i64 m.next,.int .i64 m.els]
theorem ndSet_blk {w:World} {p:Nat} {t:TypeId} (m:Nd) (A:Option Addr) (n c:Nat) (h:Blk w p t zero12):Blk (ndSet w p m A n c) p t (ndC m A n c):=by
 have h1:=((((((((((((h.set_ 0 (.int .u8 m.op)).set_ 1 (.int .u8 m.bop)).set_ 2 (.int .i64 m.d)).set_ 3 (.int .i64 m.e)).set_ 4 (.int .i64 m.a)).set_ 5 (.int .i64 m.b)).set_ 6 (.int .i64 m.f)).set_ 7 (.int .i64 m.cell)).set_ 8 (.int .u64 m.imm)).set_ 9 (.slice A n c)).set_ 10 (.int .i64 m.next)).set_ 11 (.int .i64 m.els))
 simp only [zero12,List.setIfInBounds_toArray,List.set_cons_zero,List.set_cons_succ] at h1
 exact h1
theorem ndSet_below {a w:World} {B p:Nat} (m:Nd) (A:Option Addr) (n c:Nat) (h:Below B a w) (hp:B≤p):Below B a (ndSet w p m A n c):=by
 unfold ndSet
 exact (((((((((((h.setCell hp _).setCell hp _).setCell hp _).setCell hp _).setCell hp _).setCell hp _).setCell hp _).setCell hp _).setCell hp _).setCell hp _).setCell hp _).setCell hp _
theorem ndSet_far {w:World} {p i:Nat} (m:Nd) (A:Option Addr) (n c:Nat) (hp:i≠p):(ndSet w p m A n c).heap[i]?=w.heap[i]?:=by
 unfold ndSet
 exact (Below.heap_setCell _ ⟨p,11,none⟩ _ i hp).trans ((Below.heap_setCell _ ⟨p,10,none⟩ _ i hp).trans ((Below.heap_setCell _ ⟨p,9,none⟩ _ i hp).trans ((Below.heap_setCell _ ⟨p,8,none⟩ _ i hp).trans ((Below.heap_setCell _ ⟨p,7,none⟩ _ i hp).trans ((Below.heap_setCell _ ⟨p,6,none⟩ _ i hp).trans ((Below.heap_setCell _ ⟨p,5,none⟩ _ i hp).trans ((Below.heap_setCell _ ⟨p,4,none⟩ _ i hp).trans ((Below.heap_setCell _ ⟨p,3,none⟩ _ i hp).trans ((Below.heap_setCell _ ⟨p,2,none⟩ _ i hp).trans ((Below.heap_setCell _ ⟨p,1,none⟩ _ i hp).trans (Below.heap_setCell _ ⟨p,0,none⟩ _ i hp)))))))))))
theorem ndSet_own {w:World} {base p k:Nat} {e t:TypeId} {v:Value} {xs:List Value} (m:Nd) (A:Option Addr) (n c:Nat) (h:w.ownsRow base e 1 v k xs) (hz:Blk w p t zero12) (hne:e≠t):(ndSet w p m A n c).ownsRow base e 1 v k xs :=
 own_kept h fun i hi=>by
  have hp:i≠p:=fun hip=>own_blk_ne h hz hne (by rw [hi,hip])
  unfold ndSet
  exact (Below.heap_setCell _ ⟨p,11,none⟩ _ i hp).trans ((Below.heap_setCell _ ⟨p,10,none⟩ _ i hp).trans ((Below.heap_setCell _ ⟨p,9,none⟩ _ i hp).trans ((Below.heap_setCell _ ⟨p,8,none⟩ _ i hp).trans ((Below.heap_setCell _ ⟨p,7,none⟩ _ i hp).trans ((Below.heap_setCell _ ⟨p,6,none⟩ _ i hp).trans ((Below.heap_setCell _ ⟨p,5,none⟩ _ i hp).trans ((Below.heap_setCell _ ⟨p,4,none⟩ _ i hp).trans ((Below.heap_setCell _ ⟨p,3,none⟩ _ i hp).trans ((Below.heap_setCell _ ⟨p,2,none⟩ _ i hp).trans ((Below.heap_setCell _ ⟨p,1,none⟩ _ i hp).trans (Below.heap_setCell _ ⟨p,0,none⟩ _ i hp)))))))))))
def EffPost (W:World) (m:Nd) (e:Ending) (w':World):Prop:=∃ A c,e=.returned (ndV m A c)∧w'.ownsRow W.heap.size 3 1 (.slice A m.args.length c) m.args.length (i64c m.args)∧Below W.heap.size W w'
theorem own_below {w w':World} {base size n:Nat} {e:TypeId} {v:Value} {xs:List Value} (h:w.ownsRow base e size v n xs) (hb:Below w.heap.size w w'):w'.ownsRow base e size v n xs:=own_kept h fun i hi=>hb.block i (own_block_le h hi).2
theorem list_at {l:List Int} {j:Nat} (h:j<l.length):l[j]?=some (l.getD j 0):=by
 rw [List.getD_eq_getElem?_getD,List.getElem?_eq_getElem h]
 rfl
theorem ndV_args {g:Nd} {n:Nat} (h:g.args.length=n) (A:Option Addr) (c:Nat):ndV g A c=.agg (ndC g A n c):=by
 subst h
 rfl
theorem getB_args (cells:List Int) (l to:Int):(getB cells l to).args.length=0:=by unfold getB;split <;> rfl
theorem setB_args (cells:List Int) (l fr:Int):(setB cells l fr).args.length=0:=by unfold setB;split <;> rfl
theorem effPost_letter {W w':World} {m g:Nd} {e:Ending} (hm:m=g) (hg:g.args=[]) (he:e=.returned (ndV g none 0)) (hb:Below W.heap.size W w'):EffPost W m e w':=by
 subst hm
 exact ⟨none,0,by rw [he],by rw [hg];exact own_none _ _ _ _,hb⟩
section
variable {W:World} {B bb n nc cc l:Nat} {fa ca:Option Addr} {rs:List Q.Raw} {r:Q.Raw} {cells:List Int}
theorem getD_cast {l:Nat} {cells:List Int} {x:Int} (h:cells[l]?=some x):cells.getD ((l:Int).toNat) 0=x:=by
 rw [Int.toNat_natCast,List.getD_eq_getElem?_getD,h]
 rfl
theorem set_BR (h:BR W B bb fa n nc rs r ca cc cells) (hB:B≤W.heap.size) (hl:l<cells.length) (fr:Int) :
  Calls Try.prog 85 #[.pointer (some ⟨bb,0,none⟩),.int .i64 l,.int .i64 fr] W fun e w'=>e=.returned (ndV (setB cells l fr) none 0)∧Below W.heap.size W w':=by
 obtain ⟨cb,co,x,rfl,hcb,HX,x1⟩:=h.ce.int hl
 have h1:=set_any bb cb co cells.length cc l x fr W h.c8 (by have:=h.lt;omega) hl x1 (by omega) (by have:=h.cl;have:=h.ll;omega)
 unfold setB
 rw [getD_cast HX.out]
 exact h1
theorem get_BR (h:BR W B bb fa n nc rs r ca cc cells) (hB:B≤W.heap.size) (hl:l<cells.length) (to:Int) :
  Calls Try.prog 84 #[.pointer (some ⟨bb,0,none⟩),.int .i64 l,.int .i64 to] W fun e w'=>e=.returned (ndV (getB cells l to) none 0)∧Below W.heap.size W w':=by
 obtain ⟨cb,co,x,rfl,hcb,HX,x1⟩:=h.ce.int hl
 have h1:=get_any bb cb co cells.length cc l x to W h.c8 (by have:=h.lt;omega) hl x1 (by omega) (by have:=h.cl;have:=h.ll;omega)
 unfold getB
 rw [getD_cast HX.out]
 exact h1
end
theorem own_more2 {w:World} {base size n:Nat} {e:TypeId} {v:Value} {xs:List Value} (h:w.ownsRow base e size v n xs):w.ownsRow base e size v n xs:=h
theorem need_no (bb cb co cn cc l:Nat) (x:Int) (W:World) (h8:W.cell? ⟨bb,8,none⟩=some (.slice (some ⟨cb,co,none⟩) cn cc)) (hl:l<cn) (hcn:cn≤100000) (hx:W.cell? ⟨cb,co+l,none⟩=some (.int .i64 x)) (hn:x≠-1) :
  Calls Try.prog 33 #[.pointer (some ⟨bb,0,none⟩),.int .i64 l] W fun e w'=>e=.returned (.tuple #[])∧w'=W:=by
 have gw:IntKind.i64.wrap (l:Int)=(l:Int):=bi64 (by omega)
 have g1:(x == -1)=false:=by simpa using hn
 clear hn
 go_enter Try.func33,Try.ntmps33
 go_wp2
 go_end0
 exact ⟨rfl,rfl⟩
theorem need_yes (bb cb co cn cc l c:Nat) (W:World) (h8:W.cell? ⟨bb,8,none⟩=some (.slice (some ⟨cb,co,none⟩) cn cc)) (hl:l<cn) (hcn:cn≤100000) (hx:W.cell? ⟨cb,co+l,none⟩=some (.int .i64 (-1))) (h9:W.cell? ⟨bb,9,none⟩=some (.int .i64 c)) (hc:c≤100000) (hne:¬ bb=cb) (f1:W.frozen? ⟨cb,co+l,none⟩=false) (f2:W.frozen? ⟨bb,9,none⟩=false) :
  Calls Try.prog 33 #[.pointer (some ⟨bb,0,none⟩),.int .i64 l] W fun e w'=>e=.returned (.tuple #[])∧w'=((W.setCell ⟨cb,co+l,none⟩ (.int .i64 c)).setCell ⟨bb,9,none⟩ (.int .i64 ((c+1:Nat):Int))).drew:=by
 have gw:IntKind.i64.wrap (l:Int)=(l:Int):=bi64 (by omega)
 obtain ⟨c1,hc1⟩:∃ c1:Int,c1=((c+1:Nat):Int):=⟨_,rfl⟩
 have gc:IntKind.i64.wrap ((c:Int)+1)=c1:=by
  rw [hc1,show (c:Int)+1=((c+1:Nat):Int) by omega]
  exact bi64 (by omega)
 have gc':(c:Int)+1=c1:=by omega
 have hne':¬ cb=bb:=fun e=>hne e.symm
 rw [← hc1]
 clear hc1
 go_enter Try.func33,Try.ntmps33
 go_wp2
 go_still_tail 10,(by kernel_rfl)
 change wpList _ _ _ _ _ W.drew
 go_wp2
 go_end0
 exact ⟨rfl,rfl⟩
theorem brows_reads (w:World) (t:TypeId) (cs:List Value) (n size:Nat) (hs:cs.length=n*size):Reads (w.alloc (.cells cs.toArray t)) (w.heap.size+1) size (some ⟨w.heap.size,0,none⟩) n cs :=
 ⟨hs,fun _=>⟨_,rfl,by simp,fun j u hj=>by
  have ea:(⟨w.heap.size,0,none⟩:Addr).add j=⟨w.heap.size,j,none⟩:=by simp [Addr.add];exact Eq.symm
  rw [ea,(Blk.new w t _).cell]
  simpa using hj⟩⟩
theorem kinds_snoc (l:List Int) (j:Nat):l ++ (List.replicate (j+1) [(0:Int),1]).flatten=(l ++ (List.replicate j [(0:Int),1]).flatten) ++ [0,1]:=by
 rw [List.replicate_succ',List.flatten_append,List.append_assoc]
 rfl
theorem kinds_len (l:List Int) (j:Nat):(l ++ (List.replicate j [(0:Int),1]).flatten).length=l.length+2*j:=by
 induction j with
 | zero=>simp
 | succ j ih=>rw [kinds_snoc,List.length_append,ih];simp;omega
theorem bkinds_any (bb B:Nat) (lo:Option Addr) (L lc:Nat) (l:List Int) (W:World) (h2:W.cell? ⟨bb,2,none⟩=some (.slice lo L lc)) (hlo:Reads W B 1 lo L (u8c l)) (hl:l.length=L) (hL:L≤100000) (hB:B≤W.heap.size) :
  Calls Try.prog 34 #[.pointer (some ⟨bb,0,none⟩)] W fun e w'=>∃ A c,e=.returned (.slice A (L+32) c)∧w'.ownsRow W.heap.size 46 1 (.slice A (L+32) c) (L+32) (u8c (l ++ (List.replicate 16 [(0:Int),1]).flatten))∧Below W.heap.size W w':=by
 have HLO:=Lib.hid hlo
 have HL:=Lib.hid hl
 have HLL:=Lib.hid hL
 clear hlo hl hL
 go_enter Try.func34,Try.ntmps34
 go_wp2_with (at_builtin;refine app_kind rfl (.tmp 4) (.tmp 9) rfl W.heap.size (.slice none 0 0) 0 [] rfl (own_none _ _ _ _) B lo L lc (u8c l) rfl HLO.out (u8c_one l) (by have:=HLL.out;omega) (Nat.le_refl _) ?_;intro v' w1 hown hgr hor;have HO1:=Lib.hid hown;have HB1:Hid (Below W.heap.size W w1):=Lib.hid ((Below.refl W.heap.size W).grown hgr (Nat.le_refl _) (fun k hk=>by cases hk));clear hown hgr hor)
 go_loopw [3,11] (fun v i wr=>∃ j:Nat,j≤16∧i=.int .i64 j∧Hid (wr.ownsRow W.heap.size 46 1 v (L+2*j) (u8c (l ++ (List.replicate j [(0:Int),1]).flatten)))∧Hid (Below W.heap.size W wr)) (fun _ i _=>16-(intOf i).toNat)
 case atStart=>exact ⟨0,by omega,rfl,by simpa using HO1,HB1⟩
 case round =>
  obtain ⟨j,hj,rfl,HO,HB⟩:=hrel
  obtain ⟨A,c,rfl⟩:=own_slice HO.out
  have hws:=HB.out.size
  by_cases hlt:j<16
  ·go_wp2_with (at_builtin;refine app_kind rfl (.tmp 13) (.tmp 14) rfl W.heap.size _ (L+2*j) _ rfl (own_alloc HO.out _) _ (some ⟨_,0,none⟩) 2 2 [.int .u8 0,.int .u8 1] rfl (brows_reads wr 46 [.int .u8 0,.int .u8 1] 2 1 rfl) (u8c_one [0,1]) (by have:=HLL.out;omega) (by simp;omega) ?_;intro v' w3 hown hgr hor;have HO3:=Lib.hid hown;have HG3:=Lib.hid hgr;clear hown hgr hor)
   go_roundw
   case rel =>
    refine ⟨j+1,by omega,by go_num,?_,Lib.hid ((HB.out.alloc hws _).grown HG3.out (by simp;omega) fun g hg=>(own_block_le HO.out hg).1)⟩
    rw [kinds_snoc,show u8c ((l ++ (List.replicate j [(0:Int),1]).flatten) ++ [0,1])=u8c (l ++ (List.replicate j [(0:Int),1]).flatten) ++ [.int .u8 0,.int .u8 1] by simp [u8c],show L+2*(j+1)=L+2*j+2 by omega]
    exact HO3
   case measure=>simp [intOf];omega
  ·obtain rfl:j=16:=by omega
   go_wp2
   go_ret
   exact ⟨A,c,rfl,HO.out,HB.out⟩
structure NuI (W:World) (B bb cb L:Nat) (v0 v1 v2 v3 v4 v5 v6:Value) (cells:List Int) (cnt:Nat) (NA:Option Addr) (k cN:Nat) (nodes:List Int) (wr:World):Prop where
 box:Blk wr bb 81 #[v0,v1,v2,v3,v4,v5,v6,.slice NA k cN,.slice (some ⟨cb,0,none⟩) L L,.int .i64 cnt]
 cblk:Blk wr cb 3 (i64c cells).toArray
 len:cells.length=L
 own:wr.ownsRow (cb+1) 3 1 (.slice NA k cN) k (i64c nodes)
 below:Below B W wr
 ltb:B≤bb
 ltc:bb<cb
section
variable {W wr w':World} {B bb cb L:Nat} {v0 v1 v2 v3 v4 v5 v6:Value} {cells:List Int} {cnt:Nat} {NA:Option Addr} {k cN:Nat} {nodes:List Int}
theorem NuI.setc (h:NuI W B bb cb L v0 v1 v2 v3 v4 v5 v6 cells cnt NA k cN nodes wr) (l:Nat) (x:Int):NuI W B bb cb L v0 v1 v2 v3 v4 v5 v6 (cells.set l x) cnt NA k cN nodes (wr.setCell ⟨cb,l,none⟩ (.int .i64 x)):=by
 have hl:=h.ltc
 have hb:=h.ltb
 refine ⟨h.box.far (p:=⟨cb,l,none⟩) (by show bb≠cb;omega) _,?_,by simp [h.len],?_,h.below.setCell (p:=⟨cb,l,none⟩) (by show B≤cb;omega) _,hb,hl⟩
 ·have h1:=h.cblk.set_ l (.int .i64 x)
  rw [List.setIfInBounds_toArray] at h1
  rw [show i64c (cells.set l x)=(i64c cells).set l (.int .i64 x) by unfold i64c;exact List.map_set]
  exact h1
 ·exact own_kept h.own fun i hi=>Below.heap_setCell _ _ _ _ (by have:=(own_block_le h.own hi).1;show i≠cb;omega)
theorem NuI.count (h:NuI W B bb cb L v0 v1 v2 v3 v4 v5 v6 cells cnt NA k cN nodes wr) (c:Nat):NuI W B bb cb L v0 v1 v2 v3 v4 v5 v6 cells c NA k cN nodes (wr.setCell ⟨bb,9,none⟩ (.int .i64 c)):=by
 have hl:=h.ltc
 have hb:=h.ltb
 exact ⟨h.box.set_ 9 (.int .i64 c),h.cblk.far (p:=⟨bb,9,none⟩) (by show cb≠bb;omega) _,h.len,own_kept h.own fun i hi=>Below.heap_setCell _ _ _ _ (by have:=(own_block_le h.own hi).1;show i≠bb;omega),h.below.setCell (p:=⟨bb,9,none⟩) hb _,hb,hl⟩
theorem NuI.drew (h:NuI W B bb cb L v0 v1 v2 v3 v4 v5 v6 cells cnt NA k cN nodes wr):NuI W B bb cb L v0 v1 v2 v3 v4 v5 v6 cells cnt NA k cN nodes wr.drew:=⟨h.box.drew,h.cblk.drew,h.len,h.own,h.below.drew,h.ltb,h.ltc⟩
theorem NuI.alloc (h:NuI W B bb cb L v0 v1 v2 v3 v4 v5 v6 cells cnt NA k cN nodes wr) (hB:B≤wr.heap.size) (o:Obj):NuI W B bb cb L v0 v1 v2 v3 v4 v5 v6 cells cnt NA k cN nodes (wr.alloc o):=⟨h.box.alloc o,h.cblk.alloc o,h.len,own_alloc h.own o,h.below.alloc hB o,h.ltb,h.ltc⟩
theorem NuI.push {v':Value} {o:Obj} {x:Int} (h:NuI W B bb cb L v0 v1 v2 v3 v4 v5 v6 cells cnt NA k cN nodes wr) (hown:w'.ownsRow (cb+1) 3 1 v' (k+1) (i64c nodes ++ [.int .i64 x])) (hgr:(wr.alloc o).grownBy w' (Value.slice NA k cN).ownBlock) :
  ∃ A' c',v'=.slice A' (k+1) c'∧w'.frozen? ⟨bb,7,none⟩=false∧w'.cell? ⟨bb,7,none⟩=some (.slice NA k cN)∧Hid (NuI W B bb cb L v0 v1 v2 v3 v4 v5 v6 cells cnt A' (k+1) c' (nodes ++ [x]) (w'.setCell ⟨bb,7,none⟩ v')):=by
 have hl:=h.ltc
 have hb:=h.ltb
 obtain ⟨A',c',rfl⟩:=own_slice hown
 have hO:=own_alloc h.own o
 have hz:=h.box.lt
 have hbx:Blk w' bb 81 _:=(h.box.alloc o).grown hgr fun e=>by have:=(own_block_le hO e.symm).1;omega
 have hcb:Blk w' cb 3 _:=(h.cblk.alloc o).grown hgr fun e=>by have:=(own_block_le hO e.symm).1;omega
 have hB:B≤wr.heap.size:=by omega
 have hbl:Below B W w':=(h.below.alloc hB o).grown hgr (by simp;omega) fun g hg=>by have:=(own_block_le hO hg).1;omega
 refine ⟨A',c',rfl,hbx.frozen 7,hbx.cell 7,Lib.hid ⟨hbx.set_ 7 (.slice A' (k+1) c'),hcb.far (p:=⟨bb,7,none⟩) (by show cb≠bb;omega) _,h.len,?_,hbl.setCell (p:=⟨bb,7,none⟩) hb _,hb,hl⟩⟩
 rw [show i64c (nodes ++ [x])=i64c nodes ++ [.int .i64 x] by simp [i64c]]
 exact own_kept hown fun i hi=>Below.heap_setCell _ _ _ _ (by have:=(own_block_le hown hi).1;show i≠bb;omega)
theorem NuI.need (h:NuI W B bb cb L v0 v1 v2 v3 v4 v5 v6 cells cnt NA k cN nodes wr) (l:Nat) (hl:l<L) (hL:L≤100000) (hc:cnt≤100000) :
  Calls Try.prog 33 #[.pointer (some ⟨bb,0,none⟩),.int .i64 l] wr fun e w'=>e=.returned (.tuple #[])∧NuI W B bb cb L v0 v1 v2 v3 v4 v5 v6 (needB (cells,cnt) l).1 (needB (cells,cnt) l).2 NA k cN nodes w':=by
 have hll:l<cells.length:=by have:=h.len;omega
 have h8:wr.cell? ⟨bb,8,none⟩=some (.slice (some ⟨cb,0,none⟩) L L):=h.box.cell 8
 have h9:wr.cell? ⟨bb,9,none⟩=some (.int .i64 cnt):=h.box.cell 9
 have hx:wr.cell? ⟨cb,0+l,none⟩=some (.int .i64 (cells.getD l 0)):=by
  rw [Nat.zero_add,h.cblk.cell,List.getElem?_toArray]
  exact i64c_at (list_at hll)
 by_cases hn:cells.getD l 0=-1
 ·rw [hn] at hx
  have hv:needB (cells,cnt) l=(cells.set l cnt,cnt+1):=by
   unfold needB
   rw [Int.toNat_natCast,if_pos hn]
  rw [hv]
  refine (need_yes bb cb 0 L L l cnt wr h8 hl hL hx h9 hc (by have:=h.ltc;omega) (by rw [Nat.zero_add];exact h.cblk.frozen l) (h.box.frozen 9)).mono ?_
  rintro e w' ⟨rfl,rfl⟩
  rw [Nat.zero_add]
  exact ⟨rfl,((h.setc l cnt).count (cnt+1)).drew⟩
 ·have hv:needB (cells,cnt) l=(cells,cnt):=by
   unfold needB
   rw [Int.toNat_natCast,if_neg hn]
  rw [hv]
  refine (need_no bb cb 0 L L l _ wr h8 hl hL hx hn).mono ?_
  rintro e w' ⟨rfl,rfl⟩
  exact ⟨rfl,h⟩
end
def cntB (l:List (Option Q.Stk)) (k:Nat):Nat:=(l.take k).countP Option.isSome
theorem cntB_succ {l:List (Option Q.Stk)} {k:Nat} {x:Option Q.Stk} (h:l[k]?=some x):cntB l (k+1)=cntB l k+(if x.isSome=true then 1 else 0):=by
 unfold cntB
 rw [List.take_add_one,h]
 simp only [Option.toList_some,List.countP_append,List.countP_cons,List.countP_nil,Nat.zero_add]
theorem nodesB_at:∀ (l:List (Option Q.Stk)) (n k:Nat) (x:Option Q.Stk),l[k]?=some x→(nodesB n l)[k]?=some (if x.isSome=true then ((n+cntB l k:Nat):Int) else -1)
 | [],_,_,_,h=>by simp at h
 | y :: l,n,0,x,h=>by
  obtain rfl:y=x:=by simpa using h
  cases y with
  | none=>rfl
  | some s=>simp [nodesB,cntB]
 | y :: l,n,k+1,x,h=>by
  have h':l[k]?=some x:=by simpa using h
  cases y with
  | none =>
   have:=nodesB_at l n k x h'
   simpa [nodesB,cntB,List.take_succ_cons,List.countP_cons] using this
  | some s =>
   have:=nodesB_at l (n+1) k x h'
   rw [show (nodesB n (some s :: l))[k+1]?=(nodesB (n+1) l)[k]? by simp [nodesB],this]
   have e:cntB (some s :: l) (k+1)=cntB l k+1:=by simp [cntB,List.take_succ_cons,List.countP_cons]
   rw [e,show n+1+cntB l k=n+(cntB l k+1) by omega]
theorem nodesB_len:∀ (l:List (Option Q.Stk)) (n:Nat),(nodesB n l).length=l.length
 | [],_=>rfl
 | none :: l,n=>by simp [nodesB,nodesB_len l n]
 | some s :: l,n=>by simp [nodesB,nodesB_len l (n+1)]
theorem nodesB_take {l:List (Option Q.Stk)} {k:Nat} {x:Option Q.Stk} (h:l[k]?=some x):(nodesB 0 l).take (k+1)=(nodesB 0 l).take k ++ [if x.isSome=true then ((cntB l k:Nat):Int) else -1]:=by
 rw [List.take_add_one,nodesB_at l 0 k x h,Nat.zero_add]
 rfl
def cellF (x:List Int × Nat) (p:Q.Ins × Option Q.Stk):List Int × Nat:=if p.2.isSome∧p.1.op=4 then needB x p.1.arg else x
def cell0 (f:Q.Fn):List Int × Nat:=if f.keep=-1 then (List.replicate f.locals.length (-1),0) else needB (List.replicate f.locals.length (-1),0) f.keep
def cellK (f:Q.Fn) (l:List (Option Q.Stk)) (k:Nat):List Int × Nat:=((f.code.zip l).take k).foldl cellF (cell0 f)
theorem cellK_all {f:Q.Fn} {l:List (Option Q.Stk)} (h:l.length=f.code.length):cellK f l f.code.length=cellsB f l:=by
 unfold cellK cellsB cell0
 rw [List.take_of_length_le (by simp [h])]
 rfl
theorem cellK_succ {f:Q.Fn} {l:List (Option Q.Stk)} {k:Nat} {i:Q.Ins} {x:Option Q.Stk} (hi:f.code[k]?=some i) (hx:l[k]?=some x):cellK f l (k+1)=if x.isSome=true∧i.op=4 then needB (cellK f l k) i.arg else cellK f l k:=by
 unfold cellK
 have hz:(f.code.zip l)[k]?=some (i,x):=by
  rw [List.getElem?_zip_eq_some]
  exact ⟨hi,hx⟩
 rw [List.take_add_one,hz,List.foldl_append]
 rfl
theorem needB_len (x:List Int × Nat) (l:Int):(needB x l).1.length=x.1.length:=by unfold needB;split <;> simp
theorem needB_cnt (x:List Int × Nat) (l:Int):(needB x l).2≤x.2+1:=by unfold needB;split <;> simp
theorem cellK_cnt {f:Q.Fn} {l:List (Option Q.Stk)} (hl:l.length=f.code.length):∀ k,k≤f.code.length→(cellK f l k).2≤k+1
 | 0,_=>by
  unfold cellK cell0
  simp only [List.take_zero,List.foldl_nil]
  split
  ·omega
  ·exact needB_cnt _ _
 | k+1,hk=>by
  have ih:=cellK_cnt hl k (by omega)
  rw [cellK_succ (List.getElem?_eq_getElem (show k<f.code.length by omega)) (List.getElem?_eq_getElem (show k<l.length by omega))]
  split
  ·have:=needB_cnt (cellK f l k) (f.code[k]).arg
   omega
  ·omega
theorem minus_succ {L j:Nat} (h:j<L):(List.replicate j (-1:Int) ++ List.replicate (L-j) 0).set j (-1)=List.replicate (j+1) (-1) ++ List.replicate (L-(j+1)) 0:=by
 rw [List.set_append_right _ _ (by simp),List.length_replicate,Nat.sub_self,show L-j=(L-(j+1))+1 by omega,List.replicate_succ,List.set_cons_zero,List.replicate_succ',List.append_assoc]
 rfl
end Go.Proofs.Ytgekmjkfnhogkaa
namespace Go.Proofs.Ytgekmjkfnhogkaa.Q
open Go.ChangeShapes Go.WideShapes Go.ChangeAt Go.RowKit
theorem Try.info46:(Try.prog.info? 46).map (fun i=>(i.zero,i.size,i.bytes))=some (some (.int .u8 0),1,1):=by kernel_rfl
theorem Try.info52:(Try.prog.info? 52).map (fun i=>(i.zero,i.size,i.bytes))=some (some (.agg #[.int .u8 0,.int .i64 0,.int .u64 0]),3,24):=by kernel_rfl
theorem Try.info41:(Try.prog.info? 41).map (fun i=>(i.zero,i.size,i.bytes))=some (some (.agg #[.int .i64 0,.slice none 0 0,.bool false,.int .i64 0,.slice none 0 0]),5,72):=by kernel_rfl
theorem Try.info5:(Try.prog.info? 5).map (fun i=>(i.zero,i.size,i.bytes))=some (some (.int .u8 0),1,1):=by kernel_rfl
theorem one_reads (w:World) (t:TypeId) (cs:List Value) (size:Nat) (hs:cs.length=size):Reads (w.alloc (.cells cs.toArray t)) (w.heap.size+1) size (some ⟨w.heap.size,0,none⟩) 1 cs :=
 ⟨by omega,fun _=>⟨_,rfl,by simp,fun j u hj=>by
  have ea:(⟨w.heap.size,0,none⟩:Addr).add j=⟨w.heap.size,j,none⟩:=by simp [Addr.add];exact Eq.symm
  rw [ea,(Blk.new w t _).cell]
  simpa using hj⟩⟩

/-! append at the four types -/
theorem app_kind {w:World} {ops:Array Oper} {rest:List Oper} {o:Oper} {a:Act} {Q:Exit→Act→World→Prop} (hgd:o.guard=none) (s x:Operand)
  (ho:o.op=.call { callee:=.builtin .append,args:=#[s,x],argTypes:=#[38,38] }) (base:Nat)
  (v:Value) (n:Nat) (xs:List Value) (hs:a.eval s=v) (hown:w.ownsRow base 46 1 v n xs)
  (B:Nat) (A:Option Addr) (m c:Nat) (news:List Value) (hx:a.eval x=.slice A m c) (hr:Reads w B 1 A m news) (h1:∀ u ∈ news,u.oneCell'=true)
  (hbytes:(n+m)*1≤140737488355328) (hbase:base≤w.heap.size)
  (h:∀ v' w',w'.ownsRow base 46 1 v' (n+m) (xs ++ news)→w.grownBy w' v.ownBlock→(v'.ownBlock=v.ownBlock∨v'.ownBlock=some w.heap.size)→wpList Try.prog ops Q rest (a.put o.dst v') w'):wpList Try.prog ops Q (o :: rest) a w:=by
 obtain ⟨i0,hi,hz0,hz1,hz2⟩:=info_parts Try.info46
 exact wpList_append_any w hgd s x _ ho base 46 i0 (.int .u8 0) 1 1 Try.underlying38 hi hz0 hz1 hz2 rfl (by decide) v n xs hs hown B A m c news hx hr h1 (by unfold maxLen;omega) hbytes hbase h
theorem app_byte {w:World} {ops:Array Oper} {rest:List Oper} {o:Oper} {a:Act} {Q:Exit→Act→World→Prop} (hgd:o.guard=none) (s x:Operand)
  (ho:o.op=.call { callee:=.builtin .append,args:=#[s,x],argTypes:=#[85,85] }) (base:Nat)
  (v:Value) (n:Nat) (xs:List Value) (hs:a.eval s=v) (hown:w.ownsRow base 5 1 v n xs)
  (B:Nat) (A:Option Addr) (m c:Nat) (news:List Value) (hx:a.eval x=.slice A m c) (hr:Reads w B 1 A m news) (h1:∀ u ∈ news,u.oneCell'=true)
  (hbytes:(n+m)*1≤140737488355328) (hbase:base≤w.heap.size)
  (h:∀ v' w',w'.ownsRow base 5 1 v' (n+m) (xs ++ news)→w.grownBy w' v.ownBlock→(v'.ownBlock=v.ownBlock∨v'.ownBlock=some w.heap.size)→wpList Try.prog ops Q rest (a.put o.dst v') w'):wpList Try.prog ops Q (o :: rest) a w:=by
 obtain ⟨i0,hi,hz0,hz1,hz2⟩:=info_parts Try.info5
 exact wpList_append_any w hgd s x _ ho base 5 i0 (.int .u8 0) 1 1 Try.underlying85 hi hz0 hz1 hz2 rfl (by decide) v n xs hs hown B A m c news hx hr h1 (by unfold maxLen;omega) hbytes hbase h
theorem step_byte {w:World} {ops:Array Oper} {o:Oper} {a:Act} {K:Act→World→Prop} {Q:Exit→Act→World→Prop} {E:Prop} (hgd:o.guard=none) (s x:Operand)
  (ho:o.op=.call { callee:=.builtin .append,args:=#[s,x],argTypes:=#[85,85] }) (base:Nat)
  (v:Value) (n:Nat) (xs:List Value) (hs:a.eval s=v) (hown:w.ownsRow base 5 1 v n xs)
  (B:Nat) (A:Option Addr) (m c:Nat) (news:List Value) (hx:a.eval x=.slice A m c) (hr:Reads w B 1 A m news) (h1:∀ u ∈ news,u.oneCell'=true)
  (hbytes:(n+m)*1≤140737488355328) (hbase:base≤w.heap.size)
  (h:∀ v' w',w'.ownsRow base 5 1 v' (n+m) (xs ++ news)→w.grownBy w' v.ownBlock→(v'.ownBlock=v.ownBlock∨v'.ownBlock=some w.heap.size)→K (a.put o.dst v') w') :
  if Region.wanted o (yielded ops a.tmps)=true then Oper.wp Try.prog o a w K Q else E:=by
 obtain ⟨i0,hi,hz0,hz1,hz2⟩:=info_parts Try.info5
 exact step_append_any w hgd s x _ ho base 5 i0 (.int .u8 0) 1 1 Try.underlying85 hi hz0 hz1 hz2 rfl (by decide) v n xs hs hown B A m c news hx hr h1 (by unfold maxLen;omega) hbytes hbase h
theorem app_ins {w:World} {ops:Array Oper} {rest:List Oper} {o:Oper} {a:Act} {Q:Exit→Act→World→Prop} (hgd:o.guard=none) (s x:Operand)
  (ho:o.op=.call { callee:=.builtin .append,args:=#[s,x],argTypes:=#[39,39] }) (base:Nat)
  (v:Value) (n:Nat) (xs:List Value) (hs:a.eval s=v) (hown:w.ownsRow base 52 3 v n xs)
  (B:Nat) (A:Option Addr) (m c:Nat) (news:List Value) (hx:a.eval x=.slice A m c) (hr:Reads w B 3 A m news) (h1:∀ u ∈ news,u.oneCell'=true)
  (hbytes:(n+m)*24≤140737488355328) (hbase:base≤w.heap.size)
  (h:∀ v' w',w'.ownsRow base 52 3 v' (n+m) (xs ++ news)→w.grownBy w' v.ownBlock→(v'.ownBlock=v.ownBlock∨v'.ownBlock=some w.heap.size)→wpList Try.prog ops Q rest (a.put o.dst v') w'):wpList Try.prog ops Q (o :: rest) a w:=by
 obtain ⟨i0,hi,hz0,hz1,hz2⟩:=info_parts Try.info52
 exact wpList_append_any w hgd s x _ ho base 52 i0 (.agg #[.int .u8 0,.int .i64 0,.int .u64 0]) 3 24 Try.underlying39 hi hz0 hz1 hz2 rfl (by decide) v n xs hs hown B A m c news hx hr h1 (by unfold maxLen;omega) hbytes hbase h
theorem app_fn {w:World} {ops:Array Oper} {rest:List Oper} {o:Oper} {a:Act} {Q:Exit→Act→World→Prop} (hgd:o.guard=none) (s x:Operand)
  (ho:o.op=.call { callee:=.builtin .append,args:=#[s,x],argTypes:=#[22,22] }) (base:Nat)
  (v:Value) (n:Nat) (xs:List Value) (hs:a.eval s=v) (hown:w.ownsRow base 41 5 v n xs)
  (B:Nat) (A:Option Addr) (m c:Nat) (news:List Value) (hx:a.eval x=.slice A m c) (hr:Reads w B 5 A m news) (h1:∀ u ∈ news,u.oneCell'=true)
  (hbytes:(n+m)*72≤140737488355328) (hbase:base≤w.heap.size)
  (h:∀ v' w',w'.ownsRow base 41 5 v' (n+m) (xs ++ news)→w.grownBy w' v.ownBlock→(v'.ownBlock=v.ownBlock∨v'.ownBlock=some w.heap.size)→wpList Try.prog ops Q rest (a.put o.dst v') w'):wpList Try.prog ops Q (o :: rest) a w:=by
 obtain ⟨i0,hi,hz0,hz1,hz2⟩:=info_parts Try.info41
 exact wpList_append_any w hgd s x _ ho base 41 i0 (.agg #[.int .i64 0,.slice none 0 0,.bool false,.int .i64 0,.slice none 0 0]) 5 72 Try.underlying22 hi hz0 hz1 hz2 rfl (by decide) v n xs hs hown B A m c news hx hr h1 (by unfold maxLen;omega) hbytes hbase h
theorem own_grown {w w':World} {b1 b2 s1 s2 n1 n2:Nat} {e1 e2:TypeId} {v1 v2:Value} {x1 x2:List Value} (h1:w.ownsRow b1 e1 s1 v1 n1 x1) (h2:w.ownsRow b2 e2 s2 v2 n2 x2) (hg:w.grownBy w' v1.ownBlock) (hne:e2≠e1):w'.ownsRow b2 e2 s2 v2 n2 x2:=by
 refine own_kept h2 fun i hi=>hg.block i (own_block_le h2 hi).2 fun e=>?_
 rcases h1.2 with ⟨rfl,_⟩ | ⟨g,cap,cur,rfl,_,hb,_⟩
 ·simp [Value.ownBlock] at e
 ·have:i=g:=by simpa [Value.ownBlock] using e
  subst this
  exact own_blk_ne h2 (t:=e1) (cs:=cur) hb hne hi
theorem own_far {w:World} {base size n p:Nat} {e t:TypeId} {v:Value} {xs:List Value} {cs:Array Value} (h:w.ownsRow base e size v n xs) (hb:Blk w p t cs) (hne:e≠t) (i:Nat) (u:Value):(w.setCell ⟨p,i,none⟩ u).ownsRow base e size v n xs :=
 own_kept h fun j hj=>Below.heap_setCell _ _ _ _ fun hij=>own_blk_ne h hb hne (by rw [hj,hij])
theorem own_alloc {w:World} {base size n:Nat} {e:TypeId} {v:Value} {xs:List Value} (h:w.ownsRow base e size v n xs) (o:Obj):(w.alloc o).ownsRow base e size v n xs:=h.alloc o
theorem blk_grown {w w':World} {base size n p:Nat} {e t:TypeId} {v:Value} {xs:List Value} {cs:Array Value} (hb:Blk w p t cs) (h:w.ownsRow base e size v n xs) (hg:w.grownBy w' v.ownBlock) (hne:e≠t):Blk w' p t cs :=
 hb.grown hg fun e'=>own_blk_ne h hb hne e'.symm

structure OwnF (w:World) (base:Nat) (r:Raw):Prop where
 locals:w.ownsRow base 46 1 (.slice r.lo r.fn.locals.length r.lc) r.fn.locals.length (u8c r.fn.locals)
 code:w.ownsRow base 52 3 (.slice r.co r.fn.code.length r.cc) r.fn.code.length (insc r.fn.code)
theorem OwnF.rdF {w:World} {base:Nat} {r:Raw} (h:OwnF w base r):RdF w w.heap.size r:=⟨Reads.of_own h.locals,Reads.of_own h.code,own_cap h.locals⟩
theorem own_lt {W:World} {base size k:Nat} {e:TypeId} {v:Value} {xs:List Value} (h:W.ownsRow base e size v k xs) {g:Nat} (hg:v.ownBlock=some g):base≤g∧g<W.heap.size:=own_block_le h hg
theorem own_al {w:World} {base size n:Nat} {e:TypeId} {v:Value} {xs:List Value} (h:w.ownsRow base e size v n xs) (o:Obj):(w.alloc o).ownsRow base e size v n xs:=h.alloc o
theorem grown_of_drew {a b:World} {row:Option Nat} (h:a.drew.grownBy b row):a.grownBy b row:=⟨h.os,h.tape,h.output,h.size,h.block⟩
theorem reads_blk {w:World} {g size n:Nat} {t:TypeId} {cs:List Value} (h:Blk w g t cs.toArray) (hn:cs.length=n*size):Reads w w.heap.size size (some ⟨g,0,none⟩) n cs :=
 ⟨hn,fun _=>⟨_,rfl,h.lt,fun j u hj=>by
  have ea:(⟨g,0,none⟩:Addr).add j=⟨g,j,none⟩:=by simp [Addr.add];exact Eq.symm
  rw [ea,h.cell]
  simpa using hj⟩⟩
theorem made_rep (z:Value) (k:Nat):madeCells #[z] k=(List.replicate k z).toArray:=by
 apply Array.ext
 ·simp [madeCells]
 ·intro i h1 h2
  simp [madeCells,Nat.mod_one]
def NewK (w:World) (l:List Int) (e:Ending) (w':World):Prop :=
 ∃ A m c,e=.returned (.slice A m c)∧m=l.length∧w'.ownsRow w.heap.size 46 1 (.slice A m c) m (u8c l)∧Below w.heap.size w w'
def RdK (w:World) (l:List Int) (e:Ending) (w':World):Prop :=
 ∃ A m c,e=.returned (.slice A m c)∧m=l.length∧m≤c∧Reads w' w'.heap.size 1 A m (u8c l)∧Below w.heap.size w w'
theorem NewK.rdK {w w':World} {l:List Int} {e:Ending} (h:NewK w l e w'):RdK w l e w':=by
 obtain ⟨A,m,c,rfl,hm,ho,hb⟩:=h
 exact ⟨A,m,c,rfl,hm,own_cap ho,Reads.of_own ho,hb⟩
end Go.Proofs.Ytgekmjkfnhogkaa.Q
