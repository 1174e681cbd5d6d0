/-
  Texts of one seat, one behind the other: Mem, App, Own, Pl.
-/
import Derived.WalkKit
import Derived.ProofKit
import Derived.Below
import Derived.Laws.OwnMore
import Derived.Deep.AppendLies
import Derived.Deep.Draws
import Derived.Laws.Rows
import Derived.Maps.AppendAt
import Derived.RegionTactic
import Derived.OwnWalk
import Derived.Lib.Hide
import Derived.Deep.QuietTactic
import Derived.BigQuiet
import Derived.Laws.StructEq
import Derived.LoopTactic
import Derived.Outline
import Derived.WalkSpells
import Derived.WalkLawsBesides
import Derived.Maps.OwnSet
import Derived.Test.YtepkogfiojkcpaaDoorMA1

set_option linter.unusedVariables false
set_option linter.unusedSimpArgs false
set_option maxRecDepth 100000
set_option maxHeartbeats 51200000
namespace Go.Proofs.YtepkogfiojkcpaaDoor
open Go.ChangeShapes Go.WideShapes Go.ChangeAt Go.RowKit
theorem block_of_add (a:Addr) (n:Nat):(a.add n).block=a.block:=by unfold Addr.add;split <;> rfl
def Reads (w:World) (B size:Nat) (A:Option Addr) (n:Nat) (xs:List Value):Prop :=
 xs.length=n*size∧(0<n→∃ ad,A=some ad∧ad.block<B∧∀ j u,xs[j]?=some u→w.cell? (ad.add j)=some u)

section
variable {w w':World} {B B' size n:Nat} {A:Option Addr} {xs:List Value}
theorem Reads.none_:Reads w B size A 0 []:=⟨by simp,fun h=>absurd h (by omega)⟩
theorem Reads.at_ {k:Nat} (h:Reads w B 1 A n xs) (hk:k<n):∃ ad u,A=some ad∧ad.block<B∧xs[k]?=some u∧w.cell? (ad.add k)=some u:=by
 obtain ⟨ad,e,hb,hc⟩:=h.2 (by omega)
 have hl:k<xs.length:=by have:=h.1;omega
 exact ⟨ad,xs[k],e,hb,List.getElem?_eq_getElem hl,hc k _ (List.getElem?_eq_getElem hl)⟩
theorem Reads.keep (h:Reads w B size A n xs) (hk:∀ p:Addr,p.block<B→w'.cell? p=w.cell? p):Reads w' B size A n xs :=
 ⟨h.1,fun hn=>by
  obtain ⟨ad,e,hb,hc⟩:=h.2 hn
  exact ⟨ad,e,hb,fun j u hu=>(hk _ (by rw [block_of_add];exact hb)).trans (hc j u hu)⟩⟩
theorem Reads.more (h:Reads w B size A n xs) (hB:B≤B'):Reads w B' size A n xs :=
 ⟨h.1,fun hn=>by
  obtain ⟨ad,e,hb,hc⟩:=h.2 hn
  exact ⟨ad,e,by omega,hc⟩⟩
theorem Reads.below (h:Reads w B size A n xs) (hb:Below B w w'):Reads w' B size A n xs:=h.keep fun _ hp=>hb.cell hp
theorem Reads.drew (h:Reads w B size A n xs):Reads w.drew B size A n xs:=h
theorem Reads.drewN (h:Reads w B size A n xs) (k:Nat):Reads (w.drewN k) B size A n xs:=h
theorem Reads.alloc (h:Reads w B size A n xs) (hB:B≤w.heap.size) (o:Obj):Reads (w.alloc o) B size A n xs:=h.keep fun p hp=>World.cell?_alloc_lt w o p (by omega)
theorem Reads.setCell (h:Reads w B size A n xs) {p:Addr} (hB:B≤p.block) (u:Value):Reads (w.setCell p u) B size A n xs :=
 h.keep fun q hq=>World.cell?_setCell_other w p q u (fun e=>by subst e;omega)
theorem Reads.grown (h:Reads w B size A n xs) {row:Option Nat} (hg:w.grownBy w' row) (hB:B≤w.heap.size) (hr:∀ g,row=some g→B≤g):Reads w' B size A n xs :=
 h.keep fun p hp=>World.cell?_of_block (hg.block p.block (by omega) (fun e=>by have:=hr _ e.symm;omega))
theorem Reads.of_own {base:Nat} {e:TypeId} {c:Nat} (h:w.ownsRow base e size (.slice A n c) n xs):Reads w w.heap.size size A n xs:=by
 refine ⟨h.1,fun hn=>?_⟩
 obtain ⟨g,cap,hv,_,hlt⟩:=h.form hn
 have hA:A=some ⟨g,0,none⟩:=by injection hv
 subst hA
 exact ⟨_,rfl,hlt,h.cells (g:=g) rfl⟩
end
def Blk (w:World) (g:Nat) (t:TypeId) (cs:Array Value):Prop:=w.heap[g]?=some (.cells cs t (0,0))
section
variable {w w':World} {g:Nat} {t:TypeId} {cs:Array Value}
theorem Blk.lt (h:Blk w g t cs):g<w.heap.size:=by
 rcases Nat.lt_or_ge g w.heap.size with hlt | hge
 ·exact hlt
 ·unfold Blk at h;rw [Array.getElem?_eq_none hge] at h;cases h
theorem Blk.cell (h:Blk w g t cs) (i:Nat):w.cell? ⟨g,i,none⟩=cs[i]?:=cell_of_row w g i cs t (0,0) h
theorem Blk.frozen (h:Blk w g t cs) (i:Nat):w.frozen? ⟨g,i,none⟩=false:=by
 unfold Blk at h
 simp [World.frozen?,h]
theorem Blk.new (w:World) (t:TypeId) (cs:Array Value):Blk (w.alloc (.cells cs t)) w.heap.size t cs:=heap_alloc_new w _
theorem Blk.drew (h:Blk w g t cs):Blk w.drew g t cs:=h
theorem Blk.drewN (h:Blk w g t cs) (n:Nat):Blk (w.drewN n) g t cs:=h
theorem Blk.alloc (h:Blk w g t cs) (o:Obj):Blk (w.alloc o) g t cs:=(Below.heap_alloc w o g h.lt).trans h
theorem Blk.set_ (h:Blk w g t cs) (i:Nat) (u:Value):Blk (w.setCell ⟨g,i,none⟩ u) g t (cs.setIfInBounds i u):=by
 unfold Blk at h ⊢
 simp [World.setCell,Array.getElem?_modify,h]
theorem Blk.far (h:Blk w g t cs) {p:Addr} (hp:g≠p.block) (u:Value):Blk (w.setCell p u) g t cs:=(Below.heap_setCell w p u g hp).trans h
theorem Blk.below {B:Nat} (h:Blk w g t cs) (hb:Below B w w') (hg:g<B):Blk w' g t cs:=(hb.block g hg).trans h
theorem Blk.grown {row:Option Nat} (h:Blk w g t cs) (hb:w.grownBy w' row) (hg:some g≠row):Blk w' g t cs:=(hb.block g h.lt hg).trans h
theorem Blk.ne_ {g':Nat} {t':TypeId} {cs':Array Value} (h:Blk w g t cs) (h':Blk w g' t' cs') (hne:t≠t'):g≠g':=by
 rintro rfl
 unfold Blk at h h'
 rw [h] at h'
 injection h' with h'
 injection h' with _ ht
 exact hne ht
theorem own_blk_ne {base:Nat} {e:TypeId} {size n:Nat} {v:Value} {xs:List Value} (h:w.ownsRow base e size v n xs) (hg:Blk w g t cs) (hne:e≠t):v.ownBlock≠some g:=by
 rcases h.2 with ⟨rfl,_⟩ | ⟨g',cap,cur,rfl,_,hh,_⟩
 ·simp [Value.ownBlock]
 ·intro he
  have:g'=g:=by simpa [Value.ownBlock] using he
  subst this
  exact Blk.ne_ (t:=e) hh hg hne rfl
end
section
variable {P:Program} (w:World)
theorem run_append_of_nil (base:Nat) (t ty e:TypeId) (i:TypeInfo) (size:Nat) (ht:P.underlying t=some (.slice e)) (hi:P.info? e=some i)
  (v:Value) (n:Nat) (xs:List Value) (hown:w.ownsRow base e size v n xs) (c:Nat):(Builtin.append_ #[t,t] ty #[v,.slice none 0 c]).run P w=.ok v w:=by
 rcases hown.2 with ⟨rfl,rfl⟩ | ⟨g,cap,cur,rfl,_,_,hnc,_⟩
 ·simp [Builtin.append_,run_underlying ht,sizeOf,typeInfo,hi,Builtin.lenOf,Builtin.firstCells]
 ·simp [Builtin.append_,run_underlying ht,sizeOf,typeInfo,hi,Builtin.lenOf,Builtin.firstCells,hnc,storeCells]

theorem run_append_any (base:Nat) (t ty e:TypeId) (i:TypeInfo) (z:Value) (size bytes:Nat) (ht:P.underlying t=some (.slice e)) (hi:P.info? e=some i) (hz:i.zero=some z)
  (hsize:i.size=size) (hby:i.bytes=bytes) (hzs:z.cells.size=size) (hsz:0<size)
  (v:Value) (n:Nat) (xs:List Value) (hown:w.ownsRow base e size v n xs)
  (B:Nat) (A:Option Addr) (m c:Nat) (news:List Value) (hr:Reads w B size A m news) (h1:∀ u ∈ news,u.oneCell'=true)
  (h63:n+m≤maxLen) (hbytes:(n+m)*bytes≤140737488355328) (hbase:base≤w.heap.size) :
  ∃ v' w',(Builtin.append_ #[t,t] ty #[v,.slice A m c]).run P w=.ok v' w'∧w'.ownsRow base e size v' (n+m) (xs ++ news)∧w.grownBy w' v.ownBlock ∧
   (v'.ownBlock=v.ownBlock∨v'.ownBlock=some w.heap.size):=by
 rcases A with _ | ad
 ·have hm:m=0:=by
   rcases Nat.eq_zero_or_pos m with h0 | h0
   ·exact h0
   ·obtain ⟨ad,h,_⟩:=hr.2 h0
    cases h
  subst hm
  have hn:news=[]:=List.eq_nil_of_length_eq_zero (by simpa using hr.1)
  subst hn
  exact ⟨v,w,run_append_of_nil w base t ty e i size ht hi v n xs hown c,by simpa using hown,World.grownBy.refl w _,.inl rfl⟩
 ·have hcells:∀ j u,news[j]?=some u→w.cell? (ad.add j)=some u:=by
   intro j u hu
   rcases Nat.eq_zero_or_pos m with h0 | h0
   ·subst h0
    have hn:news=[]:=List.eq_nil_of_length_eq_zero (by simpa using hr.1)
    subst hn
    simp at hu
   ·obtain ⟨ad',h,_,hc⟩:=hr.2 h0
    injection h with h
    subst h
    exact hc j u hu
  obtain ⟨v',w',hrun,h2,h3,_,h5⟩:=run_append_own_at (P:=P) w base t ty e i z size bytes ht hi hz hsize hby hzs hsz v n xs hown ad m c news hr.1 hcells h1 h63 hbytes hbase
  exact ⟨v',w',hrun,h2,h3,h5⟩

theorem wp_append_any {o:Oper} {a:Act} {K:Act→World→Prop} {Q:Exit→Act→World→Prop} (s x:Operand) (t:TypeId)
  (ho:o.op=.call { callee:=.builtin .append,args:=#[s,x],argTypes:=#[t,t] })
  (base:Nat) (e:TypeId) (i:TypeInfo) (z:Value) (size bytes:Nat) (ht:P.underlying t=some (.slice e)) (hi:P.info? e=some i) (hz:i.zero=some z)
  (hsize:i.size=size) (hby:i.bytes=bytes) (hzs:z.cells.size=size) (hsz:0<size)
  (v:Value) (n:Nat) (xs:List Value) (hs:a.eval s=v) (hown:w.ownsRow base e size v n xs)
  (B:Nat) (A:Option Addr) (m c:Nat) (news:List Value) (hx:a.eval x=.slice A m c) (hr:Reads w B size A m news) (h1:∀ u ∈ news,u.oneCell'=true)
  (h63:n+m≤maxLen) (hbytes:(n+m)*bytes≤140737488355328) (hbase:base≤w.heap.size)
  (h:∀ v' w',w'.ownsRow base e size v' (n+m) (xs ++ news)→w.grownBy w' v.ownBlock→(v'.ownBlock=v.ownBlock∨v'.ownBlock=some w.heap.size)→K (a.put o.dst v') w'):o.wp P a w K Q:=by
 obtain ⟨v',w',hrun,h2,h3,h4⟩:=run_append_any (P:=P) w base t o.type e i z size bytes ht hi hz hsize hby hzs hsz v n xs hown B A m c news hr h1 h63 hbytes hbase
 unfold Oper.wp execOp
 simp only [ho,resolve,invoke,builtin,Sem.run_bind,Sem.run_pure,Result.andThen_ok,List.map_toArray,List.map_cons,List.map_nil,hs,hx,hrun]
 exact h v' w' h2 h3 h4

theorem wpList_append_any {ops:Array Oper} {rest:List Oper} {o:Oper} {a:Act} {Q:Exit→Act→World→Prop} (hgd:o.guard=none) (s x:Operand) (t:TypeId)
  (ho:o.op=.call { callee:=.builtin .append,args:=#[s,x],argTypes:=#[t,t] })
  (base:Nat) (e:TypeId) (i:TypeInfo) (z:Value) (size bytes:Nat) (ht:P.underlying t=some (.slice e)) (hi:P.info? e=some i) (hz:i.zero=some z)
  (hsize:i.size=size) (hby:i.bytes=bytes) (hzs:z.cells.size=size) (hsz:0<size)
  (v:Value) (n:Nat) (xs:List Value) (hs:a.eval s=v) (hown:w.ownsRow base e size v n xs)
  (B:Nat) (A:Option Addr) (m c:Nat) (news:List Value) (hx:a.eval x=.slice A m c) (hr:Reads w B size A m news) (h1:∀ u ∈ news,u.oneCell'=true)
  (h63:n+m≤maxLen) (hbytes:(n+m)*bytes≤140737488355328) (hbase:base≤w.heap.size)
  (h:∀ v' w',w'.ownsRow base e size v' (n+m) (xs ++ news)→w.grownBy w' v.ownBlock→(v'.ownBlock=v.ownBlock∨v'.ownBlock=some w.heap.size)→wpList P ops Q rest (a.put o.dst v') w'):wpList P ops Q (o :: rest) a w :=
 wpList_plain hgd fun _ hK=>wp_append_any w s x t ho base e i z size bytes ht hi hz hsize hby hzs hsz v n xs hs hown B A m c news hx hr h1 h63 hbytes hbase fun v' w' h2 h3 h4=>hK _ _ (h v' w' h2 h3 h4)

theorem step_append_any {ops:Array Oper} {o:Oper} {a:Act} {K:Act→World→Prop} {Q:Exit→Act→World→Prop} {E:Prop} (hgd:o.guard=none) (s x:Operand) (t:TypeId)
  (ho:o.op=.call { callee:=.builtin .append,args:=#[s,x],argTypes:=#[t,t] })
  (base:Nat) (e:TypeId) (i:TypeInfo) (z:Value) (size bytes:Nat) (ht:P.underlying t=some (.slice e)) (hi:P.info? e=some i) (hz:i.zero=some z)
  (hsize:i.size=size) (hby:i.bytes=bytes) (hzs:z.cells.size=size) (hsz:0<size)
  (v:Value) (n:Nat) (xs:List Value) (hs:a.eval s=v) (hown:w.ownsRow base e size v n xs)
  (B:Nat) (A:Option Addr) (m c:Nat) (news:List Value) (hx:a.eval x=.slice A m c) (hr:Reads w B size A m news) (h1:∀ u ∈ news,u.oneCell'=true)
  (h63:n+m≤maxLen) (hbytes:(n+m)*bytes≤140737488355328) (hbase:base≤w.heap.size)
  (h:∀ v' w',w'.ownsRow base e size v' (n+m) (xs ++ news)→w.grownBy w' v.ownBlock→(v'.ownBlock=v.ownBlock∨v'.ownBlock=some w.heap.size)→K (a.put o.dst v') w') :
  if Region.wanted o (yielded ops a.tmps)=true then Oper.wp P o a w K Q else E:=by
 have hw:Region.wanted o (yielded ops a.tmps)=true:=by simp [Region.wanted,hgd]
 rw [if_pos hw]
 exact wp_append_any w s x t ho base e i z size bytes ht hi hz hsize hby hzs hsz v n xs hs hown B A m c news hx hr h1 h63 hbytes hbase h
end
theorem below_drewN {B:Nat} {a w:World} (h:Below B a w) (n:Nat):Below B a (w.drewN n):=⟨h.os,h.tape,h.output,h.size,h.block⟩
theorem Reads.lit {w:World} {B size n:Nat} {A:Option Addr} {xs:List Value} (h:Reads w B size A n xs) (hn:0<n) (hs:0<size) :
  ∃ b off,A=some ⟨b,off,none⟩∧b<B∧∀ j u,xs[j]?=some u→w.cell? ⟨b,off+j,none⟩=some u:=by
 obtain ⟨ad,rfl,hb,hc⟩:=h.2 hn
 obtain ⟨b,off,spot⟩:=ad
 have hl:0<xs.length:=by rw [h.1];exact Nat.mul_pos hn hs
 have h0:=hc 0 _ (List.getElem?_eq_getElem hl)
 have hspot:spot=none:=by simpa [Addr.add] using World.cell?_spot h0
 subst hspot
 refine ⟨b,off,rfl,hb,fun j u hj=>?_⟩
 have ea:(⟨b,off,none⟩:Addr).add j=⟨b,off+j,none⟩:=by simp [Addr.add]
 rw [← ea];exact hc j u hj
theorem own_slice {w:World} {base size n:Nat} {e:TypeId} {v:Value} {xs:List Value} (h:w.ownsRow base e size v n xs):∃ A c,v=.slice A n c:=by
 rcases h.2 with ⟨rfl,rfl⟩ | ⟨g,cap,cur,rfl,_⟩
 ·exact ⟨_,_,rfl⟩
 ·exact ⟨_,_,rfl⟩
theorem own_kept {w w':World} {base size n:Nat} {e:TypeId} {v:Value} {xs:List Value} (h:w.ownsRow base e size v n xs) (hk:∀ i,v.ownBlock=some i→w'.heap[i]?=w.heap[i]?):w'.ownsRow base e size v n xs:=by
 obtain ⟨h1,h2⟩:=h
 refine ⟨h1,?_⟩
 rcases h2 with h2 | ⟨g,cap,cur,rfl,hg,hb,hr⟩
 ·exact .inl h2
 ·exact .inr ⟨g,cap,cur,rfl,hg,(hk g rfl).trans hb,hr⟩
theorem own_block_le {w:World} {base size n:Nat} {e:TypeId} {v:Value} {xs:List Value} (h:w.ownsRow base e size v n xs) {i:Nat} (hi:v.ownBlock=some i):base≤i∧i<w.heap.size:=by
 rcases h.2 with ⟨rfl,_⟩ | ⟨g,cap,cur,rfl,hg,hb,_⟩
 ·simp [Value.ownBlock] at hi
 ·simp [Value.ownBlock] at hi
  subst hi
  exact ⟨hg,Blk.lt (t:=e) (cs:=cur) hb⟩
theorem own_cap {w:World} {base size n c:Nat} {A:Option Addr} {e:TypeId} {xs:List Value} (h:w.ownsRow base e size (.slice A n c) n xs):n≤c:=by
 rcases h.2 with ⟨he,rfl⟩ | ⟨g,cap,cur,he,_,_,hnc,_⟩
 ·omega
 ·injection he with _ _ he;subst he;exact hnc
theorem own_none (w:World) (B:Nat) (e:TypeId) (size:Nat):w.ownsRow B e size (.slice none 0 0) 0 []:=⟨by simp,.inl ⟨rfl,rfl⟩⟩
theorem own_more {w:World} {base base' size n:Nat} {e:TypeId} {v:Value} {xs:List Value} (h:w.ownsRow base e size v n xs) (hb:base'≤base):w.ownsRow base' e size v n xs:=by
 obtain ⟨h1,h2⟩:=h
 refine ⟨h1,?_⟩
 rcases h2 with h2 | ⟨g,cap,cur,rfl,hg,hr⟩
 ·exact .inl h2
 ·exact .inr ⟨g,cap,cur,rfl,by omega,hr⟩
theorem Reads.only {w w':World} {B size n g:Nat} {A:Option Addr} {xs:List Value} (h:Reads w B size A n xs) (hg:w.grownBy w' (some g)) (hB:B≤w.heap.size) (hr:B≤g):Reads w' B size A n xs :=
 h.grown hg hB fun i hi=>by injection hi with hi;omega
def u8c (l:List Int):List Value:=l.map (Value.int .u8)
theorem length_u8c (l:List Int):(u8c l).length=l.length:=by simp [u8c]
theorem u8c_at {l:List Int} {k:Nat} {x:Int} (h:l[k]?=some x):(u8c l)[k]?=some (.int .u8 x):=by simp [u8c,h]
def i64c (l:List Int):List Value:=l.map (Value.int .i64)
theorem length_i64c (l:List Int):(i64c l).length=l.length:=by simp [i64c]
theorem i64c_append (a b:List Int):i64c (a ++ b)=i64c a ++ i64c b:=by simp [i64c]
theorem i64c_at {l:List Int} {k:Nat} {x:Int} (h:l[k]?=some x):(i64c l)[k]?=some (.int .i64 x):=by simp [i64c,h]
theorem flat_at {α:Type} (f:α→List Value) (m:Nat) (hf:∀ x,(f x).length=m) (l:List α) (k j:Nat) (x:α) (hk:l[k]?=some x) (hj:j<m):(l.flatMap f)[k*m+j]?=(f x)[j]?:=by
 induction l generalizing k with
 | nil=>simp at hk
 | cons y l ih =>
  rw [List.flatMap_cons]
  cases k with
  | zero =>
   simp at hk
   subst hk
   rw [Nat.zero_mul,Nat.zero_add,List.getElem?_append_left (by rw [hf];exact hj)]
  | succ k =>
   rw [List.getElem?_append_right (by rw [hf,Nat.succ_mul];omega),hf,show (k+1)*m+j-m=k*m+j by rw [Nat.succ_mul];omega]
   exact ih k (by simpa using hk)
theorem Reads.byte {w:World} {B n:Nat} {A:Option Addr} {l:List Int} (h:Reads w B 1 A n (u8c l)) {k:Nat} (hk:k<n) :
  ∃ b off x,A=some ⟨b,off,none⟩∧b<B∧Hid (l[k]?=some x)∧w.cell? ⟨b,off+k,none⟩=some (.int .u8 x):=by
 obtain ⟨b,off,rfl,hb,hc⟩:=h.lit (by omega) (by omega)
 have hl:k<l.length:=by have:=h.1;rw [length_u8c] at this;omega
 exact ⟨b,off,l[k],rfl,hb,List.getElem?_eq_getElem hl,hc _ _ (u8c_at (List.getElem?_eq_getElem hl))⟩
theorem Reads.int {w:World} {B n:Nat} {A:Option Addr} {l:List Int} (h:Reads w B 1 A n (i64c l)) {k:Nat} (hk:k<n) :
  ∃ b off x,A=some ⟨b,off,none⟩∧b<B∧Hid (l[k]?=some x)∧w.cell? ⟨b,off+k,none⟩=some (.int .i64 x):=by
 obtain ⟨b,off,rfl,hb,hc⟩:=h.lit (by omega) (by omega)
 have hl:k<l.length:=by have:=h.1;rw [length_i64c] at this;omega
 exact ⟨b,off,l[k],rfl,hb,List.getElem?_eq_getElem hl,hc _ _ (i64c_at (List.getElem?_eq_getElem hl))⟩
def I64 (x:Int):Prop:=-9223372036854775808≤x∧x≤9223372036854775807
structure RN where
 nd:Nd
 ao:Option Addr
 ac:Nat
def rnOne (i:RN):List Value:=[.int .u8 i.nd.op,.int .u8 i.nd.bop,.int .i64 i.nd.d,.int .i64 i.nd.e,.int .i64 i.nd.a,.int .i64 i.nd.b,.int .i64 i.nd.f,.int .i64 i.nd.cell,.int .u64 i.nd.imm,.slice i.ao i.nd.args.length i.ac,.int .i64 i.nd.next,.int .i64 i.nd.els]
def rnc (l:List RN):List Value:=l.flatMap rnOne
theorem rnc_append (a b:List RN):rnc (a ++ b)=rnc a ++ rnc b:=by simp [rnc]
theorem rnOne_one (x:RN):∀ u ∈ rnOne x,u.oneCell'=true:=by
 intro u hu
 simp [rnOne] at hu
 rcases hu with rfl | rfl | rfl | rfl | rfl | rfl | rfl | rfl | rfl | rfl | rfl | rfl <;> rfl
theorem rnc_at {l:List RN} {k:Nat} {i:RN} (h:l[k]?=some i):(rnc l)[k*12]?=some (.int .u8 i.nd.op)∧(rnc l)[k*12+1]?=some (.int .u8 i.nd.bop)∧(rnc l)[k*12+2]?=some (.int .i64 i.nd.d)∧(rnc l)[k*12+3]?=some (.int .i64 i.nd.e)∧(rnc l)[k*12+4]?=some (.int .i64 i.nd.a)∧(rnc l)[k*12+5]?=some (.int .i64 i.nd.b)∧(rnc l)[k*12+6]?=some (.int .i64 i.nd.f)∧(rnc l)[k*12+7]?=some (.int .i64 i.nd.cell)∧(rnc l)[k*12+8]?=some (.int .u64 i.nd.imm)∧(rnc l)[k*12+9]?=some (.slice i.ao i.nd.args.length i.ac)∧(rnc l)[k*12+10]?=some (.int .i64 i.nd.next)∧(rnc l)[k*12+11]?=some (.int .i64 i.nd.els):=by
 refine ⟨?_,?_,?_,?_,?_,?_,?_,?_,?_,?_,?_,?_⟩
 ·exact flat_at rnOne 12 (fun _=>rfl) l k 0 i h (by omega)
 ·exact flat_at rnOne 12 (fun _=>rfl) l k 1 i h (by omega)
 ·exact flat_at rnOne 12 (fun _=>rfl) l k 2 i h (by omega)
 ·exact flat_at rnOne 12 (fun _=>rfl) l k 3 i h (by omega)
 ·exact flat_at rnOne 12 (fun _=>rfl) l k 4 i h (by omega)
 ·exact flat_at rnOne 12 (fun _=>rfl) l k 5 i h (by omega)
 ·exact flat_at rnOne 12 (fun _=>rfl) l k 6 i h (by omega)
 ·exact flat_at rnOne 12 (fun _=>rfl) l k 7 i h (by omega)
 ·exact flat_at rnOne 12 (fun _=>rfl) l k 8 i h (by omega)
 ·exact flat_at rnOne 12 (fun _=>rfl) l k 9 i h (by omega)
 ·exact flat_at rnOne 12 (fun _=>rfl) l k 10 i h (by omega)
 ·exact flat_at rnOne 12 (fun _=>rfl) l k 11 i h (by omega)
structure WfN (i:Nd):Prop where
 o0:0≤i.op
 o1:i.op≤255
 q0:0≤i.bop
 q1:i.bop≤255
 d:I64 i.d
 e:I64 i.e
 a:I64 i.a
 b:I64 i.b
 f:I64 i.f
 cell:I64 i.cell
 m0:0≤i.imm
 m1:i.imm≤18446744073709551615
 args:∀ x ∈ i.args,I64 x
 next:I64 i.next
 els:I64 i.els
 al:i.args.length*8≤140737488351232
structure RdN (w:World) (B:Nat) (i:RN):Prop where
 args:Reads w B 1 i.ao i.nd.args.length (i64c i.nd.args)
 cap:i.nd.args.length≤i.ac
structure RdNs (w:World) (B:Nat) (A:Option Addr) (n:Nat) (ns:List RN):Prop where
 row:Reads w B 12 A n (rnc ns)
 len:ns.length=n
 each:∀ i ∈ ns,RdN w B i
 wf:∀ i ∈ ns,WfN i.nd
def nds (ns:List RN):List Nd:=ns.map RN.nd
theorem length_nds (ns:List RN):(nds ns).length=ns.length:=by simp [nds]
section
variable {w w':World} {B B' n:Nat} {A:Option Addr} {ns:List RN} {i:RN}
theorem RdN.keep (h:RdN w B i) (hk:∀ p:Addr,p.block<B→w'.cell? p=w.cell? p):RdN w' B i:=⟨h.args.keep hk,h.cap⟩
theorem RdN.more (h:RdN w B i) (hB:B≤B'):RdN w B' i:=⟨h.args.more hB,h.cap⟩
theorem RdN.below (h:RdN w B i) (hb:Below B w w'):RdN w' B i:=h.keep fun _ hp=>hb.cell hp
theorem RdNs.keep (h:RdNs w B A n ns) (hk:∀ p:Addr,p.block<B→w'.cell? p=w.cell? p):RdNs w' B A n ns:=⟨h.row.keep hk,h.len,fun r hr=>(h.each r hr).keep hk,h.wf⟩
theorem RdNs.more (h:RdNs w B A n ns) (hB:B≤B'):RdNs w B' A n ns:=⟨h.row.more hB,h.len,fun r hr=>(h.each r hr).more hB,h.wf⟩
theorem RdNs.below (h:RdNs w B A n ns) (hb:Below B w w'):RdNs w' B A n ns:=h.keep fun _ hp=>hb.cell hp
theorem RdNs.nd (h:RdNs w B A n ns) {k:Nat} (hk:k<n) :
  ∃ b off i,A=some ⟨b,off,none⟩∧b<B∧Hid (ns[k]?=some i)∧Hid (RdN w B i)∧Hid (WfN i.nd)∧w.cell? ⟨b,off+k*12,none⟩=some (.int .u8 i.nd.op)∧w.cell? ⟨b,off+k*12+1,none⟩=some (.int .u8 i.nd.bop)∧w.cell? ⟨b,off+k*12+2,none⟩=some (.int .i64 i.nd.d)∧w.cell? ⟨b,off+k*12+3,none⟩=some (.int .i64 i.nd.e)∧w.cell? ⟨b,off+k*12+4,none⟩=some (.int .i64 i.nd.a)∧w.cell? ⟨b,off+k*12+5,none⟩=some (.int .i64 i.nd.b)∧w.cell? ⟨b,off+k*12+6,none⟩=some (.int .i64 i.nd.f)∧w.cell? ⟨b,off+k*12+7,none⟩=some (.int .i64 i.nd.cell)∧w.cell? ⟨b,off+k*12+8,none⟩=some (.int .u64 i.nd.imm)∧w.cell? ⟨b,off+k*12+9,none⟩=some (.slice i.ao i.nd.args.length i.ac)∧w.cell? ⟨b,off+k*12+10,none⟩=some (.int .i64 i.nd.next)∧w.cell? ⟨b,off+k*12+11,none⟩=some (.int .i64 i.nd.els):=by
 obtain ⟨b,off,rfl,hb,hc⟩:=h.row.lit (by omega) (by omega)
 have hl:k<ns.length:=by have:=h.len;omega
 have hm:=List.getElem_mem hl
 obtain ⟨h0,h1,h2,h3,h4,h5,h6,h7,h8,h9,h10,h11⟩:=rnc_at (List.getElem?_eq_getElem hl)
 exact ⟨b,off,ns[k],rfl,hb,List.getElem?_eq_getElem hl,h.each _ hm,h.wf _ hm,hc _ _ h0,by rw [Nat.add_assoc];exact hc _ _ h1,by rw [Nat.add_assoc];exact hc _ _ h2,by rw [Nat.add_assoc];exact hc _ _ h3,by rw [Nat.add_assoc];exact hc _ _ h4,by rw [Nat.add_assoc];exact hc _ _ h5,by rw [Nat.add_assoc];exact hc _ _ h6,by rw [Nat.add_assoc];exact hc _ _ h7,by rw [Nat.add_assoc];exact hc _ _ h8,by rw [Nat.add_assoc];exact hc _ _ h9,by rw [Nat.add_assoc];exact hc _ _ h10,by rw [Nat.add_assoc];exact hc _ _ h11⟩
end
structure RG where
 gr:Gr
 po:Option Addr
 pc:Nat
 ko:Option Addr
 kc:Nat
 io:Option Addr
 ic:Nat
 no:Option Addr
 nc:Nat
 ns:List RN
def rgOne (r:RG):List Value:=[.slice r.po r.gr.params.length r.pc,.slice r.ko r.gr.kinds.length r.kc,.int .i64 r.gr.cells,.slice r.io r.gr.init.length r.ic,.bool r.gr.result,.int .i64 r.gr.keep,.slice r.no r.gr.nodes.length r.nc,.int .i64 r.gr.entry]
def rgc (l:List RG):List Value:=l.flatMap rgOne
theorem rgc_at {l:List RG} {k:Nat} {r:RG} (h:l[k]?=some r):(rgc l)[k*8]?=some (.slice r.po r.gr.params.length r.pc)∧(rgc l)[k*8+1]?=some (.slice r.ko r.gr.kinds.length r.kc)∧(rgc l)[k*8+2]?=some (.int .i64 r.gr.cells)∧(rgc l)[k*8+3]?=some (.slice r.io r.gr.init.length r.ic)∧(rgc l)[k*8+4]?=some (.bool r.gr.result)∧(rgc l)[k*8+5]?=some (.int .i64 r.gr.keep)∧(rgc l)[k*8+6]?=some (.slice r.no r.gr.nodes.length r.nc)∧(rgc l)[k*8+7]?=some (.int .i64 r.gr.entry):=by
 refine ⟨?_,?_,?_,?_,?_,?_,?_,?_⟩
 ·exact flat_at rgOne 8 (fun _=>rfl) l k 0 r h (by omega)
 ·exact flat_at rgOne 8 (fun _=>rfl) l k 1 r h (by omega)
 ·exact flat_at rgOne 8 (fun _=>rfl) l k 2 r h (by omega)
 ·exact flat_at rgOne 8 (fun _=>rfl) l k 3 r h (by omega)
 ·exact flat_at rgOne 8 (fun _=>rfl) l k 4 r h (by omega)
 ·exact flat_at rgOne 8 (fun _=>rfl) l k 5 r h (by omega)
 ·exact flat_at rgOne 8 (fun _=>rfl) l k 6 r h (by omega)
 ·exact flat_at rgOne 8 (fun _=>rfl) l k 7 r h (by omega)
structure WfG (g:Gr):Prop where
 params:∀ x ∈ g.params,I64 x
 kinds:Byt g.kinds
 cells:I64 g.cells
 init:∀ x ∈ g.init,I64 x
 keep:I64 g.keep
 nodes:∀ i ∈ g.nodes,WfN i
 entry:I64 g.entry
 pl:g.params.length*8≤140737488351232
 kl:g.kinds.length≤140737488351232
 il:g.init.length*8≤140737488351232
 nl:g.nodes.length*104≤140737488351232
structure RdG (w:World) (B:Nat) (r:RG):Prop where
 params:Reads w B 1 r.po r.gr.params.length (i64c r.gr.params)
 kinds:Reads w B 1 r.ko r.gr.kinds.length (u8c r.gr.kinds)
 init:Reads w B 1 r.io r.gr.init.length (i64c r.gr.init)
 nodes:RdNs w B r.no r.gr.nodes.length r.ns
 nd:nds r.ns=r.gr.nodes
 pcap:r.gr.params.length≤r.pc
structure RdP (w:World) (B:Nat) (A:Option Addr) (n:Nat) (rs:List RG):Prop where
 row:Reads w B 8 A n (rgc rs)
 len:rs.length=n
 each:∀ r ∈ rs,RdG w B r
 wf:∀ r ∈ rs,WfG r.gr
 sz:n*128≤140737488351232
def grs (rs:List RG):List Gr:=rs.map RG.gr
theorem length_grs (rs:List RG):(grs rs).length=rs.length:=by simp [grs]
section
variable {w w':World} {B B' n:Nat} {A:Option Addr} {rs:List RG} {r:RG}
theorem RdG.keep (h:RdG w B r) (hk:∀ p:Addr,p.block<B→w'.cell? p=w.cell? p):RdG w' B r:=⟨h.params.keep hk,h.kinds.keep hk,h.init.keep hk,h.nodes.keep hk,h.nd,h.pcap⟩
theorem RdG.more (h:RdG w B r) (hB:B≤B'):RdG w B' r:=⟨h.params.more hB,h.kinds.more hB,h.init.more hB,h.nodes.more hB,h.nd,h.pcap⟩
theorem RdG.below (h:RdG w B r) (hb:Below B w w'):RdG w' B r:=h.keep fun _ hp=>hb.cell hp
theorem RdP.keep (h:RdP w B A n rs) (hk:∀ p:Addr,p.block<B→w'.cell? p=w.cell? p):RdP w' B A n rs:=⟨h.row.keep hk,h.len,fun r hr=>(h.each r hr).keep hk,h.wf,h.sz⟩
theorem RdP.more (h:RdP w B A n rs) (hB:B≤B'):RdP w B' A n rs:=⟨h.row.more hB,h.len,fun r hr=>(h.each r hr).more hB,h.wf,h.sz⟩
theorem RdP.below (h:RdP w B A n rs) (hb:Below B w w'):RdP w' B A n rs:=h.keep fun _ hp=>hb.cell hp
theorem RdP.drewN (h:RdP w B A n rs) (k:Nat):RdP (w.drewN k) B A n rs:=h.keep fun _ _=>rfl
theorem RdP.alloc (h:RdP w B A n rs) (hB:B≤w.heap.size) (o:Obj):RdP (w.alloc o) B A n rs:=h.keep fun p hp=>World.cell?_alloc_lt w o p (by omega)
theorem RdP.gr (h:RdP w B A n rs) {k:Nat} (hk:k<n) :
  ∃ b off r,A=some ⟨b,off,none⟩∧b<B∧Hid (rs[k]?=some r)∧Hid (RdG w B r)∧Hid (WfG r.gr)∧w.cell? ⟨b,off+k*8,none⟩=some (.slice r.po r.gr.params.length r.pc)∧w.cell? ⟨b,off+k*8+1,none⟩=some (.slice r.ko r.gr.kinds.length r.kc)∧w.cell? ⟨b,off+k*8+2,none⟩=some (.int .i64 r.gr.cells)∧w.cell? ⟨b,off+k*8+3,none⟩=some (.slice r.io r.gr.init.length r.ic)∧w.cell? ⟨b,off+k*8+4,none⟩=some (.bool r.gr.result)∧w.cell? ⟨b,off+k*8+5,none⟩=some (.int .i64 r.gr.keep)∧w.cell? ⟨b,off+k*8+6,none⟩=some (.slice r.no r.gr.nodes.length r.nc)∧w.cell? ⟨b,off+k*8+7,none⟩=some (.int .i64 r.gr.entry):=by
 obtain ⟨b,off,rfl,hb,hc⟩:=h.row.lit (by omega) (by omega)
 have hl:k<rs.length:=by have:=h.len;omega
 have hm:=List.getElem_mem hl
 obtain ⟨h0,h1,h2,h3,h4,h5,h6,h7⟩:=rgc_at (List.getElem?_eq_getElem hl)
 exact ⟨b,off,rs[k],rfl,hb,List.getElem?_eq_getElem hl,h.each _ hm,h.wf _ hm,hc _ _ h0,by rw [Nat.add_assoc];exact hc _ _ h1,by rw [Nat.add_assoc];exact hc _ _ h2,by rw [Nat.add_assoc];exact hc _ _ h3,by rw [Nat.add_assoc];exact hc _ _ h4,by rw [Nat.add_assoc];exact hc _ _ h5,by rw [Nat.add_assoc];exact hc _ _ h6,by rw [Nat.add_assoc];exact hc _ _ h7⟩
end
theorem Tryd.info3:(Tryd.prog.info? 3).map (fun i=>(i.zero,i.size,i.bytes))=some (some (.int .i64 0),1,8):=by kernel_rfl
theorem Tryd.info60:(Tryd.prog.info? 60).map (fun i=>(i.zero,i.size,i.bytes))=some (some (.agg #[.int .u8 0,.int .u8 0,.int .i64 0,.int .i64 0,.int .i64 0,.int .i64 0,.int .i64 0,.int .i64 0,.int .u64 0,.slice none 0 0,.int .i64 0,.int .i64 0]),12,104):=by kernel_rfl
theorem one_reads (w:World) (t:TypeId) (cs:List Value) (size:Nat) (hs:cs.length=size):Reads (w.alloc (.cells cs.toArray t)) (w.heap.size+1) size (some ⟨w.heap.size,0,none⟩) 1 cs :=
 ⟨by omega,fun _=>⟨_,rfl,by simp,fun j u hj=>by
  have ea:(⟨w.heap.size,0,none⟩:Addr).add j=⟨w.heap.size,j,none⟩:=by simp [Addr.add];exact Eq.symm
  rw [ea,(Blk.new w t _).cell]
  simpa using hj⟩⟩

theorem app_int {w:World} {ops:Array Oper} {rest:List Oper} {o:Oper} {a:Act} {Q:Exit→Act→World→Prop} (hgd:o.guard=none) (s x:Operand)
  (ho:o.op=.call { callee:=.builtin .append,args:=#[s,x],argTypes:=#[34,34] }) (base:Nat)
  (v:Value) (n:Nat) (xs:List Value) (hs:a.eval s=v) (hown:w.ownsRow base 3 1 v n xs)
  (B:Nat) (A:Option Addr) (m c:Nat) (news:List Value) (hx:a.eval x=.slice A m c) (hr:Reads w B 1 A m news) (h1:∀ u ∈ news,u.oneCell'=true)
  (hbytes:(n+m)*8≤140737488355328) (hbase:base≤w.heap.size)
  (h:∀ v' w',w'.ownsRow base 3 1 v' (n+m) (xs ++ news)→w.grownBy w' v.ownBlock→(v'.ownBlock=v.ownBlock∨v'.ownBlock=some w.heap.size)→wpList Tryd.prog ops Q rest (a.put o.dst v') w'):wpList Tryd.prog ops Q (o :: rest) a w:=by
 obtain ⟨i0,hi,hz0,hz1,hz2⟩:=info_parts Tryd.info3
 exact wpList_append_any w hgd s x _ ho base 3 i0 (.int .i64 0) 1 8 Tryd.underlying34 hi hz0 hz1 hz2 rfl (by decide) v n xs hs hown B A m c news hx hr h1 (by unfold maxLen;omega) hbytes hbase h
theorem step_int {w:World} {ops:Array Oper} {o:Oper} {a:Act} {K:Act→World→Prop} {Q:Exit→Act→World→Prop} {E:Prop} (hgd:o.guard=none) (s x:Operand)
  (ho:o.op=.call { callee:=.builtin .append,args:=#[s,x],argTypes:=#[34,34] }) (base:Nat)
  (v:Value) (n:Nat) (xs:List Value) (hs:a.eval s=v) (hown:w.ownsRow base 3 1 v n xs)
  (B:Nat) (A:Option Addr) (m c:Nat) (news:List Value) (hx:a.eval x=.slice A m c) (hr:Reads w B 1 A m news) (h1:∀ u ∈ news,u.oneCell'=true)
  (hbytes:(n+m)*8≤140737488355328) (hbase:base≤w.heap.size)
  (h:∀ v' w',w'.ownsRow base 3 1 v' (n+m) (xs ++ news)→w.grownBy w' v.ownBlock→(v'.ownBlock=v.ownBlock∨v'.ownBlock=some w.heap.size)→K (a.put o.dst v') w') :
  if Region.wanted o (yielded ops a.tmps)=true then Oper.wp Tryd.prog o a w K Q else E:=by
 obtain ⟨i0,hi,hz0,hz1,hz2⟩:=info_parts Tryd.info3
 exact step_append_any w hgd s x _ ho base 3 i0 (.int .i64 0) 1 8 Tryd.underlying34 hi hz0 hz1 hz2 rfl (by decide) v n xs hs hown B A m c news hx hr h1 (by unfold maxLen;omega) hbytes hbase h
theorem app_node {w:World} {ops:Array Oper} {rest:List Oper} {o:Oper} {a:Act} {Q:Exit→Act→World→Prop} (hgd:o.guard=none) (s x:Operand)
  (ho:o.op=.call { callee:=.builtin .append,args:=#[s,x],argTypes:=#[36,36] }) (base:Nat)
  (v:Value) (n:Nat) (xs:List Value) (hs:a.eval s=v) (hown:w.ownsRow base 60 12 v n xs)
  (B:Nat) (A:Option Addr) (m c:Nat) (news:List Value) (hx:a.eval x=.slice A m c) (hr:Reads w B 12 A m news) (h1:∀ u ∈ news,u.oneCell'=true)
  (hbytes:(n+m)*104≤140737488355328) (hbase:base≤w.heap.size)
  (h:∀ v' w',w'.ownsRow base 60 12 v' (n+m) (xs ++ news)→w.grownBy w' v.ownBlock→(v'.ownBlock=v.ownBlock∨v'.ownBlock=some w.heap.size)→wpList Tryd.prog ops Q rest (a.put o.dst v') w'):wpList Tryd.prog ops Q (o :: rest) a w:=by
 obtain ⟨i0,hi,hz0,hz1,hz2⟩:=info_parts Tryd.info60
 exact wpList_append_any w hgd s x _ ho base 60 i0 (.agg #[.int .u8 0,.int .u8 0,.int .i64 0,.int .i64 0,.int .i64 0,.int .i64 0,.int .i64 0,.int .i64 0,.int .u64 0,.slice none 0 0,.int .i64 0,.int .i64 0]) 12 104 Tryd.underlying36 hi hz0 hz1 hz2 rfl (by decide) v n xs hs hown B A m c news hx hr h1 (by unfold maxLen;omega) hbytes hbase h
theorem own_grown {w w':World} {b1 b2 s1 s2 n1 n2:Nat} {e1 e2:TypeId} {v1 v2:Value} {x1 x2:List Value} (h1:w.ownsRow b1 e1 s1 v1 n1 x1) (h2:w.ownsRow b2 e2 s2 v2 n2 x2) (hg:w.grownBy w' v1.ownBlock) (hne:e2≠e1):w'.ownsRow b2 e2 s2 v2 n2 x2:=by
 refine own_kept h2 fun i hi=>hg.block i (own_block_le h2 hi).2 fun e=>?_
 rcases h1.2 with ⟨rfl,_⟩ | ⟨g,cap,cur,rfl,_,hb,_⟩
 ·simp [Value.ownBlock] at e
 ·have:i=g:=by simpa [Value.ownBlock] using e
  subst this
  exact own_blk_ne h2 (t:=e1) (cs:=cur) hb hne hi
theorem own_far {w:World} {base size n p:Nat} {e t:TypeId} {v:Value} {xs:List Value} {cs:Array Value} (h:w.ownsRow base e size v n xs) (hb:Blk w p t cs) (hne:e≠t) (i:Nat) (u:Value):(w.setCell ⟨p,i,none⟩ u).ownsRow base e size v n xs :=
 own_kept h fun j hj=>Below.heap_setCell _ _ _ _ fun hij=>own_blk_ne h hb hne (by rw [hj,hij])
theorem own_alloc {w:World} {base size n:Nat} {e:TypeId} {v:Value} {xs:List Value} (h:w.ownsRow base e size v n xs) (o:Obj):(w.alloc o).ownsRow base e size v n xs:=h.alloc o
theorem blk_grown {w w':World} {base size n p:Nat} {e t:TypeId} {v:Value} {xs:List Value} {cs:Array Value} (hb:Blk w p t cs) (h:w.ownsRow base e size v n xs) (hg:w.grownBy w' v.ownBlock) (hne:e≠t):Blk w' p t cs :=
 hb.grown hg fun e'=>own_blk_ne h hb hne e'.symm

open Go.ChangeShapes Go.WideShapes Go.ChangeAt Go.RowKit Go.Maps
def setI {H:Type} (l:List Int):DataW H:=setOf (.agg []) (l.map (Lit.int .i64))
theorem any_int (x:Int):∀ l:List Int,l.any ((fun y:Lit=>y.sameKey (.int .i64 x)) ∘ Lit.int .i64)=l.contains x
 | []=>rfl
 | a :: r=>by
  rw [List.any_cons,List.contains_cons,any_int x r]
  congr 1
  show decide (IntKind.i64=IntKind.i64∧a=x)=(x == a)
  by_cases e:a=x
  ·subst e
   simp
  ·have e':¬ x=a:=fun h=>e h.symm
   simp [e,e']
theorem has_setI {H:Type} (l:List Int) (x:Int):Maps.has (setI (H:=H) l) (.int .i64 x)=l.contains x:=by
 unfold setI
 rw [has_setOf _ _ _ (fun y hy=>by obtain ⟨_,_,rfl⟩:=List.mem_map.1 hy;trivial),List.any_map]
 exact any_int x _
theorem setI_snoc {H:Type} (l:List Int) (x:Int):setI (H:=H) (l ++ [x])=(setI l).put (.int .i64 x) (.agg []):=by
 unfold setI
 rw [List.map_append,List.map_singleton,setOf_snoc]
theorem row_ne {w:World} {base:Nat} {e:TypeId} {size:Nat} {v:Value} {n:Nat} {xs:List Value} (h:w.ownsRow base e size v n xs) {b:Nat} (hb:b<base):some b≠v.ownBlock:=fun e1=>by
 have:=(h.lt b e1.symm).1
 omega
theorem law_int:Keyed Tryd.prog 3:=int_keyed Tryd.underlying3
theorem zero_unit (w:World):(zeroValue 156).run Tryd.prog w=.ok (.agg #[]) w:=by kernel_rfl
theorem wf_of {x:Int} (h:I64 x):(Lit.int .i64 x).wf=true:=by
 have h0:=h.1
 have h1:=h.2
 simp [Lit.wf,IntKind.min,IntKind.max,IntKind.signed,IntKind.bits]
 exact ⟨h0,h1⟩
theorem take_at {l:List Int} {k:Nat} {x:Int} (h:l[k]?=some x):l.take (k+1)=l.take k ++ [x]:=by
 rw [List.take_add_one,h];rfl
def NewI (w:World) (l:List Int) (e:Ending) (w':World):Prop:=∃ (A:Option Addr) (c:Nat),e=.returned (.slice A l.length c)∧Reads w' w'.heap.size 1 A l.length (i64c l)∧l.length≤c∧Below w.heap.size w w'
structure PlI (w:World) (zs:List Int) (k:Nat) (v:Value) (wr:World):Prop where
 map:wr.ownsMap Tryd.prog 3 unitElem w.heap.size k (setI (H:=Unit) (addL [] (zs.take k)))
 own:wr.ownsRow (w.heap.size+1) 3 1 v (addL [] (zs.take k)).length (i64c (addL [] (zs.take k)))
 below:Below w.heap.size w wr
 lt:w.heap.size+1≤wr.heap.size

theorem placesOf_any (B:Nat) (A:Option Addr) (n c:Nat) (zs:List Int) (w:World) (h:Reads w B 1 A n (i64c zs)) (hn:zs.length=n) (hz:∀ x ∈ zs,I64 x) (hB:B≤w.heap.size) (hnb:n*8≤140737488351232) :
  Calls Tryd.prog 65 #[.slice A n c] w (NewI w (addL [] zs)):=by
 have hmm:=@run_makeMap Tryd.prog
 obtain ⟨i0,hi,hz0,hz1,hz2⟩:=info_parts Tryd.info3
 have H:=Lib.hid h
 have HN:=Lib.hid hn
 have HZ:=Lib.hid hz
 clear h hn hz
 go_enter Tryd.func65,Tryd.ntmps65
 go_wp2
 go_loopw [3,12] (fun v i wr=>∃ k:Nat,k≤n∧i=.int .i64 k∧Hid (PlI w zs k v wr)) (fun _ i _=>n-(intOf i).toNat)
 case atStart=>exact ⟨0,Nat.zero_le _,rfl,⟨World.ownsMap_made _ _ _ _,World.ownsRow_nil _ _ _ _,(Below.refl _ _).alloc (Nat.le_refl _) _,by simp⟩⟩
 case round =>
  obtain ⟨k,hk,rfl,HI⟩:=hrel
  by_cases hlt:k<n
  ·obtain ⟨b,off,x,rfl,hb,HX,x1⟩:=(H.out.below (HI.out.below.mono hB)).int hlt
   have hwx:I64 x:=HZ.out x (List.mem_of_getElem? HX.out)
   have hkey:keyOf Tryd.prog 3 (.int .i64 x)=some (.int .i64 x):=keyOf_int_mk Tryd.underlying3 (wf_of hwx)
   have hal:=addL_len [] (zs.take k)
   have hws:=HI.out.lt
   have htk:(zs.take k).length=k:=by rw [List.length_take,HN.out];omega
   have hadd:addL [] (zs.take (k+1))=add1 (addL [] (zs.take k)) x:=by rw [take_at HX.out,addL_snoc]
   have hbr:b<wr.heap.size:=by have:=HI.out.below.size;omega
   have hmap:=HI.out.map
   have hrow:=HI.out.own
   simp only [List.length_nil,Nat.zero_add,htk] at hal
   have HADD:=Lib.hid hadd
   clear hadd htk
   have hhas:=has_setI (H:=Unit) (addL [] (zs.take k)) x
   by_cases hin:(addL [] (zs.take k)).contains x=true
   ·rw [hin] at hhas
    have hg:(addL [] (zs.take (k+1)))=addL [] (zs.take k):=by
     rw [HADD.out,add1,if_neg]
     rintro ⟨_,h2⟩
     exact h2 (by simpa using hin)
    have HG:=Lib.hid hg
    clear hg hin
    go_wp2_with (first
     | (at_lookup;refine wpList_lookup_own_unit _ rfl _ _ 155 rfl 3 156 law_int Tryd.underlying155 (zero_unit _) w.heap.size k _ rfl hmap _ _ rfl hkey ?_;rw [hhas])
     | go_in)
    go_roundw
    case rel=>exact ⟨k+1,by omega,by go_num,⟨by rw [HG.out];exact (hmap.alloc _).mono (Nat.le_succ _),by rw [HG.out];exact hrow.alloc _,HI.out.below.alloc HI.out.below.size _,by simp;omega⟩⟩
    case measure=>simp [intOf];omega
   ·have hin':(addL [] (zs.take k)).contains x=false:=by simpa using hin
    rw [hin'] at hhas
    by_cases hneg:x<0
    ·have hg:(addL [] (zs.take (k+1)))=addL [] (zs.take k):=by
      rw [HADD.out,add1,if_neg]
      rintro ⟨h2,_⟩
      omega
     have HG:=Lib.hid hg
     clear hg hin hin'
     have hd:decide (x<0)=true:=by simpa using hneg
     go_wp2_with (first
      | (at_lookup;refine wpList_lookup_own_unit _ rfl _ _ 155 rfl 3 156 law_int Tryd.underlying155 (zero_unit _) w.heap.size k _ rfl hmap _ _ rfl hkey ?_;rw [hhas])
      | go_in)
     go_roundw
     case rel=>exact ⟨k+1,by omega,by go_num,⟨by rw [HG.out];exact (hmap.alloc _).mono (Nat.le_succ _),by rw [HG.out];exact hrow.alloc _,HI.out.below.alloc HI.out.below.size _,by simp;omega⟩⟩
     case measure=>simp [intOf];omega
    ·have hg:(addL [] (zs.take (k+1)))=addL [] (zs.take k) ++ [x]:=by
      rw [HADD.out,add1,if_pos]
      exact ⟨by omega,by simpa using hin'⟩
     have HG:=Lib.hid hg
     clear hg hin hin'
     have hd:decide (x<0)=false:=by simpa using hneg
     go_wp2_with (first
      | (at_lookup;refine wpList_lookup_own_unit _ rfl _ _ 155 rfl 3 156 law_int Tryd.underlying155 (zero_unit _) w.heap.size k _ rfl hmap _ _ rfl hkey ?_;rw [hhas])
      | (at_mapUpdate;refine wpList_mapUpdate_own _ rfl _ _ _ 155 rfl 3 156 law_int Tryd.underlying155 (unitElem (H:=Unit)) w.heap.size k _ rfl (hmap.alloc _) (by unfold maxLen;omega) _ _ _ rfl rfl hkey _ [] unitElem_mk ?_;intro w1 hown1 hgrow1)
      | (at_builtin;refine wpList_append_own _ rfl _ _ 34 rfl (w.heap.size+1) 3 i0 (.int .i64 0) 1 8 Tryd.underlying34 hi hz0 hz1 hz2 rfl (by decide) _ _ _ rfl (((hrow.alloc _).kept hgrow1 (Or.inr (row_ne hrow (Nat.lt_succ_self _)).symm)).alloc _) ⟨w1.heap.size,0,none⟩ 1 1 [.int .i64 x] rfl rfl (cell_one_new _ _ _) (ints_oneCell .i64 [x]) (by unfold maxLen;omega) (by omega) (by have:=hgrow1.size;simp at this ⊢;omega) ?_;intro v' w2 hown' hgrow2 hnil2)
      | go_in)
     have hr1:=(hrow.alloc (.cells #[] 156)).kept hgrow1 (Or.inr (row_ne hrow (Nat.lt_succ_self _)).symm)
     have s1:=hgrow1.size
     have s2:=hgrow2.size
     simp at s1 s2
     go_roundw
     case rel =>
      refine ⟨k+1,by omega,by go_num,⟨?_,?_,?_,by omega⟩⟩
      ·rw [HG.out,setI_snoc]
       exact (hown1.alloc _).kept hgrow2 (row_ne hr1 (Nat.lt_succ_self _))
      ·rw [HG.out]
       simpa [i64c] using hown'
      ·exact ((((HI.out.below.alloc HI.out.below.size _).grown hgrow1 (by simp;omega) (fun j hj=>by cases hj;exact Nat.le_refl _)).alloc (by omega) _).grown hgrow2 (by simp;omega) (fun j hj=>Nat.le_trans (Nat.le_succ _) (hr1.lt j hj).1))
     case measure=>simp [intOf];omega
  ·obtain rfl:n=k:=by omega
   have hall:zs.take n=zs:=List.take_of_length_le (by rw [HN.out];omega)
   have hi2:=HI.out.own
   obtain ⟨A2,c2,rfl⟩:=own_slice hi2
   rw [hall] at hi2 ⊢
   have HR:Hid (Reads wr wr.heap.size 1 A2 (addL [] zs).length (i64c (addL [] zs))):=Reads.of_own hi2
   have HC:Hid ((addL [] zs).length≤c2):=own_cap hi2
   have HBL:=Lib.hid HI.out.below
   clear hi2 hall
   go_wp2
   go_ret
   exact ⟨A2,c2,rfl,HR.out,HC.out,HBL.out⟩
end Go.Proofs.YtepkogfiojkcpaaDoor
