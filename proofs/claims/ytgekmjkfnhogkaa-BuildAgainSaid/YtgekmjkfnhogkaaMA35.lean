/-
  Texts of one seat, one behind the other: BAm, BAg.
-/
import Derived.Test.YtgekmjkfnhogkaaMA27
import Derived.Test.YtgekmjkfnhogkaaMA28
import Derived.Test.YtgekmjkfnhogkaaMA34

set_option linter.unusedVariables false
set_option linter.unusedSimpArgs false
set_option maxRecDepth 100000
set_option maxHeartbeats 51200000
namespace Go.Proofs.Ytgekmjkfnhogkaa
open Go.ChangeShapes Go.WideShapes Go.ChangeAt Go.RowKit
theorem Q.CpR.rd2 {w w':World} {n c:Nat} {A A':Option Addr} {rs rs':List Q.Raw} {W:World} {B:Nat} (h:Q.CpR w n (Q.fns rs) A c rs' w') (h0:Q.RdP W B A' n rs):Q.RdP w' w'.heap.size A n rs':=by
 refine ⟨Reads.of_own h.own,?_,fun r hr=>(h.each r hr).rdF,fun r hr=>?_,h0.sz⟩
 ·rw [← Q.length_fns,h.eq,Q.length_fns,h0.len]
 ·have:r.fn ∈ Q.fns rs:=by rw [← h.eq];exact List.mem_map_of_mem hr
  obtain ⟨r0,h1,h2⟩:=List.mem_map.1 this
  rw [← h2]
  exact h0.wf r0 h1
structure OwnP (w:World) (base n:Nat) (A:Option Addr) (c:Nat) (gs:List RG):Prop where
 own:w.ownsRow base 45 8 (.slice A n c) n (rgc gs)
 each:∀ r ∈ gs,OwnB w base r
 wf:∀ r ∈ gs,WfG r.gr
 len:gs.length=n
 sz:n≤1000
section
variable {w w':World} {base n c g i:Nat} {A:Option Addr} {gs:List RG} {u:Value}
theorem OwnP.rd (h:OwnP w base n A c gs):RdP w w.heap.size A n gs:=by
 refine ⟨Reads.of_own h.own,h.len,fun r hr=>?_,h.wf,by have:=h.sz;omega⟩
 have k:=h.each r hr
 refine ⟨Reads.of_own k.po,Reads.of_own k.ko,Reads.of_own k.io,⟨Reads.of_own k.no,by rw [← k.nd,length_nds],fun i hi=>⟨Reads.of_own (k.ar i hi),own_cap (k.ar i hi)⟩,fun i hi=>(h.wf r hr).nodes i.nd (by rw [← k.nd];exact List.mem_map.2 ⟨i,hi,rfl⟩)⟩,k.nd,own_cap k.po⟩
theorem OwnP.below (h:OwnP w base n A c gs) (hb:Below w.heap.size w w'):OwnP w' base n A c gs:=⟨own_below h.own hb,fun r hr=>(h.each r hr).below hb,h.wf,h.len,h.sz⟩
theorem own_low {e:TypeId} {v:Value} {size m:Nat} {xs:List Value} (h:w.ownsRow base e size v m xs) (hg:g<base):(w.setCell ⟨g,i,none⟩ u).ownsRow base e size v m xs :=
 own_kept h fun j hj=>Below.heap_setCell w ⟨g,i,none⟩ u j (by have:=(own_block_le h hj).1;show j≠g;omega)
theorem OwnP.low (h:OwnP w base n A c gs) (hg:g<base):OwnP (w.setCell ⟨g,i,none⟩ u) base n A c gs :=
 ⟨own_low h.own hg,fun r hr=>⟨own_low (h.each r hr).po hg,own_low (h.each r hr).ko hg,own_low (h.each r hr).io hg,own_low (h.each r hr).no hg,fun j hj=>own_low ((h.each r hr).ar j hj) hg,(h.each r hr).nd⟩,h.wf,h.len,h.sz⟩
end
open Classical in
noncomputable def buildG (fs:List Q.Fn):List Gr:=if h:∃ ls,Q.verd fs=0∧Q.Sols fs fs ls then buildB fs h.choose else []
theorem build_form {W w':World} {rs:List Q.Raw} {e:Ending} (h:BuildPost W rs e w') :
  ∃ (A:Option Addr) (n c:Nat) (gs:List RG),e=.returned (.tuple #[.agg #[.slice A n c],.int .i64 (Q.verd (Q.fns rs))])∧Below W.heap.size W w'∧OwnP w' W.heap.size n A c gs∧Hid (grs gs=buildG (Q.fns rs)):=by
 obtain ⟨hb,h⟩:=h
 rcases h with ⟨h0,he⟩ | ⟨h0,ls,A,c,gs,he,ho,hea,hg,hs⟩
 ·refine ⟨none,0,0,[],he,hb,⟨own_none _ _ _ _,fun r hr=>(by cases hr),fun r hr=>(by cases hr),rfl,by omega⟩,Lib.hid ?_⟩
  unfold buildG
  rw [dif_neg (by rintro ⟨ls,h1,_⟩;exact h0 h1)]
  rfl
 ·have hval:=build_valid h0 hs
  have hlen:gs.length=(buildB (Q.fns rs) ls).length:=by rw [← hg];simp
  refine ⟨A,gs.length,c,gs,by rw [h0];exact he,hb,⟨ho,hea,fun r hr=>build_wf h0 hs r.gr (by rw [← hg];exact List.mem_map.2 ⟨r,hr,rfl⟩),rfl,by have:=hval.1.2;omega⟩,Lib.hid ?_⟩
  have hex:∃ ls,Q.verd (Q.fns rs)=0∧Q.Sols (Q.fns rs) (Q.fns rs) ls:=⟨ls,h0,hs⟩
  unfold buildG
  rw [dif_pos hex,show grs gs=buildB (Q.fns rs) ls from hg,Q.Sols.eq_ hs hex.choose_spec.2]

def Row (w:World) (base top:Nat) (t:TypeId) (k:IntKind) (A:Option Addr) (n:Nat):Prop:=0<n→∃ g cur,A=some ⟨g,0,none⟩∧base≤g∧g<top∧Blk w g t cur∧∀ j,j<n→∃ x,cur[j]?=some (.int k x)
def NRow (w:World) (base top:Nat) (A:Option Addr) (n:Nat) (ns:List RN):Prop:=0<n→∃ g cur,A=some ⟨g,0,none⟩∧base≤g∧g<top∧Blk w g 70 cur∧∀ (j:Nat) (i:RN),ns[j]?=some i→(∃ x,cur[j*12+10]?=some (.int .i64 x))∧cur[j*12+9]?=some (.slice i.ao i.nd.args.length i.ac)
structure ShA (w:World) (base top:Nat) (A:Option Addr) (n c:Nat) (rs:List RG):Prop where
 outer:w.ownsRow base 45 8 (.slice A n c) n (rgc rs)
 kinds:∀ r ∈ rs,Row w base top 46 .u8 r.ko r.gr.kinds.length
 nodes:∀ r ∈ rs,NRow w base top r.no r.gr.nodes.length r.ns
 args:∀ r ∈ rs,∀ i ∈ r.ns,Row w base top 3 .i64 i.ao i.nd.args.length
theorem own_block {w:World} {base size n c:Nat} {e:TypeId} {A:Option Addr} {xs:List Value} (h:w.ownsRow base e size (.slice A n c) n xs) (hn:0<n):∃ g cur,A=some ⟨g,0,none⟩∧base≤g∧g<w.heap.size∧Blk w g e cur∧∀ (j:Nat) (u:Value),xs[j]?=some u→cur[j]?=some u:=by
 rcases h.2 with ⟨_,h0⟩ | ⟨g,cap,cur,e',hg,hb,hnc,_,hcs,ht⟩
 ·omega
 ·injection e' with e1 e2 e3
  refine ⟨g,cur,e1,hg,Blk.lt (t:=e) (cs:=cur) hb,hb,fun j u hj=>?_⟩
  have hjl:j<n*size:=by rw [← h.1];exact (List.getElem?_eq_some_iff.1 hj).1
  rw [← ht,List.getElem?_take,if_pos hjl] at hj
  rw [← Array.getElem?_toList]
  exact hj
theorem ShA.of {w:World} {base n c:Nat} {A:Option Addr} {rs:List RG} (h:OwnP w base n A c rs):ShA w base w.heap.size A n c rs:=by
 refine ⟨h.own,fun r hr hl=>?_,fun r hr hl=>?_,fun r hr i hi hl=>?_⟩
 ·obtain ⟨g,cur,hA,hg,ht,hb,hc⟩:=own_block (h.each r hr).ko hl
  exact ⟨g,cur,hA,hg,ht,hb,fun j hj=>⟨_,hc _ _ (u8c_at (List.getElem?_eq_getElem hj))⟩⟩
 ·obtain ⟨g,cur,hA,hg,ht,hb,hc⟩:=own_block (h.each r hr).no hl
  exact ⟨g,cur,hA,hg,ht,hb,fun j i hj=>⟨⟨_,hc _ _ (rnc_at hj).2.2.2.2.2.2.2.2.2.2.1⟩,hc _ _ (rnc_at hj).2.2.2.2.2.2.2.2.2.1⟩⟩
 ·obtain ⟨g,cur,hA,hg,ht,hb,hc⟩:=own_block ((h.each r hr).ar i hi) hl
  exact ⟨g,cur,hA,hg,ht,hb,fun j hj=>⟨_,hc _ _ (i64c_at (List.getElem?_eq_getElem (by omega)))⟩⟩
theorem Row.below {w w':World} {base top n:Nat} {t:TypeId} {k:IntKind} {A:Option Addr} (h:Row w base top t k A n) (hb:Below w.heap.size w w'):Row w' base top t k A n:=fun hn=>by
 obtain ⟨g,cur,h1,h2,h2',h3,h4⟩:=h hn
 exact ⟨g,cur,h1,h2,h2',h3.below hb h3.lt,h4⟩
theorem ShA.below {w w':World} {base top n c:Nat} {A:Option Addr} {rs:List RG} (h:ShA w base top A n c rs) (hb:Below w.heap.size w w'):ShA w' base top A n c rs:=by
 refine ⟨own_below h.outer hb,fun r hr=>(h.kinds r hr).below hb,fun r hr hn=>?_,fun r hr i hi=>(h.args r hr i hi).below hb⟩
 obtain ⟨g,cur,h1,h2,h2',h3,h4⟩:=h.nodes r hr hn
 exact ⟨g,cur,h1,h2,h2',h3.below hb h3.lt,h4⟩
theorem set_int {cur:Array Value} {k:IntKind} {i j:Nat} {y:Int} (h:∃ x,cur[j]?=some (.int k x)):∃ x,(cur.setIfInBounds i (.int k y))[j]?=some (.int k x):=by
 obtain ⟨x,hx⟩:=h
 by_cases hij:i=j
 ·subst hij
  have hl:=(Array.getElem?_eq_some_iff.1 hx).1
  exact ⟨y,by simp [hl]⟩
 ·exact ⟨x,by rw [Array.getElem?_setIfInBounds_ne hij];exact hx⟩
theorem Row.set_ {w:World} {base top n g i:Nat} {t:TypeId} {k:IntKind} {A:Option Addr} {cur0:Array Value} (h:Row w base top t k A n) (hb:Blk w g t cur0) (y:Int):Row (w.setCell ⟨g,i,none⟩ (.int k y)) base top t k A n:=fun hn=>by
 obtain ⟨g',cur,h1,h2,h2',h3,h4⟩:=h hn
 by_cases hgg:g'=g
 ·subst hgg
  exact ⟨g',_,h1,h2,h2',h3.set_ i _,fun j hj=>set_int (h4 j hj)⟩
 ·exact ⟨g',cur,h1,h2,h2',h3.far (p:=⟨g,i,none⟩) hgg _,h4⟩
theorem Row.far {w:World} {base top n g i:Nat} {t t':TypeId} {k:IntKind} {A:Option Addr} {cur0:Array Value} {u:Value} (h:Row w base top t k A n) (hb:Blk w g t' cur0) (hne:t≠t'):Row (w.setCell ⟨g,i,none⟩ u) base top t k A n:=fun hn=>by
 obtain ⟨g',cur,h1,h2,h2',h3,h4⟩:=h hn
 exact ⟨g',cur,h1,h2,h2',h3.far (p:=⟨g,i,none⟩) (h3.ne_ hb hne) _,h4⟩
theorem NRow.far {w:World} {base top n g i:Nat} {t':TypeId} {ns:List RN} {A:Option Addr} {cur0:Array Value} {u:Value} (h:NRow w base top A n ns) (hb:Blk w g t' cur0) (hne:70≠t'):NRow (w.setCell ⟨g,i,none⟩ u) base top A n ns:=fun hn=>by
 obtain ⟨g',cur,h1,h2,h2',h3,h4⟩:=h hn
 exact ⟨g',cur,h1,h2,h2',h3.far (p:=⟨g,i,none⟩) (h3.ne_ hb hne) _,h4⟩
section
variable {w:World} {base top n c g i:Nat} {A:Option Addr} {rs:List RG} {cur0:Array Value}
theorem ShA.setInt (h:ShA w base top A n c rs) (hb:Blk w g 3 cur0) (y:Int):ShA (w.setCell ⟨g,i,none⟩ (.int .i64 y)) base top A n c rs :=
 ⟨own_far h.outer hb (by decide) _ _,fun r hr=>(h.kinds r hr).far hb (by decide),fun r hr=>(h.nodes r hr).far hb (by decide),fun r hr j hj=>(h.args r hr j hj).set_ hb y⟩
theorem ShA.setKind (h:ShA w base top A n c rs) (hb:Blk w g 46 cur0) (y:Int):ShA (w.setCell ⟨g,i,none⟩ (.int .u8 y)) base top A n c rs :=
 ⟨own_far h.outer hb (by decide) _ _,fun r hr=>(h.kinds r hr).set_ hb y,fun r hr=>(h.nodes r hr).far hb (by decide),fun r hr j hj=>(h.args r hr j hj).far hb (by decide)⟩
theorem ShA.setN {k:Nat} (h:ShA w base top A n c rs) (hb:Blk w g 70 cur0) (y:Int):ShA (w.setCell ⟨g,k*12+10,none⟩ (.int .i64 y)) base top A n c rs:=by
 refine ⟨own_far h.outer hb (by decide) _ _,fun r hr=>(h.kinds r hr).far hb (by decide),fun r hr hn=>?_,fun r hr j hj=>(h.args r hr j hj).far hb (by decide)⟩
 obtain ⟨g',cur,h1,h2,h2',h3,h4⟩:=h.nodes r hr hn
 by_cases hgg:g'=g
 ·subst hgg
  refine ⟨g',_,h1,h2,h2',h3.set_ (k*12+10) _,fun j i hi=>?_⟩
  obtain ⟨e1,e2⟩:=h4 j i hi
  exact ⟨set_int e1,by rw [Array.getElem?_setIfInBounds_ne (by omega)];exact e2⟩
 ·exact ⟨g',cur,h1,h2,h2',h3.far (p:=⟨g,k*12+10,none⟩) hgg _,h4⟩
end
structure AgI (W0:World) (base top base2 p0 p5 p7 n nA cA nB cB c:Nat) (A AA AB:Option Addr) (ga gb:List RG) (wr:World):Prop where
 sh:ShA wr base top AA nA cA ga
 b0:Blk wr p0 24 #[.slice A n c]
 b5:Blk wr p5 29 #[.slice AA nA cA]
 b7:Blk wr p7 29 #[.slice AB nB cB]
 gb:OwnP wr base2 nB AB cB gb
 below:Below base W0 wr
 top:top≤base2
section
variable {W0 wr:World} {base top base2 p0 p5 p7 n nA cA nB cB c g i:Nat} {A AA AB:Option Addr} {ga gb:List RG} {cur:Array Value}
theorem AgI.setInt (h:AgI W0 base top base2 p0 p5 p7 n nA cA nB cB c A AA AB ga gb wr) (hb:Blk wr g 3 cur) (hg:base≤g) (ht:g<top) (y:Int):AgI W0 base top base2 p0 p5 p7 n nA cA nB cB c A AA AB ga gb (wr.setCell ⟨g,i,none⟩ (.int .i64 y)) :=
 ⟨h.sh.setInt hb y,h.b0.far (p:=⟨g,i,none⟩) (h.b0.ne_ hb (by decide)) _,h.b5.far (p:=⟨g,i,none⟩) (h.b5.ne_ hb (by decide)) _,h.b7.far (p:=⟨g,i,none⟩) (h.b7.ne_ hb (by decide)) _,h.gb.low (Nat.lt_of_lt_of_le ht h.top),h.below.setCell (p:=⟨g,i,none⟩) hg _,h.top⟩
theorem AgI.setKind (h:AgI W0 base top base2 p0 p5 p7 n nA cA nB cB c A AA AB ga gb wr) (hb:Blk wr g 46 cur) (hg:base≤g) (ht:g<top) (y:Int):AgI W0 base top base2 p0 p5 p7 n nA cA nB cB c A AA AB ga gb (wr.setCell ⟨g,i,none⟩ (.int .u8 y)) :=
 ⟨h.sh.setKind hb y,h.b0.far (p:=⟨g,i,none⟩) (h.b0.ne_ hb (by decide)) _,h.b5.far (p:=⟨g,i,none⟩) (h.b5.ne_ hb (by decide)) _,h.b7.far (p:=⟨g,i,none⟩) (h.b7.ne_ hb (by decide)) _,h.gb.low (Nat.lt_of_lt_of_le ht h.top),h.below.setCell (p:=⟨g,i,none⟩) hg _,h.top⟩
theorem AgI.setN {k:Nat} (h:AgI W0 base top base2 p0 p5 p7 n nA cA nB cB c A AA AB ga gb wr) (hb:Blk wr g 70 cur) (hg:base≤g) (ht:g<top) (y:Int):AgI W0 base top base2 p0 p5 p7 n nA cA nB cB c A AA AB ga gb (wr.setCell ⟨g,k*12+10,none⟩ (.int .i64 y)) :=
 ⟨h.sh.setN hb y,h.b0.far (p:=⟨g,k*12+10,none⟩) (h.b0.ne_ hb (by decide)) _,h.b5.far (p:=⟨g,k*12+10,none⟩) (h.b5.ne_ hb (by decide)) _,h.b7.far (p:=⟨g,k*12+10,none⟩) (h.b7.ne_ hb (by decide)) _,h.gb.low (Nat.lt_of_lt_of_le ht h.top),h.below.setCell (p:=⟨g,k*12+10,none⟩) hg _,h.top⟩
theorem Row.cell {w:World} {t:TypeId} {k:IntKind} {m j:Nat} {A:Option Addr} (h:Row w base top t k A m) (hj:j<m) :
  ∃ g x,A=some ⟨g,0,none⟩∧base≤g∧g<top∧w.cell? ⟨g,j,none⟩=some (.int k x)∧w.frozen? ⟨g,j,none⟩=false∧Hid (∃ cur,Blk w g t cur):=by
 obtain ⟨g,cur,hA,hg,ht,hb,hc⟩:=h (by omega)
 obtain ⟨x,hx⟩:=hc j hj
 exact ⟨g,x,hA,hg,ht,(hb.cell _).trans hx,hb.frozen _,⟨cur,hb⟩⟩
theorem NRow.cell {w:World} {m j:Nat} {A:Option Addr} {ns:List RN} {i:RN} (h:NRow w base top A m ns) (hj:j<m) (hi:ns[j]?=some i) :
  ∃ g x,A=some ⟨g,0,none⟩∧base≤g∧g<top∧w.cell? ⟨g,j*12+10,none⟩=some (.int .i64 x)∧w.frozen? ⟨g,j*12+10,none⟩=false∧w.cell? ⟨g,j*12+9,none⟩=some (.slice i.ao i.nd.args.length i.ac)∧Hid (∃ cur,Blk w g 70 cur):=by
 obtain ⟨g,cur,hA,hg,ht,hb,hc⟩:=h (by omega)
 obtain ⟨⟨x,hx⟩,h9⟩:=hc j i hi
 exact ⟨g,x,hA,hg,ht,(hb.cell _).trans hx,hb.frozen _,(hb.cell _).trans h9,⟨cur,hb⟩⟩
theorem AgI.gr {k:Nat} {r:RG} (h:AgI W0 base top base2 p0 p5 p7 n nA cA nB cB c A AA AB ga gb wr) (hk:ga[k]?=some r) :
  ∃ g,AA=some ⟨g,0,none⟩∧wr.cell? ⟨g,k*8+1,none⟩=some (.slice r.ko r.gr.kinds.length r.kc)∧wr.cell? ⟨g,k*8+6,none⟩=some (.slice r.no r.gr.nodes.length r.nc):=by
 obtain ⟨h0,h1,h2,h3,h4,h5,h6,h7⟩:=rgc_at hk
 have hn:0<nA:=by
  have h8:=(List.getElem?_eq_some_iff.1 h0).1
  have h9:=h.sh.outer.1
  omega
 obtain ⟨g,cur,hA,_,_,hb,hc⟩:=own_block h.sh.outer hn
 exact ⟨g,hA,(hb.cell _).trans (hc _ _ h1),(hb.cell _).trans (hc _ _ h6)⟩
end
theorem again_walk (A:Option Addr) (n c:Nat) (rs:List Q.Raw) (A':Option Addr) (m d:Nat) (qs:List Q.Raw) (w:World) (h:Q.RdP w w.heap.size A n rs) (h':Q.RdP w w.heap.size A' m qs) :
  Calls Try.prog 5 #[.agg #[.slice A n c],.agg #[.slice A' m d]] w fun e w'=>e=.returned (.bool true)∧Below w.heap.size w w':=by
 obtain ⟨v,hv⟩:∃ v,v=Q.verd (Q.fns rs):=⟨_,rfl⟩
 obtain ⟨GG,hGG⟩:∃ x,x=buildG (Q.fns rs):=⟨_,rfl⟩
 have HX0:Hid (Blk ((w.alloc (.cells #[.slice A n c] 24)).alloc (.cells #[.slice A' m d] 24)) w.heap.size 24 #[.slice A n c]):=Lib.hid ((Blk.new w _ _).alloc _)
 have HY0:Hid (Blk ((w.alloc (.cells #[.slice A n c] 24)).alloc (.cells #[.slice A' m d] 24)) (w.heap.size+1) 24 #[.slice A' m d]):=Lib.hid (blk_2nd w _ _ _ _)
 have HB0:Hid (Below w.heap.size w ((w.alloc (.cells #[.slice A n c] 24)).alloc (.cells #[.slice A' m d] 24))):=Lib.hid (((Below.refl _ _).alloc (Nat.le_refl _) _).alloc (by simp) _)
 have HC:Hid (∀ X,Below w.heap.size w X→Calls Try.prog 8 #[.agg #[.slice A n c]] X fun e w'=>∃ (A2:Option Addr) (n2 c2:Nat) (gs:List RG),e=.returned (.tuple #[.agg #[.slice A2 n2 c2],.int .i64 v])∧Below X.heap.size X w'∧Hid (OwnP w' X.heap.size n2 A2 c2 gs)∧Hid (grs gs=GG)):=Lib.hid fun X hX=>by
  refine (build_any w.heap.size A n c rs X (h.below hX) hX.size).mono fun e w' hh=>?_
  obtain ⟨A2,n2,c2,gs,he,hb,ho,hg⟩:=build_form hh
  exact ⟨A2,n2,c2,gs,by rw [hv];exact he,hb,Lib.hid ho,by rw [hGG];exact hg⟩
 have HD:Hid (∀ X,Below w.heap.size w X→Calls Try.prog 8 #[.agg #[.slice A' m d]] X fun e w'=>∃ (A2:Option Addr) (n2 c2:Nat) (z:Int),e=.returned (.tuple #[.agg #[.slice A2 n2 c2],.int .i64 z])∧Below X.heap.size X w'):=Lib.hid fun X hX=>by
  refine (build_any w.heap.size A' m d qs X (h'.below hX) hX.size).mono fun e w' hh=>?_
  obtain ⟨A2,n2,c2,gs,he,hb,ho,hg⟩:=build_form hh
  exact ⟨A2,n2,c2,_,he,hb⟩
 have HE:Hid (∀ X,Below w.heap.size w X→Calls Try.prog 7 #[.agg #[.slice A n c]] X fun e w'=>∃ (A2:Option Addr) (c2:Nat),e=.returned (.agg #[.slice A2 n c2])∧Below X.heap.size X w'∧Hid (∀ Y,Below w'.heap.size w' Y→Calls Try.prog 8 #[.agg #[.slice A2 n c2]] Y fun e w'=>∃ (A2:Option Addr) (n2 c2:Nat) (gs:List RG),e=.returned (.tuple #[.agg #[.slice A2 n2 c2],.int .i64 v])∧Below Y.heap.size Y w'∧Hid (OwnP w' Y.heap.size n2 A2 c2 gs)∧Hid (grs gs=GG))):=Lib.hid fun X hX=>by
  refine (Q.rcopy_any w.heap.size A n c rs X (h.below hX) hX.size).mono fun e w' hh=>?_
  obtain ⟨A2,c2,rs2,he,hcp⟩:=hh
  refine ⟨A2,c2,he,hcp.below,Lib.hid fun Y hY=>?_⟩
  refine (build_any w'.heap.size A2 n c2 rs2 Y ((hcp.rd2 (h.below hX)).below hY) hY.size).mono fun e w' hh=>?_
  obtain ⟨A2,n2,c2,gs,he,hb,ho,hg⟩:=build_form hh
  rw [hcp.eq] at he hg
  exact ⟨A2,n2,c2,gs,by rw [hv];exact he,hb,Lib.hid ho,by rw [hGG];exact hg⟩
 clear h h' hv hGG
 go_enter Try.func5,Try.ntmps5
 go_wp2_with (go_at_call 6;refine (bfirst_any _).mono ?_;rintro e w1 ⟨rfl,hb1⟩;refine Hid.out ?_)
 have HX1:=Lib.hid (HX0.out.below hb1 HX0.out.lt)
 have HY1:=Lib.hid (HY0.out.below hb1 HY0.out.lt)
 have HB1:Hid (Below w.heap.size w w1):=Lib.hid (HB0.out.trans (hb1.mono (by simp;omega)))
 have x1:w1.cell? ⟨w.heap.size,0,none⟩=some (.slice A n c):=HX1.out.cell 0
 have hz1:w.heap.size+1<w1.heap.size:=HY1.out.lt
 clear hb1 HX0 HB0 HY0
 refine Lib.hid ?_
 go_wp2_with (go_at_call 8;refine (HC.out w1 HB1.out).mono ?_;rintro e w2 ⟨AA,nA,cA,ga,rfl,hb2,HOA,HGA⟩;have HB2:=Lib.hid hb2;clear hb2;refine Hid.out ?_)
 obtain ⟨W3,hW3⟩:∃ x,x=w2.alloc (.cells #[.slice AA nA cA] 29):=⟨_,rfl⟩
 have hz2:w1.heap.size≤w2.heap.size:=HB2.out.size
 have H53:Hid (Blk W3 w2.heap.size 29 #[.slice AA nA cA]):=Lib.hid (by rw [hW3];exact Blk.new _ _ _)
 have HB13:Hid (Below w1.heap.size w1 W3):=Lib.hid (by rw [hW3];exact HB2.out.alloc hz2 _)
 have HOA3:Hid (OwnP W3 w1.heap.size nA AA cA ga):=Lib.hid (by rw [hW3];exact HOA.out.below ((Below.refl _ _).alloc (Nat.le_refl _) _))
 have HSH3:Hid (ShA W3 w1.heap.size w2.heap.size AA nA cA ga):=Lib.hid (by rw [hW3];exact (ShA.of HOA.out).below ((Below.refl _ _).alloc (Nat.le_refl _) _))
 have HBW3:Hid (Below w.heap.size w W3):=Lib.hid (HB1.out.trans (HB13.out.mono (by omega)))
 have HX3:=Lib.hid (HX1.out.below HB13.out HX1.out.lt)
 have HY3:=Lib.hid (HY1.out.below HB13.out HY1.out.lt)
 have y3:W3.cell? ⟨w.heap.size+1,0,none⟩=some (.slice A' m d):=HY3.out.cell 0
 have hz3:w2.heap.size<W3.heap.size:=H53.out.lt
 clear x1
 refine Lib.hid ?_
 go_upto_region 4 with fail
 rw [← hW3]
 clear hW3
 go_wp2_with (go_at_call 8;refine (HD.out W3 HBW3.out).mono ?_;rintro e w4 ⟨A4,n4,c4,z4,rfl,hb4⟩;have HB4:=Lib.hid hb4;have x4:w4.cell? ⟨w.heap.size,0,none⟩=some (.slice A n c):=(HX3.out.below hb4 HX3.out.lt).cell 0;clear hb4 y3;refine Hid.out ?_)
 have HX4:=Lib.hid (HX3.out.below HB4.out HX3.out.lt)
 have H54:=Lib.hid (H53.out.below HB4.out H53.out.lt)
 have hz4:W3.heap.size≤w4.heap.size:=HB4.out.size
 have HBW4:Hid (Below w.heap.size w w4):=Lib.hid (HBW3.out.trans (HB4.out.mono (by omega)))
 have HB14:Hid (Below w1.heap.size w1 w4):=Lib.hid (HB13.out.trans (HB4.out.mono (by omega)))
 have HOA4:=Lib.hid (HOA3.out.below HB4.out)
 have HSH4:=Lib.hid (HSH3.out.below HB4.out)
 refine Lib.hid ?_
 go_wp2_with (go_at_call 7;refine (HE.out w4 HBW4.out).mono ?_;rintro e w5 ⟨A5,c5,rfl,hb5,HF⟩;have HB5:=Lib.hid hb5;clear hb5 x4;refine Hid.out ?_)
 have hz5:w4.heap.size≤w5.heap.size:=HB5.out.size
 refine Lib.hid ?_
 go_wp2_with (go_at_call 8;refine (HF.out w5 (Below.refl _ _)).mono ?_;rintro e w6 ⟨AB,nB,cB,gb,rfl,hb6,HOB,HGB⟩;have HB6:=Lib.hid hb6;clear hb6;refine Hid.out ?_)
 obtain ⟨W7,hW7⟩:∃ x,x=w6.alloc (.cells #[.slice AB nB cB] 29):=⟨_,rfl⟩
 have hz6:w5.heap.size≤w6.heap.size:=HB6.out.size
 have H77:Hid (Blk W7 w6.heap.size 29 #[.slice AB nB cB]):=Lib.hid (by rw [hW7];exact Blk.new _ _ _)
 have HB47:Hid (Below w4.heap.size w4 W7):=Lib.hid (by rw [hW7];exact (HB5.out.trans (HB6.out.mono hz5)).alloc (by omega) _)
 have HOB7:Hid (OwnP W7 w5.heap.size nB AB cB gb):=Lib.hid (by rw [hW7];exact HOB.out.below ((Below.refl _ _).alloc (Nat.le_refl _) _))
 have HI7:Hid (AgI w1 w1.heap.size w2.heap.size w5.heap.size w.heap.size w2.heap.size w6.heap.size n nA cA nB cB c A AA AB ga gb W7):=Lib.hid ⟨HSH4.out.below HB47.out,HX4.out.below HB47.out HX4.out.lt,H54.out.below HB47.out H54.out.lt,H77.out,HOB7.out,HB14.out.trans (HB47.out.mono (by omega)),by omega⟩
 have HOA7:=Lib.hid (HOA4.out.below HB47.out)
 have HSM:Hid (Calls Try.prog 13 #[.agg #[.slice AA nA cA],.agg #[.slice AB nB cB]] W7 fun e w'=>e=.returned (.bool true)∧Below W7.heap.size W7 w'):=Lib.hid (by
  have h:=rsame_any W7.heap.size AA AB nA nB cA cB ga gb W7 HOA7.out.rd HOB7.out.rd (Nat.le_refl _)
  rw [HGA.out,HGB.out,decide_eq_true rfl] at h
  exact h)
 have u5:W7.cell? ⟨w2.heap.size,0,none⟩=some (.slice AA nA cA):=HI7.out.b5.cell 0
 have u7:W7.cell? ⟨w6.heap.size,0,none⟩=some (.slice AB nB cB):=HI7.out.b7.cell 0
 clear HX1 HY1 HX3 HY3 HB13 HB2 HOA HOA3 HSH3 H53 HB4 HX4 H54 HBW3 HBW4 HB14 HOA4 HSH4 HF HB5 HOB HB6 HB47 H77 HD HE
 refine Lib.hid ?_
 go_upto_region 6 with fail
 rw [← hW7]
 clear hW7
 go_wp2_with (go_at_call 13;refine HSM.out.mono ?_;rintro e w8 ⟨rfl,hb8⟩;have HB8:=Lib.hid hb8;clear hb8;refine Hid.out ?_)
 have HI8:Hid (AgI w1 w1.heap.size w2.heap.size w5.heap.size w.heap.size w2.heap.size w6.heap.size n nA cA nB cB c A AA AB ga gb w8):=Lib.hid ⟨HI7.out.sh.below HB8.out,HI7.out.b0.below HB8.out HI7.out.b0.lt,HI7.out.b5.below HB8.out HI7.out.b5.lt,HI7.out.b7.below HB8.out HI7.out.b7.lt,HOB7.out.below HB8.out,HI7.out.below.trans (HB8.out.mono HI7.out.below.size),HI7.out.top⟩
 have e5:w8.cell? ⟨w2.heap.size,0,none⟩=some (.slice AA nA cA):=HI8.out.b5.cell 0
 have HLN:=Lib.hid HOA7.out.len
 have HWF:=Lib.hid HOA7.out.wf
 have HND:Hid (∀ r ∈ ga,r.ns.length=r.gr.nodes.length):=Lib.hid fun r hr=>by rw [← length_nds,(HOA7.out.each r hr).nd]
 have HWN:Hid (∀ r ∈ ga,∀ i ∈ r.ns,WfN i.nd):=Lib.hid fun r hr i hi=>(HOA7.out.wf r hr).nodes i.nd (by rw [← (HOA7.out.each r hr).nd];exact List.mem_map.2 ⟨i,hi,rfl⟩)
 have hsA:=HOA7.out.sz
 clear u5 u7 HSM HI7 HOA7 HOB7 HB8
 refine Lib.hid ?_
 go_wp2
 clear e5
 go_loopw [42] (fun i wr=>∃ k:Nat,k≤nA∧i=.int .i64 k∧Hid (AgI w1 w1.heap.size w2.heap.size w5.heap.size w.heap.size w2.heap.size w6.heap.size n nA cA nB cB c A AA AB ga gb wr)) (fun i _=>nA-(intOf i).toNat)
 case atStart=>exact ⟨0,Nat.zero_le _,rfl,HI8⟩
 case round =>
  clear HI8
  obtain ⟨k,hk,rfl,HI⟩:=hrel
  by_cases hlt:k<nA
  ·have hkl:k<ga.length:=by have:=HLN.out;omega
   obtain ⟨r,HR⟩:∃ r,Hid (ga[k]?=some r):=⟨_,List.getElem?_eq_getElem hkl⟩
   have HM:=Lib.hid (List.mem_of_getElem? HR.out)
   obtain ⟨nK,HNK⟩:∃ x,Hid (x=r.gr.kinds.length):=⟨_,Lib.hid rfl⟩
   obtain ⟨nN,HNN⟩:∃ x,Hid (x=r.gr.nodes.length):=⟨_,Lib.hid rfl⟩
   have HCE:Hid (∀ W,AgI w1 w1.heap.size w2.heap.size w5.heap.size w.heap.size w2.heap.size w6.heap.size n nA cA nB cB c A AA AB ga gb W→∃ g,W.cell? ⟨w2.heap.size,0,none⟩=some (.slice (some ⟨g,0,none⟩) nA cA)∧W.cell? ⟨g,k*8+1,none⟩=some (.slice r.ko nK r.kc)∧W.cell? ⟨g,k*8+6,none⟩=some (.slice r.no nN r.nc)):=Lib.hid fun W hI=>by
    obtain ⟨g,hA,h1,h6⟩:=hI.gr HR.out
    have h0:=hI.b5.cell 0
    exact ⟨g,by rw [hA] at h0;exact h0,by rw [HNK.out];exact h1,by rw [HNN.out];exact h6⟩
   have wk:nK≤140737488351232:=by rw [HNK.out];exact (HWF.out r HM.out).kl
   have wn:nN*12≤140737488351232*12:=by have:=(HWF.out r HM.out).nl;have:=HNN.out;omega
   have HGN:Hid (r.ns.length=nN):=Lib.hid (by rw [HNN.out];exact HND.out r HM.out)
   clear hkl
   obtain ⟨g,f0,f1,f6⟩:=HCE.out wr HI.out
   go_wp2
   clear f0 f1 f6
   obtain ⟨wo,rfl⟩:∃ wo:World,wo=wr:=⟨_,rfl⟩
   go_loopw [52] (fun i wr=>∃ j:Nat,j≤nN∧i=.int .i64 j∧Hid (AgI w1 w1.heap.size w2.heap.size w5.heap.size w.heap.size w2.heap.size w6.heap.size n nA cA nB cB c A AA AB ga gb wr)) (fun i _=>nN-(intOf i).toNat)
   case atStart=>exact ⟨0,Nat.zero_le _,rfl,HI⟩
   case round =>
    clear HI
    obtain ⟨j,hj,rfl,HJ⟩:=hrel
    by_cases hjl:j<nN
    ·obtain ⟨i,HII⟩:∃ i,Hid (r.ns[j]?=some i):=⟨_,Lib.hid (List.getElem?_eq_getElem (by have:=HGN.out;omega))⟩
     have HMI:=Lib.hid (List.mem_of_getElem? HII.out)
     obtain ⟨L,HL⟩:∃ x,Hid (x=i.nd.args.length):=⟨_,Lib.hid rfl⟩
     have wa:L≤140737488351232:=by rw [HL.out];have:=(HWN.out r HM.out i HMI.out).al;omega
     obtain ⟨g,f0,f1,f6⟩:=HCE.out wr HJ.out
     obtain ⟨gn,y,hno,hgn,htn,z10,zf,z9,HNB⟩:=(HJ.out.sh.nodes r HM.out).cell (show j<r.gr.nodes.length by rw [← HNN.out];exact hjl) HII.out
     rw [hno] at f6
     rw [← HL.out] at z9
     obtain ⟨curk,hcurk⟩:=HNB.out
     have HJ2:=Lib.hid (HJ.out.setN (k:=j) hcurk hgn htn (-5))
     obtain ⟨W2,hW2⟩:∃ x,x=wr.setCell ⟨gn,j*12+10,none⟩ (.int .i64 (-5)):=⟨_,rfl⟩
     rw [← hW2] at HJ2
     clear hno hcurk HNB
     go_upto_region 15 with fail
     rw [← hW2]
     clear f0 f1 f6 z10 zf z9 hW2
     obtain ⟨g,f0,f1,f6⟩:=HCE.out W2 HJ2.out
     obtain ⟨gn,y,hno,hgn,htn,z10,zf,z9,HNB⟩:=(HJ2.out.sh.nodes r HM.out).cell (show j<r.gr.nodes.length by rw [← HNN.out];exact hjl) HII.out
     rw [hno] at f6
     rw [← HL.out] at z9
     clear hno
     go_wp2
     clear f0 f1 f6 z10 zf z9
     obtain ⟨wod,rfl⟩:∃ wo:World,wo=wr:=⟨_,rfl⟩
     go_loopw [75] (fun i wr=>∃ l:Nat,l≤L∧i=.int .i64 l∧Hid (AgI w1 w1.heap.size w2.heap.size w5.heap.size w.heap.size w2.heap.size w6.heap.size n nA cA nB cB c A AA AB ga gb wr)) (fun i _=>L-(intOf i).toNat)
     case atStart=>exact ⟨0,Nat.zero_le _,rfl,HJ2⟩
     case round =>
      clear HJ HJ2
      obtain ⟨l,hl,rfl,HJ⟩:=hrel
      by_cases hll:l<L
      ·obtain ⟨g,f0,f1,f6⟩:=HCE.out wr HJ.out
       obtain ⟨gn,y,hno,hgn,htn,z10,zf,z9,HNB⟩:=(HJ.out.sh.nodes r HM.out).cell (show j<r.gr.nodes.length by rw [← HNN.out];exact hjl) HII.out
       rw [hno] at f6
       rw [← HL.out] at z9
       obtain ⟨gq,y2,hao,hga,hta,u0,uf,HAB⟩:=(HJ.out.sh.args r HM.out i HMI.out).cell (show l<i.nd.args.length by rw [← HL.out];exact hll)
       rw [hao] at z9
       obtain ⟨curk,hcurk⟩:=HAB.out
       have HJ2:=Lib.hid (HJ.out.setInt (i:=l) hcurk hga hta (-5))
       clear hno hao hcurk HNB HAB
       go_wp2
       go_roundw
       case rel=>exact ⟨l+1,by omega,by go_num,HJ2⟩
       case measure=>simp [intOf];omega
      ·obtain rfl:L=l:=by omega
       clear hll hl
       go_wp2
       go_roundw
       case rel=>exact ⟨j+1,by omega,by go_num,HJ⟩
       case measure=>simp [intOf];omega
    ·obtain rfl:nN=j:=by omega
     clear hjl hj
     obtain ⟨g,f0,f1,f6⟩:=HCE.out wr HJ.out
     go_wp2
     clear f0 f1 f6
     obtain ⟨wod,rfl⟩:∃ wo:World,wo=wr:=⟨_,rfl⟩
     go_loopw [99] (fun i wr=>∃ l:Nat,l≤nK∧i=.int .i64 l∧Hid (AgI w1 w1.heap.size w2.heap.size w5.heap.size w.heap.size w2.heap.size w6.heap.size n nA cA nB cB c A AA AB ga gb wr)) (fun i _=>nK-(intOf i).toNat)
     case atStart=>exact ⟨0,Nat.zero_le _,rfl,HJ⟩
     case round =>
      clear HJ
      obtain ⟨l,hl,rfl,HJ⟩:=hrel
      by_cases hll:l<nK
      ·obtain ⟨g,f0,f1,f6⟩:=HCE.out wr HJ.out
       obtain ⟨gq,y2,hao,hga,hta,u0,uf,HAB⟩:=(HJ.out.sh.kinds r HM.out).cell (show l<r.gr.kinds.length by rw [← HNK.out];exact hll)
       rw [hao] at f1
       obtain ⟨curk,hcurk⟩:=HAB.out
       have HKK:=Lib.hid hcurk
       clear hao hcurk HAB
       go_wp2
       go_roundw
       case rel=>exact ⟨l+1,by omega,by go_num,HJ.out.setKind HKK.out hga hta _⟩
       case measure=>simp [intOf];omega
      ·obtain rfl:nK=l:=by omega
       clear hll hl
       go_wp2
       go_roundw
       case rel=>exact ⟨k+1,by omega,by go_num,HJ⟩
       case measure=>simp [intOf];omega
  ·obtain rfl:nA=k:=by omega
   clear hlt hk
   have hzb:=HI.out.below.size
   have HBW:Hid (Below w.heap.size w wr):=HB1.out.trans (HI.out.below.mono (by omega))
   have d0:wr.cell? ⟨w.heap.size,0,none⟩=some (.slice A n c):=HI.out.b0.cell 0
   have HCC:=Lib.hid (HC.out wr HBW.out)
   have hz7:w6.heap.size<wr.heap.size:=HI.out.b7.lt
   go_wp2_with (go_at_call 8;refine HCC.out.mono ?_;rintro e w9 ⟨AC,nC,cC,gc,rfl,hb9,HOC,HGC⟩;have HB9:=Lib.hid hb9;clear hb9 d0;refine Hid.out ?_)
   obtain ⟨W10,hW10⟩:∃ x,x=w9.alloc (.cells #[.slice AC nC cC] 29):=⟨_,rfl⟩
   have hz9:wr.heap.size≤w9.heap.size:=HB9.out.size
   have HBD:Hid (Below wr.heap.size wr W10):=Lib.hid (by rw [hW10];exact HB9.out.alloc hz9 _)
   have HZZ:Hid (Blk W10 w9.heap.size 29 #[.slice AC nC cC]):=Lib.hid (by rw [hW10];exact Blk.new _ _ _)
   have HOC0:Hid (OwnP W10 wr.heap.size nC AC cC gc):=Lib.hid (by rw [hW10];exact HOC.out.below ((Below.refl _ _).alloc (Nat.le_refl _) _))
   have HOB0:Hid (OwnP W10 w5.heap.size nB AB cB gb):=Lib.hid (HI.out.gb.below HBD.out)
   have HSM:Hid (Calls Try.prog 13 #[.agg #[.slice AB nB cB],.agg #[.slice AC nC cC]] W10 fun e w'=>e=.returned (.bool true)∧Below W10.heap.size W10 w'):=Lib.hid (by
    have h:=rsame_any W10.heap.size AB AC nB nC cB cC gb gc W10 HOB0.out.rd HOC0.out.rd (Nat.le_refl _)
    rw [HGB.out,HGC.out,decide_eq_true rfl] at h
    exact h)
   have u7:W10.cell? ⟨w6.heap.size,0,none⟩=some (.slice AB nB cB):=(HI.out.b7.below HBD.out hz7).cell 0
   have u9:W10.cell? ⟨w9.heap.size,0,none⟩=some (.slice AC nC cC):=HZZ.out.cell 0
   have HEND:Hid (Below w.heap.size w W10):=Lib.hid (HBW.out.trans (HBD.out.mono HBW.out.size))
   refine Lib.hid ?_
   go_upto_region 28 with fail
   rw [← hW10]
   clear hW10
   go_wp2_with (go_at_call 13;refine HSM.out.mono ?_;rintro e w11 ⟨rfl,hb11⟩;have HB11:=Lib.hid (HEND.out.trans (hb11.mono HEND.out.size));clear hb11;refine Hid.out ?_)
   refine Lib.hid ?_
   go_wp2
   go_ret
   exact ⟨rfl,HB11.out⟩
end Go.Proofs.Ytgekmjkfnhogkaa
