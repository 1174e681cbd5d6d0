/-
  Texts of one seat, one behind the other: Cp, Cg, Cq, Cr, Rin.
-/
import Derived.Deep.RegionLaw
import Derived.Test.YtedmcfaghfgpoaaGreatDoorMA2
import Derived.Test.YtedmcfaghfgpoaaGreatDoorMA16
import Derived.Test.YtedmcfaghfgpoaaGreatDoorMA3

set_option linter.unusedVariables false
set_option linter.unusedSimpArgs false
set_option maxRecDepth 100000
set_option maxHeartbeats 51200000
namespace Go.Proofs.YtedmcfaghfgpoaaGreatDoor
open Go.ChangeShapes Go.WideShapes Go.ChangeAt Go.RowKit
theorem own_set {w:World} {base size n c g i:Nat} {e:TypeId} {xs:List Value} {u:Value} (h:w.ownsRow base e size (.slice (some ⟨g,0,none⟩) n c) n xs):(w.setCell ⟨g,i,none⟩ u).ownsRow base e size (.slice (some ⟨g,0,none⟩) n c) n (xs.set i u):=by
 obtain ⟨h1,h2⟩:=h
 refine ⟨by rw [List.length_set];exact h1,?_⟩
 rcases h2 with ⟨h2,_⟩ | ⟨g',cap,cur,he,hg,hb,hn,hm,hc,ht⟩
 ·cases h2
 ·injection he with he hc1 hc2
  injection he with he
  injection he with he
  subst he hc2
  refine .inr ⟨g,c,cur.setIfInBounds i u,rfl,hg,Blk.set_ (t:=e) (cs:=cur) hb i u,hn,hm,by simpa using hc,?_⟩
  rw [← ht]
  simp [List.take_set]
theorem own_at {w:World} {base size n c i:Nat} {e:TypeId} {A:Option Addr} {xs:List Value} {u:Value} (h:w.ownsRow base e size (.slice A n c) n xs) (hu:xs[i]?=some u):∃ g,A=some ⟨g,0,none⟩∧base≤g∧g<w.heap.size∧w.cell? ⟨g,i,none⟩=some u∧w.frozen? ⟨g,i,none⟩=false:=by
 have hl:=(List.getElem?_eq_some_iff.1 hu).1
 rcases h.2 with ⟨h2,h3⟩ | ⟨g,cap,cur,he,hg,hb,hn,hm,hc,ht⟩
 ·exfalso
  have:=h.1
  rw [h3,Nat.zero_mul] at this
  omega
 ·injection he with he
  have hB:Blk w g e cur:=hb
  refine ⟨g,he,hg,hB.lt,?_,hB.frozen i⟩
  rw [hB.cell]
  rw [← ht,List.getElem?_take] at hu
  split at hu
  ·rw [← Array.getElem?_toList];exact hu
  ·cases hu
def OwnN (w:World) (base:Nat) (i:RN):Prop:=w.ownsRow base 3 1 (.slice i.ao i.nd.args.length i.ac) i.nd.args.length (i64c i.nd.args)
structure OwnG (w:World) (base:Nat) (r:RG):Prop where
 params:w.ownsRow base 3 1 (.slice r.po r.gr.params.length r.pc) r.gr.params.length (i64c r.gr.params)
 kinds:w.ownsRow base 42 1 (.slice r.ko r.gr.kinds.length r.kc) r.gr.kinds.length (u8c r.gr.kinds)
 init:w.ownsRow base 3 1 (.slice r.io r.gr.init.length r.ic) r.gr.init.length (i64c r.gr.init)
 nodes:w.ownsRow base 47 12 (.slice r.no r.gr.nodes.length r.nc) r.gr.nodes.length (rnc r.ns)
 each:∀ i ∈ r.ns,OwnN w base i
 nd:nds r.ns=r.gr.nodes
theorem own_below {w w':World} {base size n:Nat} {e:TypeId} {v:Value} {xs:List Value} (h:w.ownsRow base e size v n xs) (hb:Below w.heap.size w w'):w'.ownsRow base e size v n xs :=
 own_kept h fun i hi=>hb.block i (own_block_le h hi).2
theorem OwnN.below {w w':World} {base:Nat} {i:RN} (h:OwnN w base i) (hb:Below w.heap.size w w'):OwnN w' base i:=own_below h hb
theorem OwnG.below {w w':World} {base:Nat} {r:RG} (h:OwnG w base r) (hb:Below w.heap.size w w'):OwnG w' base r :=
 ⟨own_below h.params hb,own_below h.kinds hb,own_below h.init hb,own_below h.nodes hb,fun i hi=>(h.each i hi).below hb,h.nd⟩
theorem OwnG.more {w:World} {base base':Nat} {r:RG} (h:OwnG w base r) (hb:base'≤base):OwnG w base' r :=
 ⟨own_more h.params hb,own_more h.kinds hb,own_more h.init hb,own_more h.nodes hb,fun i hi=>own_more (h.each i hi) hb,h.nd⟩
theorem OwnG.rd {w:World} {base:Nat} {r:RG} (h:OwnG w base r) (hw:WfG r.gr):RdG w w.heap.size r:=by
 refine ⟨Reads.of_own h.params,Reads.of_own h.kinds,Reads.of_own h.init,⟨Reads.of_own h.nodes,by rw [← length_nds,h.nd],fun i hi=>⟨Reads.of_own (h.each i hi),own_cap (h.each i hi)⟩,fun i hi=>hw.nodes _ (by rw [← h.nd];exact List.mem_map_of_mem hi)⟩,h.nd,own_cap h.params⟩
theorem rnc_set {ns:List RN} {k:Nat} {i:RN} (h:ns[k]?=some i) (ao:Option Addr) (ac:Nat):(rnc ns).set (k*12+9) (.slice ao i.nd.args.length ac)=rnc (ns.set k ⟨i.nd,ao,ac⟩):=by
 induction ns generalizing k with
 | nil=>cases h
 | cons x ns ih =>
  cases k with
  | zero =>
   obtain rfl:x=i:=by simpa using h
   show (rnOne x ++ rnc ns).set (0*12+9) _=rnOne _ ++ rnc ns
   rfl
  | succ k =>
   show (rnOne x ++ rnc ns).set ((k+1)*12+9) _=rnOne x ++ rnc (ns.set k _)
   rw [← ih (by simpa using h),List.set_append_right _ _ (by show 12≤_;omega)]
   congr 2
   show (k+1)*12+9-12=_
   omega
structure CgI (w:World) (r:RG) (Ap Ak Ai An:Option Addr) (cp ck ci cn nP nK nI nN:Nat) (k:Nat) (ns:List RN) (wr:World):Prop where
 box:Blk wr w.heap.size 35 #[.slice Ap nP cp,.slice Ak nK ck,.int .i64 r.gr.cells,.slice Ai nI ci,.bool r.gr.result,.int .i64 r.gr.keep,.slice An nN cn,.int .i64 r.gr.entry]
 res:Blk wr (w.heap.size+1) 35 #[.slice none 0 0,.slice none 0 0,.int .i64 0,.slice none 0 0,.bool false,.int .i64 0,.slice none 0 0,.int .i64 0]
 params:wr.ownsRow w.heap.size 3 1 (.slice Ap nP cp) nP (i64c r.gr.params)
 kinds:wr.ownsRow w.heap.size 42 1 (.slice Ak nK ck) nK (u8c r.gr.kinds)
 init:wr.ownsRow w.heap.size 3 1 (.slice Ai nI ci) nI (i64c r.gr.init)
 nodes:wr.ownsRow w.heap.size 47 12 (.slice An nN cn) nN (rnc ns)
 nd:nds ns=r.gr.nodes
 new:∀ j i,j<k→ns[j]?=some i→OwnN wr w.heap.size i
 old:∀ j,k≤j→ns[j]?=r.ns[j]?
 below:Below w.heap.size w wr
theorem CgI.step {w:World} {r:RG} {Ap Ak Ai An:Option Addr} {cp ck ci cn nP nK nI nN k g c':Nat} {A':Option Addr} {ns:List RN} {wr w2:World} {i:RN} (h:CgI w r Ap Ak Ai An cp ck ci cn nP nK nI nN k ns wr) (hi:ns[k]?=some i) (hA:An=some ⟨g,0,none⟩) (hb:Below wr.heap.size wr w2)
  (ho:w2.ownsRow wr.heap.size 3 1 (.slice A' i.nd.args.length c') i.nd.args.length (i64c i.nd.args)) :
  CgI w r Ap Ak Ai An cp ck ci cn nP nK nI nN (k+1) (ns.set k ⟨i.nd,A',c'⟩) (w2.setCell ⟨g,k*12+9,none⟩ (.slice A' i.nd.args.length c')):=by
 subst hA
 have hn2:=own_below h.nodes hb
 obtain ⟨cur,hcur⟩:=own_blk hn2
 have hx2:=h.box.below hb h.box.lt
 have hy2:=h.res.below hb h.res.lt
 have hz:=h.below.size
 have hbl2:=h.below.trans (hb.mono hz)
 have hkl:k<ns.length:=(List.getElem?_eq_some_iff.1 hi).1
 have hgb:w.heap.size≤g:=(own_block_le hn2 (i:=g) (by rfl)).1
 refine ⟨hx2.far (p:=⟨g,k*12+9,none⟩) (hx2.ne_ hcur (by decide)) _,hy2.far (p:=⟨g,k*12+9,none⟩) (hy2.ne_ hcur (by decide)) _,own_far (own_below h.params hb) hcur (by decide) _ _,own_far (own_below h.kinds hb) hcur (by decide) _ _,own_far (own_below h.init hb) hcur (by decide) _ _,?_,?_,?_,?_,hbl2.setCell (p:=⟨g,k*12+9,none⟩) hgb _⟩
 ·have:=own_set (i:=k*12+9) (u:=.slice A' i.nd.args.length c') hn2
  rwa [rnc_set hi] at this
 ·rw [← h.nd]
  unfold nds
  rw [List.map_set]
  show (ns.map RN.nd).set k i.nd=_
  refine List.ext_getElem? fun j=>?_
  rw [List.getElem?_set]
  split
  ·rename_i hkj
   subst hkj
   rw [List.getElem?_map,hi]
   simp [hkl]
  ·rfl
 ·intro j i' hj hij
  rw [List.getElem?_set] at hij
  split at hij
  ·rename_i hkj
   subst hkj
   injection hij with hij
   subst hij
   exact own_far (own_more ho hz) hcur (by decide) _ _
  ·rename_i hkj
   exact own_far (own_below (h.new j i' (by omega) hij) hb) hcur (by decide) _ _
 ·intro j hj
  rw [List.getElem?_set,if_neg (by omega)]
  exact h.old j (by omega)
theorem OwnG.set {w:World} {base p j:Nat} {r:RG} {u:Value} {cs:Array Value} (h:OwnG w base r) (hb:Blk w p 35 cs):OwnG (w.setCell ⟨p,j,none⟩ u) base r :=
 ⟨own_far h.params hb (by decide) _ _,own_far h.kinds hb (by decide) _ _,own_far h.init hb (by decide) _ _,own_far h.nodes hb (by decide) _ _,fun i hi=>own_far (h.each i hi) hb (by decide) _ _,h.nd⟩
theorem CgI.all8 {w:World} {base p:Nat} {r:RG} {cs:Array Value} (h:OwnG w base r) (hb:Blk w p 35 cs) (u0 u1 u2 u3 u4 u5 u6 u7:Value) :
  OwnG ((((((((w.setCell ⟨p,0,none⟩ u0).setCell ⟨p,1,none⟩ u1).setCell ⟨p,2,none⟩ u2).setCell ⟨p,3,none⟩ u3).setCell ⟨p,4,none⟩ u4).setCell ⟨p,5,none⟩ u5).setCell ⟨p,6,none⟩ u6).setCell ⟨p,7,none⟩ u7) base r:=by
 have b0:=hb.set_ 0 u0
 have b1:=b0.set_ 1 u1
 have b2:=b1.set_ 2 u2
 have b3:=b2.set_ 3 u3
 have b4:=b3.set_ 4 u4
 have b5:=b4.set_ 5 u5
 have b6:=b5.set_ 6 u6
 exact (((((((h.set hb).set b0).set b1).set b2).set b3).set b4).set b5).set b6
theorem blk_2nd (w:World) (a b:Array Value) (s t:TypeId):Blk ((w.alloc (.cells a s)).alloc (.cells b t)) (w.heap.size+1) t b:=by
 have:=Blk.new (w.alloc (.cells a s)) t b
 rwa [show (w.alloc (.cells a s)).heap.size=w.heap.size+1 by simp] at this
def SepK (rs:List RG):Prop:=∀ (i j:Nat) (a b:RG) (g:Nat),i≠j→rs[i]?=some a→rs[j]?=some b→a.ko=some ⟨g,0,none⟩→b.ko≠some ⟨g,0,none⟩
theorem SepK.nil:SepK []:=fun i j a b g _ ha=>by cases ha
theorem SepK.snoc {rs:List RG} {r:RG} (h:SepK rs) (hn:∀ a ∈ rs,∀ g,a.ko=some ⟨g,0,none⟩→r.ko≠some ⟨g,0,none⟩):SepK (rs ++ [r]):=by
 intro i j a b g hij ha hb hg
 rcases Nat.lt_or_ge i rs.length with hi | hi
 ·rw [List.getElem?_append_left hi] at ha
  rcases Nat.lt_or_ge j rs.length with hj | hj
  ·rw [List.getElem?_append_left hj] at hb
   exact h i j a b g hij ha hb hg
  ·rw [List.getElem?_append_right hj] at hb
   have hb':=List.mem_of_getElem? hb
   rw [show b=r by simpa using hb']
   exact hn a (List.mem_of_getElem? ha) g hg
 ·rw [List.getElem?_append_right hi] at ha
  have ha':=List.mem_of_getElem? ha
  rw [show a=r by simpa using ha'] at hg
  rcases Nat.lt_or_ge j rs.length with hj | hj
  ·rw [List.getElem?_append_left hj] at hb
   intro hbg
   exact hn b (List.mem_of_getElem? hb) g hbg hg
  ·exfalso
   rw [List.getElem?_append_right hj] at hb
   have h1:=(List.getElem?_eq_some_iff.1 ha).1
   have h2:=(List.getElem?_eq_some_iff.1 hb).1
   simp at h1 h2
   omega
structure CpR (w:World) (n:Nat) (gs:List Gr) (A:Option Addr) (c:Nat) (rs:List RG) (w':World):Prop where
 eq:grs rs=gs
 own:w'.ownsRow w.heap.size 35 8 (.slice A n c) n (rgc rs)
 each:∀ r ∈ rs,OwnG w' w.heap.size r
 below:Below w.heap.size w w'
 sep:SepK rs
def CpE (w:World) (n:Nat) (gs:List Gr) (e:Ending) (w':World):Prop:=∃ (A:Option Addr) (c:Nat) (rs:List RG),e=.returned (.agg #[.slice A n c])∧CpR w n gs A c rs w'
structure CpI (w:World) (p:Nat) (gs:List Gr) (rs:List RG) (k:Nat) (A:Option Addr) (c:Nat) (wr:World):Prop where
 blk:Blk wr p 24 #[.slice A k c]
 res:Blk wr (w.heap.size+1) 24 #[.slice none 0 0]
 own:wr.ownsRow w.heap.size 35 8 (.slice A k c) k (rgc rs)
 each:∀ r ∈ rs,OwnG wr w.heap.size r
 eq:grs rs=gs.take k
 below:Below w.heap.size w wr
 sep:SepK rs
theorem OwnG.alloc {w:World} {base:Nat} {r:RG} (h:OwnG w base r) (o:Obj):OwnG (w.alloc o) base r :=
 ⟨own_alloc h.params o,own_alloc h.kinds o,own_alloc h.init o,own_alloc h.nodes o,fun i hi=>own_alloc (h.each i hi) o,h.nd⟩
theorem OwnG.farG {w:World} {base p:Nat} {r:RG} {u:Value} {cs:Array Value} (h:OwnG w base r) (hb:Blk w p 24 cs) (j:Nat):OwnG (w.setCell ⟨p,j,none⟩ u) base r :=
 ⟨own_far h.params hb (by decide) _ _,own_far h.kinds hb (by decide) _ _,own_far h.init hb (by decide) _ _,own_far h.nodes hb (by decide) _ _,fun i hi=>own_far (h.each i hi) hb (by decide) _ _,h.nd⟩
theorem OwnG.grown {w w':World} {base b2 n2:Nat} {r:RG} {v:Value} {xs:List Value} (h:OwnG w base r) (ho:w.ownsRow b2 35 8 v n2 xs) (hg:w.grownBy w' v.ownBlock):OwnG w' base r :=
 ⟨own_grown ho h.params hg (by decide),own_grown ho h.kinds hg (by decide),own_grown ho h.init hg (by decide),own_grown ho h.nodes hg (by decide),fun i hi=>own_grown ho (h.each i hi) hg (by decide),h.nd⟩
theorem CpI.step {w wr w2 w4:World} {p k c:Nat} {gs:List Gr} {rs:List RG} {A:Option Addr} {r:RG} {v':Value} (o:Obj) (h:CpI w p gs rs k A c wr) (hp:p≠w.heap.size+1) (hpz:w.heap.size≤p)
  (hr:gs[k]?=some r.gr) (hb2:Below wr.heap.size wr w2) (hof:OwnG w2 wr.heap.size r)
  (hown:w4.ownsRow w.heap.size 35 8 v' (k+1) (rgc rs ++ rgOne r)) (hgr:(w2.alloc o).grownBy w4 (Value.slice A k c).ownBlock) :
  ∃ A4 c4,v'=.slice A4 (k+1) c4∧w4.cell? ⟨p,0,none⟩=some (.slice A k c)∧w4.frozen? ⟨p,0,none⟩=false∧CpI w p gs (rs ++ [r]) (k+1) A4 c4 (w4.setCell ⟨p,0,none⟩ (.slice A4 (k+1) c4)):=by
 obtain ⟨A4,c4,rfl⟩:=own_slice hown
 have hzr:w.heap.size≤wr.heap.size:=h.below.size
 have hb2':Blk (w2.alloc o) p 24 #[.slice A k c]:=(h.blk.below hb2 h.blk.lt).alloc o
 have hs2:Blk (w2.alloc o) (w.heap.size+1) 24 #[.slice none 0 0]:=(h.res.below hb2 h.res.lt).alloc o
 have ho2:=own_alloc (own_below h.own hb2) o
 have hb4:Blk w4 p 24 #[.slice A k c]:=blk_grown hb2' ho2 hgr (by decide)
 have hs4:=blk_grown hs2 ho2 hgr (by decide)
 have keepL:∀ r':RG,OwnG (w2.alloc o) w.heap.size r'→OwnG (w4.setCell ⟨p,0,none⟩ (.slice A4 (k+1) c4)) w.heap.size r':=fun r' hr'=>(hr'.grown ho2 hgr).farG hb4 0
 have hz2:=hb2.size
 refine ⟨A4,c4,rfl,hb4.cell 0,hb4.frozen 0,⟨hb4.set_ 0 _,hs4.far (p:=⟨p,0,none⟩) (by show w.heap.size+1≠p;omega) _,?_,?_,?_,?_,h.sep.snoc fun a ha g hg hgr=>?_⟩⟩
 ·have:=own_far hown hb4 (by decide) 0 (.slice A4 (k+1) c4)
  rw [rgc_append]
  simpa [rgc] using this
 ·intro r' hr'
  rcases List.mem_append.1 hr' with hr' | hr'
  ·exact keepL r' (((h.each r' hr').below hb2).alloc o)
  ·obtain rfl:r'=r:=by simpa using hr'
   exact keepL r' ((hof.alloc o).more hzr)
 ·rw [grs_append,h.eq,List.take_add_one,hr];rfl
 ·have h1:Below w.heap.size w (w2.alloc o):=(h.below.trans (hb2.mono hzr)).alloc (by omega) o
  exact (h1.grown hgr (by simp;omega) fun i hi=>(own_block_le h.own hi).1).setCell (p:=⟨p,0,none⟩) hpz _
 ·have e1:=(own_block_le (h.each a ha).kinds (i:=g) (by rw [hg];rfl)).2
  have e2:=(own_block_le hof.kinds (i:=g) (by rw [hgr];rfl)).1
  omega
theorem CpI.done {w wr:World} {p n c:Nat} {gs:List Gr} {rs:List RG} {A:Option Addr} (h:CpI w p gs rs n A c wr) (hn:gs.length=n) :
  CpE w n gs (.returned (.agg #[.slice A n c])) (wr.setCell ⟨w.heap.size+1,0,none⟩ (.slice A n c)):=by
 refine ⟨A,c,rs,rfl,⟨?_,own_far h.own h.res (by decide) 0 _,fun r hr=>(h.each r hr).farG h.res 0,h.below.setCell (p:=⟨w.heap.size+1,0,none⟩) (by show w.heap.size≤w.heap.size+1;omega) _,h.sep⟩⟩
 rw [h.eq,List.take_of_length_le (by omega)]
structure CgJ (w:World) (r:RG) (Ap Ak Ai An:Option Addr) (cp ck ci cn nP nK nI nN:Nat) (k:Nat) (ns:List RN) (wr:World):Prop where
 box:Blk wr w.heap.size 35 #[.slice Ap nP cp,.slice Ak nK ck,.int .i64 r.gr.cells,.slice Ai nI ci,.bool r.gr.result,.int .i64 r.gr.keep,.slice An nN cn,.int .i64 r.gr.entry]
 params:wr.ownsRow w.heap.size 3 1 (.slice Ap nP cp) nP (i64c r.gr.params)
 kinds:wr.ownsRow w.heap.size 42 1 (.slice Ak nK ck) nK (u8c r.gr.kinds)
 init:wr.ownsRow w.heap.size 3 1 (.slice Ai nI ci) nI (i64c r.gr.init)
 nodes:wr.ownsRow w.heap.size 47 12 (.slice An nN cn) nN (rnc ns)
 nd:nds ns=r.gr.nodes
 new:∀ j i,j<k→ns[j]?=some i→OwnN wr w.heap.size i
 old:∀ j,k≤j→ns[j]?=r.ns[j]?
 below:Below w.heap.size w wr
theorem CgJ.step {w:World} {r:RG} {Ap Ak Ai An:Option Addr} {cp ck ci cn nP nK nI nN k g c':Nat} {A':Option Addr} {ns:List RN} {wr w2:World} {i:RN} (h:CgJ w r Ap Ak Ai An cp ck ci cn nP nK nI nN k ns wr) (hi:ns[k]?=some i) (hA:An=some ⟨g,0,none⟩) (hb:Below wr.heap.size wr w2)
  (ho:w2.ownsRow wr.heap.size 3 1 (.slice A' i.nd.args.length c') i.nd.args.length (i64c i.nd.args)) :
  CgJ w r Ap Ak Ai An cp ck ci cn nP nK nI nN (k+1) (ns.set k ⟨i.nd,A',c'⟩) (w2.setCell ⟨g,k*12+9,none⟩ (.slice A' i.nd.args.length c')):=by
 subst hA
 have hn2:=own_below h.nodes hb
 obtain ⟨cur,hcur⟩:=own_blk hn2
 have hx2:=h.box.below hb h.box.lt
 have hz:=h.below.size
 have hbl2:=h.below.trans (hb.mono hz)
 have hkl:k<ns.length:=(List.getElem?_eq_some_iff.1 hi).1
 have hgb:w.heap.size≤g:=(own_block_le hn2 (i:=g) (by rfl)).1
 refine ⟨hx2.far (p:=⟨g,k*12+9,none⟩) (hx2.ne_ hcur (by decide)) _,own_far (own_below h.params hb) hcur (by decide) _ _,own_far (own_below h.kinds hb) hcur (by decide) _ _,own_far (own_below h.init hb) hcur (by decide) _ _,?_,?_,?_,?_,hbl2.setCell (p:=⟨g,k*12+9,none⟩) hgb _⟩
 ·have:=own_set (i:=k*12+9) (u:=.slice A' i.nd.args.length c') hn2
  rwa [rnc_set hi] at this
 ·rw [← h.nd]
  unfold nds
  rw [List.map_set]
  show (ns.map RN.nd).set k i.nd=_
  refine List.ext_getElem? fun j=>?_
  rw [List.getElem?_set]
  split
  ·rename_i hkj
   subst hkj
   rw [List.getElem?_map,hi]
   simp [hkl]
  ·rfl
 ·intro j i' hj hij
  rw [List.getElem?_set] at hij
  split at hij
  ·rename_i hkj
   subst hkj
   injection hij with hij
   subst hij
   exact own_far (own_more ho hz) hcur (by decide) _ _
  ·rename_i hkj
   exact own_far (own_below (h.new j i' (by omega) hij) hb) hcur (by decide) _ _
 ·intro j hj
  rw [List.getElem?_set,if_neg (by omega)]
  exact h.old j (by omega)

theorem rcopy_any (B:Nat) (A:Option Addr) (n c:Nat) (rs:List RG) (w:World) (h:RdP w B A n rs) (hB:B≤w.heap.size) :
  Calls Tryz.prog 11 #[.agg #[.slice A n c]] w (CpE w n (grs rs)):=by
 have hsz:=h.sz
 have H:=Lib.hid h
 have HN:Hid ((grs rs).length=n):=Lib.hid (by rw [length_grs,h.len])
 have HW0:Hid (Below w.heap.size w (((w.alloc (.cells #[.slice A n c] 24)).alloc (.cells #[.slice none 0 0] 24)).alloc (.cells #[.slice none 0 0] 24))):=(((Below.refl _ _).alloc (Nat.le_refl _) _).alloc (by simp) _).alloc (by simp;omega) _
 have HI0:Hid (CpI w (w.heap.size+2) (grs rs) [] 0 none 0 (((w.alloc (.cells #[.slice A n c] 24)).alloc (.cells #[.slice none 0 0] 24)).alloc (.cells #[.slice none 0 0] 24))):=by
  refine ⟨?_,(blk_2nd w _ _ _ _).alloc _,own_none _ _ _ _,(fun r hr=>by cases hr),rfl,HW0.out,SepK.nil⟩
  have:=Blk.new ((w.alloc (.cells #[.slice A n c] 24)).alloc (.cells #[.slice none 0 0] 24)) 24 #[.slice none 0 0]
  rw [show ((w.alloc (.cells #[.slice A n c] 24)).alloc (.cells #[.slice none 0 0] 24)).heap.size=w.heap.size+2 by simp] at this
  exact this
 clear h HW0
 go_enter Tryz.func11,Tryz.ntmps11
 go_wp2
 go_loopw [10] (fun i wr=>∃ (rs':List RG) (k:Nat) (A:Option Addr) (c:Nat),k≤n∧i=.int .i64 k∧Hid (CpI w (w.heap.size+2) (grs rs) rs' k A c wr)) (fun i _=>n-(intOf i).toNat)
 case atStart=>exact ⟨[],0,none,0,Nat.zero_le _,rfl,HI0⟩
 case round =>
  clear HI0
  obtain ⟨rs',k,Aq,cq,hk,rfl,HI⟩:=hrel
  have hz:=HI.out.below.size
  have hpz:=HI.out.blk.lt
  by_cases hlt:k<n
  ·obtain ⟨b,off,r,rfl,hbk,HX,HRG,HWG,x0,x1,x2,x3,x4,x5,x6,x7⟩:=(H.out.below (HI.out.below.mono hB)).gr hlt
   have HXK:Hid ((grs rs)[k]?=some r.gr):=Lib.hid (by unfold grs;rw [List.getElem?_map,HX.out];rfl)
   have hbr:b<wr.heap.size:=by omega
   have hlp:=HWG.out.pl
   have hlk:=HWG.out.kl
   have hli:=HWG.out.il
   have hln:=HWG.out.nl
   have h1:=HRG.out.params
   have h2:=HRG.out.kinds
   have h3:=HRG.out.init
   have h4:=HRG.out.nodes.row
   obtain ⟨nP,e1⟩:∃ x,r.gr.params.length=x:=⟨_,rfl⟩
   obtain ⟨nK,e2⟩:∃ x,r.gr.kinds.length=x:=⟨_,rfl⟩
   obtain ⟨nI,e3⟩:∃ x,r.gr.init.length=x:=⟨_,rfl⟩
   obtain ⟨nN,e4⟩:∃ x,r.gr.nodes.length=x:=⟨_,rfl⟩
   rw [e1] at hlp x0 h1
   rw [e2] at hlk x1 h2
   rw [e3] at hli x3 h3
   rw [e4] at hln x6 h4
   have HRP:=Lib.hid h1
   have HRK:=Lib.hid h2
   have HRI:=Lib.hid h3
   have HRN:=Lib.hid h4
   have HE1:=Lib.hid e1
   have HE2:=Lib.hid e2
   have HE3:=Lib.hid e3
   have HE4:=Lib.hid e4
   clear h1 h2 h3 h4 e1 e2 e3 e4 HX
   have hBr:B≤wr.heap.size:=by omega
   have HB1:Hid (Below wr.heap.size wr (wr.alloc (.cells #[.slice r.po nP r.pc,.slice r.ko nK r.kc,.int .i64 r.gr.cells,.slice r.io nI r.ic,.bool r.gr.result,.int .i64 r.gr.keep,.slice r.no nN r.nc,.int .i64 r.gr.entry] 35))):=(Below.refl _ _).alloc (Nat.le_refl _) _
   have HX1:Hid (Blk (wr.alloc (.cells #[.slice r.po nP r.pc,.slice r.ko nK r.kc,.int .i64 r.gr.cells,.slice r.io nI r.ic,.bool r.gr.result,.int .i64 r.gr.keep,.slice r.no nN r.nc,.int .i64 r.gr.entry] 35)) wr.heap.size 35 #[.slice r.po nP r.pc,.slice r.ko nK r.kc,.int .i64 r.gr.cells,.slice r.io nI r.ic,.bool r.gr.result,.int .i64 r.gr.keep,.slice r.no nN r.nc,.int .i64 r.gr.entry]):=Lib.hid (Blk.new wr 35 #[.slice r.po nP r.pc,.slice r.ko nK r.kc,.int .i64 r.gr.cells,.slice r.io nI r.ic,.bool r.gr.result,.int .i64 r.gr.keep,.slice r.no nN r.nc,.int .i64 r.gr.entry])
   have HS1:Hid ((wr.alloc (.cells #[.slice r.po nP r.pc,.slice r.ko nK r.kc,.int .i64 r.gr.cells,.slice r.io nI r.ic,.bool r.gr.result,.int .i64 r.gr.keep,.slice r.no nN r.nc,.int .i64 r.gr.entry] 35)).heap.size=wr.heap.size+1):=Lib.hid (by simp)
   have HEB2:Hid (Below wr.heap.size wr ((wr.alloc (.cells #[.slice r.po nP r.pc,.slice r.ko nK r.kc,.int .i64 r.gr.cells,.slice r.io nI r.ic,.bool r.gr.result,.int .i64 r.gr.keep,.slice r.no nN r.nc,.int .i64 r.gr.entry] 35)).alloc (.cells #[] 3))):=Lib.hid (HB1.out.alloc HB1.out.size _)
   have HEX2:Hid (Blk ((wr.alloc (.cells #[.slice r.po nP r.pc,.slice r.ko nK r.kc,.int .i64 r.gr.cells,.slice r.io nI r.ic,.bool r.gr.result,.int .i64 r.gr.keep,.slice r.no nN r.nc,.int .i64 r.gr.entry] 35)).alloc (.cells #[] 3)) wr.heap.size 35 #[.slice r.po nP r.pc,.slice r.ko nK r.kc,.int .i64 r.gr.cells,.slice r.io nI r.ic,.bool r.gr.result,.int .i64 r.gr.keep,.slice r.no nN r.nc,.int .i64 r.gr.entry]):=Lib.hid (HX1.out.alloc _)
   have HEO2:Hid (((wr.alloc (.cells #[.slice r.po nP r.pc,.slice r.ko nK r.kc,.int .i64 r.gr.cells,.slice r.io nI r.ic,.bool r.gr.result,.int .i64 r.gr.keep,.slice r.no nN r.nc,.int .i64 r.gr.entry] 35)).alloc (.cells #[] 3)).ownsRow wr.heap.size 3 1 (.slice (some ⟨wr.heap.size+1,0,none⟩) 0 0) 0 []):=by
    have:=World.ownsRow_made (base:=wr.heap.size) (e:=3) (size:=1) (wr.alloc (.cells #[.slice r.po nP r.pc,.slice r.ko nK r.kc,.int .i64 r.gr.cells,.slice r.io nI r.ic,.bool r.gr.result,.int .i64 r.gr.keep,.slice r.no nN r.nc,.int .i64 r.gr.entry] 35)) #[] 0 HB1.out.size (Nat.zero_le _) (by simp)
    rw [HS1.out] at this
    exact this
   have hes2:wr.heap.size≤((wr.alloc (.cells #[.slice r.po nP r.pc,.slice r.ko nK r.kc,.int .i64 r.gr.cells,.slice r.io nI r.ic,.bool r.gr.result,.int .i64 r.gr.keep,.slice r.no nN r.nc,.int .i64 r.gr.entry] 35)).alloc (.cells #[] 3)).heap.size:=HEB2.out.size
   have HRR2:=Lib.hid (HRP.out.below (HEB2.out.mono hBr))
   have qe2:((wr.alloc (.cells #[.slice r.po nP r.pc,.slice r.ko nK r.kc,.int .i64 r.gr.cells,.slice r.io nI r.ic,.bool r.gr.result,.int .i64 r.gr.keep,.slice r.no nN r.nc,.int .i64 r.gr.entry] 35)).alloc (.cells #[] 3)).cell? ⟨wr.heap.size,0,none⟩=some (.slice r.po nP r.pc):=HEX2.out.cell 0
   go_wp2_with (at_builtin;refine app_int rfl _ _ rfl wr.heap.size (.slice (some ⟨wr.heap.size+1,0,none⟩) 0 0) 0 [] rfl HEO2.out B r.po nP r.pc (i64c r.gr.params) rfl HRR2.out (i64c_one _) (by omega) hes2 ?_;intro v2 w2 hown hgr _;refine Hid.out ?_)
   rw [Nat.zero_add,List.nil_append] at hown
   obtain ⟨Ap,cp,rfl⟩:=own_slice hown
   have hx:Blk w2 wr.heap.size 35 #[.slice r.po nP r.pc,.slice r.ko nK r.kc,.int .i64 r.gr.cells,.slice r.io nI r.ic,.bool r.gr.result,.int .i64 r.gr.keep,.slice r.no nN r.nc,.int .i64 r.gr.entry]:=blk_grown HEX2.out HEO2.out hgr (by decide)
   have hbl:Below wr.heap.size wr w2:=HEB2.out.grown hgr hes2 fun i hi=>(own_block_le HEO2.out hi).1
   have d2:w2.cell? ⟨wr.heap.size,0,none⟩=some (.slice r.po nP r.pc):=hx.cell 0
   have f2:w2.frozen? ⟨wr.heap.size,0,none⟩=false:=hx.frozen 0
   have q2:w2.cell? ⟨wr.heap.size,1,none⟩=some (.slice r.ko nK r.kc):=hx.cell 1
   have hl2:wr.heap.size<w2.heap.size:=hx.lt
   have HX2:Hid (Blk (w2.setCell ⟨wr.heap.size,0,none⟩ (.slice Ap nP cp)) wr.heap.size 35 #[.slice Ap nP cp,.slice r.ko nK r.kc,.int .i64 r.gr.cells,.slice r.io nI r.ic,.bool r.gr.result,.int .i64 r.gr.keep,.slice r.no nN r.nc,.int .i64 r.gr.entry]):=Lib.hid (hx.set_ 0 _)
   have HB2:Hid (Below wr.heap.size wr (w2.setCell ⟨wr.heap.size,0,none⟩ (.slice Ap nP cp))):=Lib.hid (hbl.setCell (p:=⟨wr.heap.size,0,none⟩) (Nat.le_refl _) _)
   have HS2:Hid ((w2.setCell ⟨wr.heap.size,0,none⟩ (.slice Ap nP cp)).heap.size=w2.heap.size):=Lib.hid (by simp [World.setCell])
   have HO2:Hid ((w2.setCell ⟨wr.heap.size,0,none⟩ (.slice Ap nP cp)).ownsRow wr.heap.size 3 1 (.slice Ap nP cp) nP (i64c r.gr.params)):=Lib.hid (own_far hown hx (by decide) 0 _)
   clear hown hgr hx hbl qe2
   refine Lib.hid ?_
   have HEB3:Hid (Below wr.heap.size wr ((w2.setCell ⟨wr.heap.size,0,none⟩ (.slice Ap nP cp)).alloc (.cells #[] 42))):=Lib.hid (HB2.out.alloc HB2.out.size _)
   have HEX3:Hid (Blk ((w2.setCell ⟨wr.heap.size,0,none⟩ (.slice Ap nP cp)).alloc (.cells #[] 42)) wr.heap.size 35 #[.slice Ap nP cp,.slice r.ko nK r.kc,.int .i64 r.gr.cells,.slice r.io nI r.ic,.bool r.gr.result,.int .i64 r.gr.keep,.slice r.no nN r.nc,.int .i64 r.gr.entry]):=Lib.hid (HX2.out.alloc _)
   have HEO3:Hid (((w2.setCell ⟨wr.heap.size,0,none⟩ (.slice Ap nP cp)).alloc (.cells #[] 42)).ownsRow wr.heap.size 42 1 (.slice (some ⟨w2.heap.size,0,none⟩) 0 0) 0 []):=by
    have:=World.ownsRow_made (base:=wr.heap.size) (e:=42) (size:=1) (w2.setCell ⟨wr.heap.size,0,none⟩ (.slice Ap nP cp)) #[] 0 HB2.out.size (Nat.zero_le _) (by simp)
    rw [HS2.out] at this
    exact this
   have hes3:wr.heap.size≤((w2.setCell ⟨wr.heap.size,0,none⟩ (.slice Ap nP cp)).alloc (.cells #[] 42)).heap.size:=HEB3.out.size
   have HRR3:=Lib.hid (HRK.out.below (HEB3.out.mono hBr))
   have qe3:((w2.setCell ⟨wr.heap.size,0,none⟩ (.slice Ap nP cp)).alloc (.cells #[] 42)).cell? ⟨wr.heap.size,1,none⟩=some (.slice r.ko nK r.kc):=HEX3.out.cell 1
   go_wp2_with (at_builtin;refine app_kind rfl _ _ rfl wr.heap.size (.slice (some ⟨w2.heap.size,0,none⟩) 0 0) 0 [] rfl HEO3.out B r.ko nK r.kc (u8c r.gr.kinds) rfl HRR3.out (u8c_one _) (by omega) hes3 ?_;intro v3 w3 hown hgr _;refine Hid.out ?_)
   rw [Nat.zero_add,List.nil_append] at hown
   obtain ⟨Ak,ck,rfl⟩:=own_slice hown
   have hx:Blk w3 wr.heap.size 35 #[.slice Ap nP cp,.slice r.ko nK r.kc,.int .i64 r.gr.cells,.slice r.io nI r.ic,.bool r.gr.result,.int .i64 r.gr.keep,.slice r.no nN r.nc,.int .i64 r.gr.entry]:=blk_grown HEX3.out HEO3.out hgr (by decide)
   have hbl:Below wr.heap.size wr w3:=HEB3.out.grown hgr hes3 fun i hi=>(own_block_le HEO3.out hi).1
   have d3:w3.cell? ⟨wr.heap.size,1,none⟩=some (.slice r.ko nK r.kc):=hx.cell 1
   have f3:w3.frozen? ⟨wr.heap.size,1,none⟩=false:=hx.frozen 1
   have q3:w3.cell? ⟨wr.heap.size,3,none⟩=some (.slice r.io nI r.ic):=hx.cell 3
   have hl3:wr.heap.size<w3.heap.size:=hx.lt
   have HX3:Hid (Blk (w3.setCell ⟨wr.heap.size,1,none⟩ (.slice Ak nK ck)) wr.heap.size 35 #[.slice Ap nP cp,.slice Ak nK ck,.int .i64 r.gr.cells,.slice r.io nI r.ic,.bool r.gr.result,.int .i64 r.gr.keep,.slice r.no nN r.nc,.int .i64 r.gr.entry]):=Lib.hid (hx.set_ 1 _)
   have HB3:Hid (Below wr.heap.size wr (w3.setCell ⟨wr.heap.size,1,none⟩ (.slice Ak nK ck))):=Lib.hid (hbl.setCell (p:=⟨wr.heap.size,1,none⟩) (Nat.le_refl _) _)
   have HS3:Hid ((w3.setCell ⟨wr.heap.size,1,none⟩ (.slice Ak nK ck)).heap.size=w3.heap.size):=Lib.hid (by simp [World.setCell])
   have HO3:Hid ((w3.setCell ⟨wr.heap.size,1,none⟩ (.slice Ak nK ck)).ownsRow wr.heap.size 42 1 (.slice Ak nK ck) nK (u8c r.gr.kinds)):=Lib.hid (own_far hown hx (by decide) 1 _)
   have HOx:Hid ((w3.setCell ⟨wr.heap.size,1,none⟩ (.slice Ak nK ck)).ownsRow wr.heap.size 3 1 (.slice Ap nP cp) nP (i64c r.gr.params)):=Lib.hid (own_far (own_kept (own_alloc HO2.out _) fun i hi=>hgr.block i (own_block_le (own_alloc HO2.out _) hi).2 (fun e=>absurd (own_block_le HO2.out hi).2 (by rw [show i=w2.heap.size by simpa [Value.ownBlock] using e,HS2.out];omega))) hx (by decide) 1 _)
   clear HO2
   have HO2:=HOx
   clear HOx
   clear hown hgr hx hbl qe3
   refine Lib.hid ?_
   have HEB4:Hid (Below wr.heap.size wr ((w3.setCell ⟨wr.heap.size,1,none⟩ (.slice Ak nK ck)).alloc (.cells #[] 3))):=Lib.hid (HB3.out.alloc HB3.out.size _)
   have HEX4:Hid (Blk ((w3.setCell ⟨wr.heap.size,1,none⟩ (.slice Ak nK ck)).alloc (.cells #[] 3)) wr.heap.size 35 #[.slice Ap nP cp,.slice Ak nK ck,.int .i64 r.gr.cells,.slice r.io nI r.ic,.bool r.gr.result,.int .i64 r.gr.keep,.slice r.no nN r.nc,.int .i64 r.gr.entry]):=Lib.hid (HX3.out.alloc _)
   have HEO4:Hid (((w3.setCell ⟨wr.heap.size,1,none⟩ (.slice Ak nK ck)).alloc (.cells #[] 3)).ownsRow wr.heap.size 3 1 (.slice (some ⟨w3.heap.size,0,none⟩) 0 0) 0 []):=by
    have:=World.ownsRow_made (base:=wr.heap.size) (e:=3) (size:=1) (w3.setCell ⟨wr.heap.size,1,none⟩ (.slice Ak nK ck)) #[] 0 HB3.out.size (Nat.zero_le _) (by simp)
    rw [HS3.out] at this
    exact this
   have hes4:wr.heap.size≤((w3.setCell ⟨wr.heap.size,1,none⟩ (.slice Ak nK ck)).alloc (.cells #[] 3)).heap.size:=HEB4.out.size
   have HRR4:=Lib.hid (HRI.out.below (HEB4.out.mono hBr))
   have qe4:((w3.setCell ⟨wr.heap.size,1,none⟩ (.slice Ak nK ck)).alloc (.cells #[] 3)).cell? ⟨wr.heap.size,3,none⟩=some (.slice r.io nI r.ic):=HEX4.out.cell 3
   go_wp2_with (at_builtin;refine app_int rfl _ _ rfl wr.heap.size (.slice (some ⟨w3.heap.size,0,none⟩) 0 0) 0 [] rfl HEO4.out B r.io nI r.ic (i64c r.gr.init) rfl HRR4.out (i64c_one _) (by omega) hes4 ?_;intro v4 w4 hown hgr _;refine Hid.out ?_)
   rw [Nat.zero_add,List.nil_append] at hown
   obtain ⟨Ai,ci,rfl⟩:=own_slice hown
   have hx:Blk w4 wr.heap.size 35 #[.slice Ap nP cp,.slice Ak nK ck,.int .i64 r.gr.cells,.slice r.io nI r.ic,.bool r.gr.result,.int .i64 r.gr.keep,.slice r.no nN r.nc,.int .i64 r.gr.entry]:=blk_grown HEX4.out HEO4.out hgr (by decide)
   have hbl:Below wr.heap.size wr w4:=HEB4.out.grown hgr hes4 fun i hi=>(own_block_le HEO4.out hi).1
   have d4:w4.cell? ⟨wr.heap.size,3,none⟩=some (.slice r.io nI r.ic):=hx.cell 3
   have f4:w4.frozen? ⟨wr.heap.size,3,none⟩=false:=hx.frozen 3
   have q4:w4.cell? ⟨wr.heap.size,6,none⟩=some (.slice r.no nN r.nc):=hx.cell 6
   have hl4:wr.heap.size<w4.heap.size:=hx.lt
   have HX4:Hid (Blk (w4.setCell ⟨wr.heap.size,3,none⟩ (.slice Ai nI ci)) wr.heap.size 35 #[.slice Ap nP cp,.slice Ak nK ck,.int .i64 r.gr.cells,.slice Ai nI ci,.bool r.gr.result,.int .i64 r.gr.keep,.slice r.no nN r.nc,.int .i64 r.gr.entry]):=Lib.hid (hx.set_ 3 _)
   have HB4:Hid (Below wr.heap.size wr (w4.setCell ⟨wr.heap.size,3,none⟩ (.slice Ai nI ci))):=Lib.hid (hbl.setCell (p:=⟨wr.heap.size,3,none⟩) (Nat.le_refl _) _)
   have HS4:Hid ((w4.setCell ⟨wr.heap.size,3,none⟩ (.slice Ai nI ci)).heap.size=w4.heap.size):=Lib.hid (by simp [World.setCell])
   have HO4:Hid ((w4.setCell ⟨wr.heap.size,3,none⟩ (.slice Ai nI ci)).ownsRow wr.heap.size 3 1 (.slice Ai nI ci) nI (i64c r.gr.init)):=Lib.hid (own_far hown hx (by decide) 3 _)
   have HOx:Hid ((w4.setCell ⟨wr.heap.size,3,none⟩ (.slice Ai nI ci)).ownsRow wr.heap.size 3 1 (.slice Ap nP cp) nP (i64c r.gr.params)):=Lib.hid (own_far (own_kept (own_alloc HO2.out _) fun i hi=>hgr.block i (own_block_le (own_alloc HO2.out _) hi).2 (fun e=>absurd (own_block_le HO2.out hi).2 (by rw [show i=w3.heap.size by simpa [Value.ownBlock] using e,HS3.out];omega))) hx (by decide) 3 _)
   clear HO2
   have HO2:=HOx
   clear HOx
   have HOx:Hid ((w4.setCell ⟨wr.heap.size,3,none⟩ (.slice Ai nI ci)).ownsRow wr.heap.size 42 1 (.slice Ak nK ck) nK (u8c r.gr.kinds)):=Lib.hid (own_far (own_kept (own_alloc HO3.out _) fun i hi=>hgr.block i (own_block_le (own_alloc HO3.out _) hi).2 (fun e=>absurd (own_block_le HO3.out hi).2 (by rw [show i=w3.heap.size by simpa [Value.ownBlock] using e,HS3.out];omega))) hx (by decide) 3 _)
   clear HO3
   have HO3:=HOx
   clear HOx
   clear hown hgr hx hbl qe4
   refine Lib.hid ?_
   have HEB5:Hid (Below wr.heap.size wr ((w4.setCell ⟨wr.heap.size,3,none⟩ (.slice Ai nI ci)).alloc (.cells #[] 47))):=Lib.hid (HB4.out.alloc HB4.out.size _)
   have HEX5:Hid (Blk ((w4.setCell ⟨wr.heap.size,3,none⟩ (.slice Ai nI ci)).alloc (.cells #[] 47)) wr.heap.size 35 #[.slice Ap nP cp,.slice Ak nK ck,.int .i64 r.gr.cells,.slice Ai nI ci,.bool r.gr.result,.int .i64 r.gr.keep,.slice r.no nN r.nc,.int .i64 r.gr.entry]):=Lib.hid (HX4.out.alloc _)
   have HEO5:Hid (((w4.setCell ⟨wr.heap.size,3,none⟩ (.slice Ai nI ci)).alloc (.cells #[] 47)).ownsRow wr.heap.size 47 12 (.slice (some ⟨w4.heap.size,0,none⟩) 0 0) 0 []):=by
    have:=World.ownsRow_made (base:=wr.heap.size) (e:=47) (size:=12) (w4.setCell ⟨wr.heap.size,3,none⟩ (.slice Ai nI ci)) #[] 0 HB4.out.size (Nat.zero_le _) (by simp)
    rw [HS4.out] at this
    exact this
   have hes5:wr.heap.size≤((w4.setCell ⟨wr.heap.size,3,none⟩ (.slice Ai nI ci)).alloc (.cells #[] 47)).heap.size:=HEB5.out.size
   have HRR5:=Lib.hid (HRN.out.below (HEB5.out.mono hBr))
   have qe5:((w4.setCell ⟨wr.heap.size,3,none⟩ (.slice Ai nI ci)).alloc (.cells #[] 47)).cell? ⟨wr.heap.size,6,none⟩=some (.slice r.no nN r.nc):=HEX5.out.cell 6
   go_wp2_with (at_builtin;refine app_node rfl _ _ rfl wr.heap.size (.slice (some ⟨w4.heap.size,0,none⟩) 0 0) 0 [] rfl HEO5.out B r.no nN r.nc (rnc r.ns) rfl HRR5.out (rnc_one _) (by omega) hes5 ?_;intro v5 w5 hown hgr _;refine Hid.out ?_)
   rw [Nat.zero_add,List.nil_append] at hown
   obtain ⟨An,cn,rfl⟩:=own_slice hown
   have hx:Blk w5 wr.heap.size 35 #[.slice Ap nP cp,.slice Ak nK ck,.int .i64 r.gr.cells,.slice Ai nI ci,.bool r.gr.result,.int .i64 r.gr.keep,.slice r.no nN r.nc,.int .i64 r.gr.entry]:=blk_grown HEX5.out HEO5.out hgr (by decide)
   have hbl:Below wr.heap.size wr w5:=HEB5.out.grown hgr hes5 fun i hi=>(own_block_le HEO5.out hi).1
   have d5:w5.cell? ⟨wr.heap.size,6,none⟩=some (.slice r.no nN r.nc):=hx.cell 6
   have f5:w5.frozen? ⟨wr.heap.size,6,none⟩=false:=hx.frozen 6
   have q5:w5.cell? ⟨wr.heap.size,0,none⟩=some (.slice Ap nP cp):=hx.cell 0
   have hl5:wr.heap.size<w5.heap.size:=hx.lt
   have HX5:Hid (Blk (w5.setCell ⟨wr.heap.size,6,none⟩ (.slice An nN cn)) wr.heap.size 35 #[.slice Ap nP cp,.slice Ak nK ck,.int .i64 r.gr.cells,.slice Ai nI ci,.bool r.gr.result,.int .i64 r.gr.keep,.slice An nN cn,.int .i64 r.gr.entry]):=Lib.hid (hx.set_ 6 _)
   have HB5:Hid (Below wr.heap.size wr (w5.setCell ⟨wr.heap.size,6,none⟩ (.slice An nN cn))):=Lib.hid (hbl.setCell (p:=⟨wr.heap.size,6,none⟩) (Nat.le_refl _) _)
   have HS5:Hid ((w5.setCell ⟨wr.heap.size,6,none⟩ (.slice An nN cn)).heap.size=w5.heap.size):=Lib.hid (by simp [World.setCell])
   have HO5:Hid ((w5.setCell ⟨wr.heap.size,6,none⟩ (.slice An nN cn)).ownsRow wr.heap.size 47 12 (.slice An nN cn) nN (rnc r.ns)):=Lib.hid (own_far hown hx (by decide) 6 _)
   have HOx:Hid ((w5.setCell ⟨wr.heap.size,6,none⟩ (.slice An nN cn)).ownsRow wr.heap.size 3 1 (.slice Ap nP cp) nP (i64c r.gr.params)):=Lib.hid (own_far (own_kept (own_alloc HO2.out _) fun i hi=>hgr.block i (own_block_le (own_alloc HO2.out _) hi).2 (fun e=>absurd (own_block_le HO2.out hi).2 (by rw [show i=w4.heap.size by simpa [Value.ownBlock] using e,HS4.out];omega))) hx (by decide) 6 _)
   clear HO2
   have HO2:=HOx
   clear HOx
   have HOx:Hid ((w5.setCell ⟨wr.heap.size,6,none⟩ (.slice An nN cn)).ownsRow wr.heap.size 42 1 (.slice Ak nK ck) nK (u8c r.gr.kinds)):=Lib.hid (own_far (own_kept (own_alloc HO3.out _) fun i hi=>hgr.block i (own_block_le (own_alloc HO3.out _) hi).2 (fun e=>absurd (own_block_le HO3.out hi).2 (by rw [show i=w4.heap.size by simpa [Value.ownBlock] using e,HS4.out];omega))) hx (by decide) 6 _)
   clear HO3
   have HO3:=HOx
   clear HOx
   have HOx:Hid ((w5.setCell ⟨wr.heap.size,6,none⟩ (.slice An nN cn)).ownsRow wr.heap.size 3 1 (.slice Ai nI ci) nI (i64c r.gr.init)):=Lib.hid (own_far (own_kept (own_alloc HO4.out _) fun i hi=>hgr.block i (own_block_le (own_alloc HO4.out _) hi).2 (fun e=>absurd (own_block_le HO4.out hi).2 (by rw [show i=w4.heap.size by simpa [Value.ownBlock] using e,HS4.out];omega))) hx (by decide) 6 _)
   clear HO4
   have HO4:=HOx
   clear HOx
   clear hown hgr hx hbl qe5
   refine Lib.hid ?_
   have hlen:r.ns.length=nN:=by rw [← length_nds,HRG.out.nd,HE4.out]
   have HI5:Hid (CgJ wr r Ap Ak Ai An cp ck ci cn nP nK nI nN 0 r.ns (w5.setCell ⟨wr.heap.size,6,none⟩ (.slice An nN cn))):=Lib.hid ⟨HX5.out,HO2.out,HO3.out,HO4.out,HO5.out,HRG.out.nd,(fun j i hj _=>by omega),(fun j _=>rfl),HB5.out⟩
   have HNS:=Lib.hid HRG.out.nodes
   have HR2x:∀ ns:List RN,Hid (rgOne ⟨r.gr,Ap,cp,Ak,ck,Ai,ci,An,cn,ns⟩=[.slice Ap nP cp,.slice Ak nK ck,.int .i64 r.gr.cells,.slice Ai nI ci,.bool r.gr.result,.int .i64 r.gr.keep,.slice An nN cn,.int .i64 r.gr.entry]):=fun ns=>Lib.hid (by
    show ([.slice Ap r.gr.params.length cp,.slice Ak r.gr.kinds.length ck,.int .i64 r.gr.cells,.slice Ai r.gr.init.length ci,.bool r.gr.result,.int .i64 r.gr.keep,.slice An r.gr.nodes.length cn,.int .i64 r.gr.entry]:List Value)=_
    rw [HE1.out,HE2.out,HE3.out,HE4.out])
   obtain ⟨v5,hv5⟩:∃ W,W=(w5.setCell ⟨wr.heap.size,6,none⟩ (.slice An nN cn)):=⟨_,rfl⟩
   obtain ⟨wo,rfl⟩:∃ wo,wo=wr:=⟨_,rfl⟩
   go_wp2
   rw [← hv5] at HI5 ⊢
   clear hv5 HX2 HX3 HX4 HX5 HO2 HO3 HO4 HO5 HB1 HB2 HB3 HB4 HB5 HX1 HRP HRK HRI HRN HS1 HS2 HS3 HS4 HS5 HEB2 HEB3 HEB4 HEB5 HEX2 HEX3 HEX4 HEX5 HEO2 HEO3 HEO4 HEO5 HRR2 HRR3 HRR4 HRR5 d2 d3 d4 d5 f2 f3 f4 f5 q2 q3 q4 q5 x0 x1 x2 x3 x4 x5 x6 x7
   go_loopw [37] (fun i wx=>∃ (m:Nat) (ns:List RN),m≤nN∧i=.int .i64 m∧Hid (CgJ wo r Ap Ak Ai An cp ck ci cn nP nK nI nN m ns wx)) (fun i _=>nN-(intOf i).toNat)
   case atStart=>exact ⟨0,r.ns,Nat.zero_le _,rfl,HI5⟩
   case round =>
    clear HI5
    obtain ⟨m,ns,hm,rfl,HJ⟩:=hrel
    obtain ⟨wx,rfl⟩:∃ wx,wx=wr:=⟨_,rfl⟩
    have hzx:=HJ.out.below.size
    have b6:wx.cell? ⟨wo.heap.size,6,none⟩=some (.slice An nN cn):=HJ.out.box.cell 6
    have hxl:=HJ.out.box.lt
    by_cases hltm:m<nN
    ·have hnsl:ns.length=nN:=by rw [← length_nds,HJ.out.nd,HE4.out]
     obtain ⟨i,hi⟩:∃ i,ns[m]?=some i:=⟨_,List.getElem?_eq_getElem (by omega)⟩
     have hri:r.ns[m]?=some i:=by rw [← HJ.out.old m (Nat.le_refl _)];exact hi
     have him:=List.mem_of_getElem? hri
     obtain ⟨L,hL⟩:∃ L,L=i.nd.args.length:=⟨_,rfl⟩
     have har:Reads wx B 1 i.ao L (i64c i.nd.args):=by
      rw [hL]
      exact (HNS.out.each i him).args.below (HJ.out.below.mono hBr)
     have hal:L*8≤140737488351232:=by rw [hL];exact (HNS.out.wf i him).al
     have h9:(rnc ns)[m*12+9]?=some (.slice i.ao L i.ac):=by rw [hL];exact (rnc_at hi).2.2.2.2.2.2.2.2.2.1
     obtain ⟨g,hAn,hgb,hgl,hgc,hgf⟩:=own_at HJ.out.nodes h9
     have HIX:=Lib.hid hi
     have HLL:=Lib.hid hL
     have HAN:=Lib.hid hAn
     have H9:=Lib.hid h9
     rw [hAn] at b6
     have hBx:B≤wx.heap.size:=by omega
     have HEB:Hid (Below wx.heap.size wx (wx.alloc (.cells #[] 3))):=(Below.refl _ _).alloc (Nat.le_refl _) _
     have HEO:Hid ((wx.alloc (.cells #[] 3)).drew.ownsRow wx.heap.size 3 1 (.slice (some ⟨wx.heap.size,0,none⟩) 0 0) 0 []):=Lib.hid (World.ownsRow_made (base:=wx.heap.size) (e:=3) (size:=1) wx #[] 0 (Nat.le_refl _) (Nat.zero_le _) (by simp))
     have HAR:Hid (Reads (wx.alloc (.cells #[] 3)).drew B 1 i.ao L (i64c i.nd.args)):=Lib.hid (har.below (HEB.out.mono hBx)).drew
     have hes:wx.heap.size≤(wx.alloc (.cells #[] 3)).drew.heap.size:=HEB.out.size
     have b6a:∀ o,(wx.alloc o).cell? ⟨wo.heap.size,6,none⟩=some (.slice (some ⟨g,0,none⟩) nN cn):=fun o=>(World.cell?_alloc_lt wx o _ hxl).trans b6
     have hga:∀ o,(wx.alloc o).cell? ⟨g,m*12+9,none⟩=some (.slice i.ao L i.ac):=fun o=>(World.cell?_alloc_lt wx o _ hgl).trans hgc
     clear hnsl hi hri him har h9 hL hAn
     go_wp2
     go_region_law (refine step_int rfl _ _ rfl wx.heap.size (.slice (some ⟨wx.heap.size,0,none⟩) 0 0) 0 [] rfl HEO.out B i.ao L i.ac (i64c i.nd.args) rfl HAR.out (i64c_one _) (by omega) hes ?_;intro v7 w7 hown hgr hor;rw [Nat.zero_add,List.nil_append] at hown;obtain ⟨A7,c7,rfl⟩:=own_slice hown;have hb8:Below wx.heap.size wx w7:=(HEB.out.drew.grown hgr hes fun j hj=>(own_block_le HEO.out hj).1);have y6:w7.cell? ⟨wo.heap.size,6,none⟩=some (.slice (some ⟨g,0,none⟩) nN cn):=(hb8.cell (p:=⟨wo.heap.size,6,none⟩) hxl).trans b6;have yg:=(hb8.cell (p:=⟨g,m*12+9,none⟩) hgl).trans hgc;have yf:w7.frozen? ⟨g,m*12+9,none⟩=false:=(by have hq:=own_at (own_below HJ.out.nodes hb8) H9.out;obtain ⟨g2,e2,_,_,_,f2⟩:=hq;rw [HAN.out] at e2;injection e2 with e2;injection e2 with e2;subst e2;exact f2);have HS7:=Lib.hid (HJ.out.step HIX.out HAN.out hb8 (by rw [← HLL.out];exact hown));clear hown hgr hb8)
     all_goals
      rw [← HLL.out] at HS7
      go_wp2
      go_roundw
      case rel=>exact ⟨m+1,_,by omega,by go_num,HS7⟩
      case measure=>simp [intOf];omega
    ·obtain rfl:nN=m:=by omega
     have d0:wx.cell? ⟨wo.heap.size,0,none⟩=some (.slice Ap nP cp):=HJ.out.box.cell 0
     have d1:wx.cell? ⟨wo.heap.size,1,none⟩=some (.slice Ak nK ck):=HJ.out.box.cell 1
     have d2:wx.cell? ⟨wo.heap.size,2,none⟩=some (.int .i64 r.gr.cells):=HJ.out.box.cell 2
     have d3:wx.cell? ⟨wo.heap.size,3,none⟩=some (.slice Ai nI ci):=HJ.out.box.cell 3
     have d4:wx.cell? ⟨wo.heap.size,4,none⟩=some (.bool r.gr.result):=HJ.out.box.cell 4
     have d5:wx.cell? ⟨wo.heap.size,5,none⟩=some (.int .i64 r.gr.keep):=HJ.out.box.cell 5
     have d7:wx.cell? ⟨wo.heap.size,7,none⟩=some (.int .i64 r.gr.entry):=HJ.out.box.cell 7
     have p0:wx.cell? ⟨w.heap.size+2,0,none⟩=some (.slice Aq k cq):=(HI.out.blk.below HJ.out.below hpz).cell 0
     have HOF:Hid (OwnG wx wo.heap.size ⟨r.gr,Ap,cp,Ak,ck,Ai,ci,An,cn,ns⟩):=Lib.hid ⟨by show World.ownsRow _ _ _ _ (.slice Ap r.gr.params.length cp) _ _;rw [HE1.out];exact HJ.out.params,by show World.ownsRow _ _ _ _ (.slice Ak r.gr.kinds.length ck) _ _;rw [HE2.out];exact HJ.out.kinds,by show World.ownsRow _ _ _ _ (.slice Ai r.gr.init.length ci) _ _;rw [HE3.out];exact HJ.out.init,by show World.ownsRow _ _ _ _ (.slice An r.gr.nodes.length cn) _ _;rw [HE4.out];exact HJ.out.nodes,(fun i hi=>by
      obtain ⟨j,hj⟩:=List.mem_iff_getElem?.1 hi
      have hjl:=(List.getElem?_eq_some_iff.1 hj).1
      exact HJ.out.new j i (by rw [← length_nds,HJ.out.nd,HE4.out] at hjl;exact hjl) hj),HJ.out.nd⟩
     have HOWN:Hid ((wx.alloc (.cells #[.slice Ap nP cp,.slice Ak nK ck,.int .i64 r.gr.cells,.slice Ai nI ci,.bool r.gr.result,.int .i64 r.gr.keep,.slice An nN cn,.int .i64 r.gr.entry] 35)).ownsRow w.heap.size 35 8 (.slice Aq k cq) k (rgc rs')):=Lib.hid (own_alloc (own_below HI.out.own HJ.out.below) _)
     have HRD:Hid (Reads (wx.alloc (.cells #[.slice Ap nP cp,.slice Ak nK ck,.int .i64 r.gr.cells,.slice Ai nI ci,.bool r.gr.result,.int .i64 r.gr.keep,.slice An nN cn,.int .i64 r.gr.entry] 35)) (wx.heap.size+1) 8 (some ⟨wx.heap.size,0,none⟩) 1 [.slice Ap nP cp,.slice Ak nK ck,.int .i64 r.gr.cells,.slice Ai nI ci,.bool r.gr.result,.int .i64 r.gr.keep,.slice An nN cn,.int .i64 r.gr.entry]):=Lib.hid (one_reads wx 35 [.slice Ap nP cp,.slice Ak nK ck,.int .i64 r.gr.cells,.slice Ai nI ci,.bool r.gr.result,.int .i64 r.gr.keep,.slice An nN cn,.int .i64 r.gr.entry] 8 rfl)
     have HON:Hid (∀ u ∈ ([.slice Ap nP cp,.slice Ak nK ck,.int .i64 r.gr.cells,.slice Ai nI ci,.bool r.gr.result,.int .i64 r.gr.keep,.slice An nN cn,.int .i64 r.gr.entry]:List Value),u.oneCell'=true):=Lib.hid (by rw [← (HR2x ns).out];exact rgOne_one _)
     have hs2:w.heap.size≤(wx.alloc (.cells #[.slice Ap nP cp,.slice Ak nK ck,.int .i64 r.gr.cells,.slice Ai nI ci,.bool r.gr.result,.int .i64 r.gr.keep,.slice An nN cn,.int .i64 r.gr.entry] 35)).heap.size:=by simp;omega
     clear hltm hm
     go_wp2_with (at_builtin;refine app_graph rfl _ _ rfl w.heap.size (.slice Aq k cq) k (rgc rs') rfl HOWN.out (wx.heap.size+1) (some ⟨wx.heap.size,0,none⟩) 1 1 [.slice Ap nP cp,.slice Ak nK ck,.int .i64 r.gr.cells,.slice Ai nI ci,.bool r.gr.result,.int .i64 r.gr.keep,.slice An nN cn,.int .i64 r.gr.entry] rfl HRD.out HON.out (by omega) hs2 ?_;intro v4 w4 hown4 hgr4 _;refine Hid.out ?_)
     rw [← (HR2x ns).out] at hown4
     obtain ⟨A4,c4,rfl,e4,f4,hI4⟩:=HI.out.step (r:=⟨r.gr,Ap,cp,Ak,ck,Ai,ci,An,cn,ns⟩) _ (by omega) (by omega) HXK.out HJ.out.below HOF.out hown4 hgr4
     have HI4:=Lib.hid hI4
     clear hown4 hgr4 hI4
     refine Lib.hid ?_
     go_wp2
     go_roundw
     case rel=>exact ⟨rs' ++ [⟨r.gr,Ap,cp,Ak,ck,Ai,ci,An,cn,ns⟩],k+1,A4,c4,by omega,by go_num,HI4⟩
     case measure=>simp [intOf];omega
  ·obtain rfl:n=k:=by omega
   clear hlt hk
   have p0:wr.cell? ⟨w.heap.size+2,0,none⟩=some (.slice Aq n cq):=HI.out.blk.cell 0
   have r0:wr.cell? ⟨w.heap.size+1,0,none⟩=some (.slice none 0 0):=HI.out.res.cell 0
   have rf:=HI.out.res.frozen 0
   have HD:=Lib.hid (HI.out.done HN.out)
   go_wp2
   exact bodyPost_ret (v:=.agg #[.slice Aq n cq]) (by simp [results,Tryz.results11,go_sem,r0]) rfl HD.out
theorem in_any (B:Nat) (A:Option Addr) (n c:Nat) (l:List Int) (x:Int) (w:World) (h:Reads w B 1 A n (i64c l)) (hn:l.length=n) (hnb:n≤140737488351232) :
  Calls Tryz.prog 31 #[.slice A n c,.int .i64 x] w fun e w'=>e=.returned (.bool (decide (x ∈ l)))∧w'=w:=by
 have H:=Lib.hid h
 have HN:=Lib.hid hn
 clear h hn
 go_enter Tryz.func31,Tryz.ntmps31
 go_wp2
 go_loopw [9] (fun i wr=>∃ k:Nat,k≤n∧i=.int .i64 k∧Hid (x ∉ l.take k)∧wr=w) (fun i _=>n-(intOf i).toNat)
 case atStart=>exact ⟨0,Nat.zero_le _,rfl,Lib.hid (by simp),rfl⟩
 case round =>
  obtain ⟨k,hk,rfl,HP,rfl⟩:=hrel
  by_cases hlt:k<n
  ·obtain ⟨b,off,y,rfl,hb,HX,x1⟩:=H.out.int hlt
   by_cases hxy:y=x
   ·have hd:(y == x)=true:=by simpa using hxy
    have HR:Hid (decide (x ∈ l)=true):=Lib.hid (by rw [decide_eq_true_eq,← hxy];exact List.mem_of_getElem? HX.out)
    clear hxy
    go_wp2
    go_ret
    exact ⟨by rw [HR.out];rfl,rfl⟩
   ·have hd:(y == x)=false:=by simpa using hxy
    have HQ:Hid (x ∉ l.take (k+1)):=Lib.hid (by
     rw [take_at HX.out]
     simp only [List.mem_append,List.mem_singleton,not_or]
     exact ⟨HP.out,fun e=>hxy e.symm⟩)
    clear hxy
    go_wp2
    go_roundw
    case rel=>exact ⟨k+1,by omega,by go_num,HQ,by first | rfl | trivial⟩
    case measure=>simp [intOf];omega
  ·obtain rfl:n=k:=by omega
   have HR:Hid (decide (x ∈ l)=false):=Lib.hid (by
    have h:=HP.out
    rw [List.take_of_length_le (by rw [HN.out];omega)] at h
    simpa using h)
   go_wp2
   go_ret
   exact ⟨by rw [HR.out];rfl,rfl⟩

structure RaI (w:World) (zs:List Int) (k:Nat) (v:Value) (wr:World):Prop where
 own:wr.ownsRow w.heap.size 3 1 v (addL [] (zs.take k)).length (i64c (addL [] (zs.take k)))
 below:Below w.heap.size w wr

theorem radd_any (B:Nat) (A:Option Addr) (n c:Nat) (zs:List Int) (w:World) (h:Reads w B 1 A n (i64c zs)) (hn:zs.length=n) (hz:∀ x ∈ zs,I64 x) (hB:B≤w.heap.size) (hnb:n*8≤140737488351232) :
  Calls Tryz.prog 60 #[.slice none 0 0,.slice A n c] w (NewI w (addL [] zs)):=by
 obtain ⟨i0,hi,hz0,hz1,hz2⟩:=info_parts Tryz.info3
 have H:=Lib.hid h
 have HN:=Lib.hid hn
 have HZ:=Lib.hid hz
 clear h hn hz
 go_enter Tryz.func60,Tryz.ntmps60
 go_wp2
 go_loopw [0,9] (fun v i wr=>∃ k:Nat,k≤n∧i=.int .i64 k∧Hid (RaI w zs k v wr)) (fun _ i _=>n-(intOf i).toNat)
 case atStart=>exact ⟨0,Nat.zero_le _,rfl,⟨World.ownsRow_nil _ _ _ _,Below.refl _ _⟩⟩
 case round =>
  obtain ⟨k,hk,rfl,HI⟩:=hrel
  have hrow:=HI.out.own
  obtain ⟨A1,c1,rfl⟩:=own_slice hrow
  have hws:=HI.out.below.size
  by_cases hlt:k<n
  ·obtain ⟨b,off,x,rfl,hb,HX,x1⟩:=(H.out.below (HI.out.below.mono hB)).int hlt
   have hal:=addL_len [] (zs.take k)
   have htk:(zs.take k).length=k:=by rw [List.length_take,HN.out];omega
   have hadd:addL [] (zs.take (k+1))=add1 (addL [] (zs.take k)) x:=by rw [take_at HX.out,addL_snoc]
   have hbr:b<wr.heap.size:=by omega
   simp only [List.length_nil,Nat.zero_add,htk] at hal
   have HADD:=Lib.hid hadd
   have HRD:Hid (Reads wr wr.heap.size 1 A1 (addL [] (zs.take k)).length (i64c (addL [] (zs.take k)))):=Reads.of_own hrow
   clear hadd htk
   by_cases hneg:x<0
   ·have hg:(addL [] (zs.take (k+1)))=addL [] (zs.take k):=by
     rw [HADD.out,add1,if_neg]
     rintro ⟨h2,_⟩
     omega
    have HG:=Lib.hid hg
    clear hg
    have hd:decide (x≥0)=false:=by simp;omega
    go_wp2
    go_roundw
    case rel=>exact ⟨k+1,by omega,by go_num,⟨by rw [HG.out];exact hrow,HI.out.below⟩⟩
    case measure=>simp [intOf];omega
   ·have hd:decide (x≥0)=true:=by simp;omega
    by_cases hin:x ∈ addL [] (zs.take k)
    ·have hg:(addL [] (zs.take (k+1)))=addL [] (zs.take k):=by
      rw [HADD.out,add1,if_neg]
      rintro ⟨_,h2⟩
      exact h2 hin
     have HG:=Lib.hid hg
     have hm:decide (x ∈ addL [] (zs.take k))=true:=by simpa using hin
     have HM:=Lib.hid hm
     clear hg hin hm
     go_wp2_with (first | (go_at_call 31;refine (in_any _ _ _ _ _ _ _ HRD.out rfl (by omega)).mono ?_;rintro e w2 ⟨rfl,rfl⟩;rw [HM.out]))
     go_roundw
     case rel=>exact ⟨k+1,by omega,by go_num,⟨by rw [HG.out];exact hrow,HI.out.below⟩⟩
     case measure=>simp [intOf];omega
    ·have hg:(addL [] (zs.take (k+1)))=addL [] (zs.take k) ++ [x]:=by
      rw [HADD.out,add1,if_pos]
      exact ⟨by omega,hin⟩
     have HG:=Lib.hid hg
     have hm:decide (x ∈ addL [] (zs.take k))=false:=by simpa using hin
     have HM:=Lib.hid hm
     clear hg hin hm
     go_wp2_with (first
      | (go_at_call 31;refine (in_any _ _ _ _ _ _ _ HRD.out rfl (by omega)).mono ?_;rintro e w2 ⟨rfl,rfl⟩;rw [HM.out])
      | (at_builtin;refine wpList_append_own _ rfl _ _ 26 rfl w.heap.size 3 i0 (.int .i64 0) 1 8 Tryz.underlying26 hi hz0 hz1 hz2 rfl (by decide) _ _ _ rfl (hrow.alloc _) ⟨_,0,none⟩ 1 1 [.int .i64 x] rfl rfl (cell_one_new _ _ _) (ints_oneCell .i64 [x]) (by unfold maxLen;omega) (by omega) (by simp;omega) ?_;intro v' w3 hown' hgrow2 hnil2))
     have s2:=hgrow2.size
     simp at s2
     go_roundw
     case rel =>
      refine ⟨k+1,by omega,by go_num,⟨?_,?_⟩⟩
      ·rw [HG.out]
       simpa [i64c] using hown'
      ·exact ((HI.out.below.alloc hws _).grown hgrow2 (by simp;omega) (fun j hj=>(hrow.lt j hj).1))
     case measure=>simp [intOf];omega
  ·obtain rfl:n=k:=by omega
   have hall:zs.take n=zs:=List.take_of_length_le (by rw [HN.out];omega)
   rw [hall] at hrow ⊢
   have HR:Hid (Reads wr wr.heap.size 1 A1 (addL [] zs).length (i64c (addL [] zs))):=Reads.of_own hrow
   have HC:Hid ((addL [] zs).length≤c1):=own_cap hrow
   have HBL:=Lib.hid HI.out.below
   clear hrow hall
   go_wp2
   go_ret
   exact ⟨A1,c1,rfl,HR.out,HC.out,HBL.out⟩
end Go.Proofs.YtedmcfaghfgpoaaGreatDoor
