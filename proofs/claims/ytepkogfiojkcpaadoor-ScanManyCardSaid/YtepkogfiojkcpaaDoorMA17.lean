/-
  Texts of one seat, one behind the other: JRm, JEb, JNew, JLf0, JLf1, JTk.
-/
import Derived.Test.YtepkogfiojkcpaaDoorMA16

set_option linter.unusedVariables false
set_option linter.unusedSimpArgs false
set_option maxRecDepth 100000
set_option maxHeartbeats 51200000
namespace Go.Proofs.YtepkogfiojkcpaaDoor
open Go.ChangeShapes Go.WideShapes Go.ChangeAt Go.RowKit
section
variable {ks:Nat→Option Obj} {rb:Nat} {V:Nat→Value} {L:Nat→List Int} {nx:Int} {uv:Value} {us:List U3} {w w':World}
theorem box_set (V:Nat→Value) (a b v:Value) {l:Nat} (hl:l<4):(#[V 0,V 1,V 2,V 3,a,b]:Array Value).setIfInBounds l v=#[upd V l v 0,upd V l v 1,upd V l v 2,upd V l v 3,a,b]:=by
 rcases (by omega:l=0∨l=1∨l=2∨l=3) with rfl | rfl | rfl | rfl <;> rfl
theorem RmI.lcell (h:RmI ks rb V L nx uv us w) {l:Nat} (hl:l<4):w.cell? ⟨rb,l,none⟩=some (V l)∧w.frozen? ⟨rb,l,none⟩=false:=by
 refine ⟨?_,h.box.frozen _⟩
 rw [h.box.cell]
 rcases (by omega:l=0∨l=1∨l=2∨l=3) with rfl | rfl | rfl | rfl <;> rfl
theorem RmI.setL (h:RmI ks rb V L nx uv us w) {l:Nat} (hl:l<4) {v:Value} {xs:List Int} (hown:w.ownsRow (rb+1) 3 1 v xs.length (i64c xs)) (hsep:∀ k,k<4→k≠l→∀ g,v.ownBlock=some g→(V k).ownBlock≠some g) (hks:∀ g o,ks g=some o→v.ownBlock≠some g) :
  RmI ks rb (upd V l v) (upd L l xs) nx uv us (w.setCell ⟨rb,l,none⟩ v):=by
 have hb:=h.box.set_ l v
 rw [box_set V _ _ v hl] at hb
 refine ⟨hb,fun k hk=>?_,fun j k hj hk hjk g hg=>?_,own_far h.uses h.box (by decide) _ _,(h.keep.swapV hks).set (p:=⟨rb,l,none⟩) (.inl rfl) _⟩
 ·by_cases e:k=l
  ·subst e
   rw [upd_at,upd_at]
   exact own_far hown h.box (by decide) _ _
  ·rw [upd_ne e,upd_ne e]
   exact own_far (h.own k hk) h.box (by decide) _ _
 ·by_cases e:j=l
  ·subst e
   rw [upd_at] at hg
   rw [upd_ne (fun e=>hjk e.symm)]
   exact hsep k hk (fun e=>hjk e.symm) g hg
  ·rw [upd_ne e] at hg
   by_cases e2:k=l
   ·subst e2
    rw [upd_at]
    intro hv
    exact hsep j hj e g hv hg
   ·rw [upd_ne e2]
    exact h.sep j k hj hk hjk g hg
theorem RmI.cutL (h:RmI ks rb V L nx uv us w) {l k:Nat} (hl:l<4) (hk:k≤(L l).length) (h0:0<(L l).length) :
  ∃ g c,V l=.slice (some ⟨g,0,none⟩) (L l).length c∧(L l).length≤c∧RmI ks rb (upd V l (.slice (some ⟨g,0,none⟩) k c)) (upd L l ((L l).take k)) nx uv us (w.setCell ⟨rb,l,none⟩ (.slice (some ⟨g,0,none⟩) k c)):=by
 have ho:=h.own l hl
 obtain ⟨g,c,hv,hg,hlt⟩:=ho.form h0
 rw [hv] at ho
 have h1:=own_cutU ho hk h0
 have hlen:((L l).take k).length=k:=by rw [List.length_take];omega
 have h2:(i64c (L l)).take (k*1)=i64c ((L l).take k):=by unfold i64c;rw [Nat.mul_one,List.map_take]
 rw [h2] at h1
 refine ⟨g,c,hv,own_cap ho,h.setL hl (by rw [hlen];exact h1) (fun j hj hjl x hx=>?_) fun y o hk=>by have:=(h.keep y o hk).2.2.1 l hl;rw [hv] at this;exact this⟩
 exact h.sep l j hl hj (fun e=>hjl e.symm) x (by rw [hv];exact hx)
theorem RmI.pushL (h:RmI ks rb V L nx uv us w) {l:Nat} (hl:l<4) {x:Int} {o:Obj} {v':Value} (hown:w'.ownsRow (rb+1) 3 1 v' ((L l).length+1) (i64c (L l) ++ [.int .i64 x])) (hg:(w.alloc o).grownBy w' (V l).ownBlock) (hor:v'.ownBlock=(V l).ownBlock∨v'.ownBlock=some (w.alloc o).heap.size) :
  w'.frozen? ⟨rb,l,none⟩=false∧(∃ y,w'.cell? ⟨rb,l,none⟩=some y)∧Hid (RmI ks rb (upd V l v') (upd L l (L l ++ [x])) nx uv us (w'.setCell ⟨rb,l,none⟩ v'))∧Hid (Below rb w (w'.setCell ⟨rb,l,none⟩ v')):=by
 have ho:=own_alloc (h.own l hl) o
 have hbx:=blk_grown (h.box.alloc o) ho hg (by decide)
 have hrw:=h.box.lt
 have hbl:Below rb w w':=((Below.refl _ _).alloc (by omega) o).grown hg (by simp;omega) fun g he=>by have:=(own_block_le ho he).1;omega
 have hcell:w'.cell? ⟨rb,l,none⟩=some (V l):=by
  rw [hbx.cell]
  rcases (by omega:l=0∨l=1∨l=2∨l=3) with rfl | rfl | rfl | rfl <;> rfl
 have hsep:∀ k,k<4→k≠l→∀ g,v'.ownBlock=some g→(V k).ownBlock≠some g:=fun k hk hkl g hv hgk=>by
  rcases hor with e | e
  ·rw [e] at hv
   exact h.sep l k hl hk (fun e=>hkl e.symm) g hv hgk
  ·rw [e] at hv
   injection hv with hv
   have:=(own_block_le (h.own k hk) hgk).2
   simp at hv
   omega
 have hb:=hbx.set_ l v'
 rw [box_set V _ _ v' hl] at hb
 refine ⟨hbx.frozen l,⟨_,hcell⟩,Lib.hid ⟨hb,fun k hk=>?_,fun j k hj hk hjk g hg'=>?_,?_,((h.keep.grown hg (.inr ⟨l,hl,rfl⟩)).swapV (h.keep.fresh hor fun g o hk=>(h.keep g o hk).2.2.1 l hl)).set (p:=⟨rb,l,none⟩) (.inl rfl) _⟩,Lib.hid (hbl.setCell (p:=⟨rb,l,none⟩) (Nat.le_refl _) _)⟩
 ·by_cases e:k=l
  ·subst e
   rw [upd_at,upd_at,List.length_append,i64c_append]
   exact own_far hown hbx (by decide) _ _
  ·rw [upd_ne e,upd_ne e]
   have h1:w'.ownsRow (rb+1) 3 1 (V k) (L k).length (i64c (L k)):=own_kept (own_alloc (h.own k hk) o) fun g hgk=>hg.block g (own_block_le (own_alloc (h.own k hk) o) hgk).2 fun e2=>h.sep l k hl hk (fun e=>by omega) g e2.symm hgk
   exact own_far h1 hbx (by decide) _ _
 ·by_cases e:j=l
  ·subst e
   rw [upd_at] at hg'
   rw [upd_ne (fun e=>hjk e.symm)]
   exact hsep k hk (fun e=>hjk e.symm) g hg'
  ·rw [upd_ne e] at hg'
   by_cases e2:k=l
   ·subst e2
    rw [upd_at]
    intro hv
    exact hsep j hj e g hv hg'
   ·rw [upd_ne e2]
    exact h.sep j k hj hk hjk g hg'
 ·exact own_far (own_grown ho (own_alloc h.uses o) hg (by decide)) hbx (by decide) _ _
theorem takeI_any (h:RmI ks rb V L nx uv us w) {l k:Nat} (hl:l<4) (hk:(L l).length=k+1) (hb:(L l).length≤5000) :
  Calls Tryd.prog 77 #[.pointer (some ⟨rb,l,none⟩)] w fun e w'=>e=.returned (.int .i64 ((L l).getD k 0))∧(∃ V',RmI ks rb V' (upd L l ((L l).take k)) nx uv us w')∧Below rb w w':=by
 obtain ⟨g,c,hv,hlc,hR⟩:=h.cutL hl (show k≤(L l).length by omega) (by omega)
 obtain ⟨x0,f0⟩:=h.lcell hl
 rw [hv] at x0
 have ho:=h.own l hl
 rw [hv] at ho
 have y0:w.cell? ⟨g,k,none⟩=some (.int .i64 ((L l).getD k 0)):=by
  rw [ho.cellAt _ (by omega)]
  refine i64c_at ?_
  rw [List.getD_eq_getElem?_getD,List.getElem?_eq_getElem (by omega)]
  rfl
 have HR:=Lib.hid hR
 have HB:Hid (Below rb w (w.setCell ⟨rb,l,none⟩ (.slice (some ⟨g,0,none⟩) k c))):=Lib.hid ((Below.refl _ _).setCell (p:=⟨rb,l,none⟩) (Nat.le_refl _) _)
 obtain ⟨n,hn⟩:∃ n,n=(L l).length:=⟨_,rfl⟩
 obtain ⟨x,hx⟩:∃ x,x=(L l).getD k 0:=⟨_,rfl⟩
 rw [← hn] at x0 hb hlc hk
 rw [← hx] at y0 ⊢
 have hnk:(n:Int)-1=k:=by omega
 have hkn:k<n:=by omega
 have hkc:k≤c:=by omega
 clear h hv hR ho hn hx hk
 go_enter Tryd.func77,Tryd.ntmps77
 go_wp2
 first | go_end0 | go_ret
 exact ⟨rfl,⟨_,HR.out⟩,HB.out⟩
end
def UOk (us:List U3):Prop:=∀ i,(us.getD i u0).l<4
theorem getD_set_any (us:List U3) (i k:Nat) (u:U3):(us.set i u).getD k u0=u∨(us.set i u).getD k u0=us.getD k u0:=by
 by_cases h:i<us.length
 ·rw [getD_set h]
  split
  ·exact .inl rfl
  ·exact .inr rfl
 ·exact .inr (by rw [List.set_eq_of_length_le (by omega)])
theorem UOk.sw {us:List U3} (h:UOk us) (i j:Nat):UOk (swU us i j):=fun k=>by
 unfold swU
 rcases getD_set_any (us.set i (us.getD j u0)) j k (us.getD i u0) with e | e
 ·rw [e];exact h i
 ·rw [e]
  rcases getD_set_any us i k (us.getD j u0) with e | e
  ·rw [e];exact h j
  ·rw [e];exact h k
theorem UOk.up:∀ (f:Nat) (us:List U3) (j:Nat),UOk us→UOk (upU f us j)
 | 0,us,j,h=>h
 | f+1,us,j,h=>by
  unfold upU
  split
  ·exact h
  ·exact UOk.up f _ _ (h.sw _ _)
theorem UOk.down:∀ (f:Nat) (us:List U3) (i n:Nat),UOk us→UOk (downU f us i n)
 | 0,us,i,n,h=>h
 | f+1,us,i,n,h=>by
  unfold downU
  split
  ·exact h
  ·split
   ·exact h
   ·exact UOk.down f _ _ _ (h.sw _ _)
theorem UOk.pop {us:List U3} (h:UOk us):UOk (popU us):=UOk.down _ _ _ _ (h.sw _ _)
theorem UOk.take {us:List U3} (h:UOk us) (n:Nat):UOk (us.take n):=fun k=>by
 by_cases e:k<n
 ·rw [List.getD_eq_getElem?_getD,List.getElem?_take,if_pos e,← List.getD_eq_getElem?_getD];exact h k
 ·rw [List.getD_eq_getElem?_getD,List.getElem?_take,if_neg e];decide
theorem UOk.push {us:List U3} (h:UOk us) {u:U3} (hu:u.l<4):UOk (us ++ [u]):=fun k=>by
 rw [List.getD_eq_getElem?_getD]
 by_cases e:k<us.length
 ·rw [List.getElem?_append_left e,← List.getD_eq_getElem?_getD];exact h k
 ·rw [List.getElem?_append_right (by omega)]
  by_cases e2:k-us.length=0
  ·rw [e2];exact hu
  ·rw [List.getElem?_eq_none (by simp;omega)];decide
theorem popU_len (us:List U3):(popU us).length=us.length:=by unfold popU;rw [downU_len,swU_len]
def endB (p:Int):Nat→(Nat→List Int)→List U3→(Nat→List Int) × List U3
 | 0,L,us=>(L,us)
 | f+1,L,us=>if (us.getD 0 u0).t<p then endB p f (upd L ((popU us).getD f u0).l (L ((popU us).getD f u0).l ++ [((popU us).getD f u0).b])) ((popU us).take f) else (L,us)
section
variable {ks:Nat→Option Obj} {rb:Nat} {V:Nat→Value} {L:Nat→List Int} {nx:Int} {uv:Value} {us:List U3} {w:World}
theorem RmI.ebP (h:RmI ks rb V L nx uv us w) {ul:Nat} (hl:ul<4) (ub ut:Int) (o:Obj) {v':Value} {w':World}
  (hown:w'.ownsRow (rb+1) 3 1 v' ((L ul).length+1) (i64c (L ul) ++ [.int .i64 ub])) (hg:((w.alloc (.cells #[.int .i64 ub,.int .i64 ut,.pointer (some ⟨rb,ul,none⟩)] 139)).alloc o).grownBy w' (V ul).ownBlock)
  (hor:v'.ownBlock=(V ul).ownBlock∨v'.ownBlock=some ((w.alloc (.cells #[.int .i64 ub,.int .i64 ut,.pointer (some ⟨rb,ul,none⟩)] 139)).alloc o).heap.size) :
  w'.frozen? ⟨rb,ul,none⟩=false∧(∃ y,w'.cell? ⟨rb,ul,none⟩=some y)∧w'.cell? ⟨w.heap.size,2,none⟩=some (.pointer (some ⟨rb,ul,none⟩))∧Hid (RmI ks rb (upd V ul v') (upd L ul (L ul ++ [ub])) nx uv us (w'.setCell ⟨rb,ul,none⟩ v'))∧Hid (Below rb w (w'.setCell ⟨rb,ul,none⟩ v')):=by
 have hbl:=(Below.refl w.heap.size w).alloc (Nat.le_refl _) (.cells #[.int .i64 ub,.int .i64 ut,.pointer (some ⟨rb,ul,none⟩)] 139)
 obtain ⟨h1,h2,h3,h4⟩:=(h.on hbl).pushL hl hown hg hor
 refine ⟨h1,h2,?_,h3,Lib.hid (((Below.refl rb w).alloc (Nat.le_of_lt h.box.lt) _).trans h4.out)⟩
 have hb:=hg.block w.heap.size (by simp;omega) fun e=>by
  have:=(own_block_le (h.own ul hl) e.symm).2
  omega
 rw [World.cell?_of_block (a:=⟨w.heap.size,2,none⟩) hb]
 exact Lib.cell?_alloc_some o (by rw [World.cell?_alloc_new];rfl)
theorem ebC (w:World) (C:Array Value) (t:TypeId) (o:Obj) (j:Nat) (hj:j<C.size):((w.alloc (.cells C t)).alloc o).cell? ⟨w.heap.size,j,none⟩=some C[j]:=Lib.cell?_alloc_some o (by rw [World.cell?_alloc_new,Array.getElem?_eq_getElem hj])
theorem endB_any (p:Int) (N:Nat) (h:RmI ks rb V L nx uv us w) (hU:UOk us) (hN:∀ l,l<4→(L l).length+us.length≤N) (hN5:N≤4000) :
  Calls Tryd.prog 55 #[.pointer (some ⟨rb,0,none⟩),.int .i64 p] w fun e w'=>e=.returned (.tuple #[])∧(∃ V' uv',RmI ks rb V' (endB p us.length L us).1 nx uv' (endB p us.length L us).2 w')∧Below rb w w'∧UOk (endB p us.length L us).2∧(∀ l,l<4→((endB p us.length L us).1 l).length+(endB p us.length L us).2.length≤N):=by
 obtain ⟨T,hT⟩:∃ T,T=endB p us.length L us:=⟨_,rfl⟩
 rw [← hT]
 have H0:Hid (∃ V L uv us',us'.length=us.length∧RmI ks rb V L nx uv us' w∧UOk us'∧(∀ l,l<4→(L l).length+us'.length≤N)∧endB p us'.length L us'=T∧Below rb w w):=Lib.hid ⟨V,L,uv,us,rfl,h,hU,hN,hT.symm,Below.refl _ _⟩
 have hn5:us.length≤4000:=by have:=hN 0 (by omega);omega
 obtain ⟨n0,hn0⟩:∃ n,n=us.length:=⟨_,rfl⟩
 rw [← hn0] at H0 hn5
 clear h hU hN hT hn0
 go_enter Tryd.func55,Tryd.ntmps55
 go_wp2
 go_loopg [] n0 (fun n wr=>∃ j:Nat,Hid (j=n)∧Hid (j≤4000∧∃ V L uv us',us'.length=j∧RmI ks rb V L nx uv us' wr∧UOk us'∧(∀ l,l<4→(L l).length+us'.length≤N)∧endB p us'.length L us'=T∧Below rb w wr))
 case atStart=>exact ⟨n0,Lib.hid rfl,Lib.hid ⟨hn5,H0.out⟩⟩
 case round =>
  clear H0 hn5
  obtain ⟨j,HJ,HX⟩:=hrel
  obtain ⟨hj5,V,L,uv,us,hl,hR,hU,hN,hE,hB⟩:=HX.out
  have HLN:=Lib.hid (len_any hR (by omega))
  rw [hl] at HLN
  have HE0:Hid (∀ V uv,RmI ks rb V L nx uv us wr→endB p us.length L us=(L,us)→(∃ V' uv',RmI ks rb V' T.1 nx uv' T.2 wr)∧Below rb w wr∧UOk T.2∧∀ l,l<4→(T.1 l).length+T.2.length≤N):=Lib.hid fun V uv hr he=>by
   rw [he] at hE
   rw [← hE]
   exact ⟨⟨V,uv,hr⟩,hB,hU,hN⟩
  by_cases hj0:j=0
  ·subst hj0
   have HF:=Lib.hid (HE0.out _ _ hR (by rw [hl];rfl))
   clear HX hR hU hN hE hB hl
   go_wp2_with (go_at_call 74;refine HLN.out.mono ?_;rintro e w2 ⟨rfl,rfl⟩)
   first | go_end0 | go_ret
   exact ⟨rfl,HF.out.1,HF.out.2.1,HF.out.2.2.1,HF.out.2.2.2⟩
  ·obtain ⟨k,hk⟩:∃ k,j=k+1:=⟨j-1,by omega⟩
   obtain ⟨g,cap,huv,hg,hgw⟩:=hR.urow (by omega)
   have x5:wr.cell? ⟨rb,5,none⟩=some uv:=hR.box.cell 5
   rw [huv] at x5
   have hR':=hR
   rw [huv] at hR'
   obtain ⟨_,y1,_,_,_,_⟩:=hR'.ucell (show 0<us.length by omega)
   rw [Nat.zero_mul,Nat.zero_add] at y1
   rw [hl] at x5
   obtain ⟨t,ht⟩:∃ t,t=(us.getD 0 u0).t:=⟨_,rfl⟩
   rw [← ht] at y1
   have hjp:0<j:=by omega
   by_cases hlt:t<p
   ·have HPP:=Lib.hid (hpop_any hR (k:=k) (by omega) (by omega))
    obtain ⟨u,hu⟩:∃ u,u=(popU us).getD k u0:=⟨_,rfl⟩
    rw [← hu] at HPP
    have hul:u.l<4:=by rw [hu];exact hU.pop k
    have hpl:((popU us).take k).length=k:=by rw [List.length_take,popU_len];omega
    have hE2:endB p k (upd L u.l (L u.l ++ [u.b])) ((popU us).take k)=T:=by
     rw [← hE,hl,hk]
     conv=>rhs;unfold endB
     rw [if_pos (by rw [← ht];exact hlt),← hu]
    have hN2:∀ l,l<4→((upd L u.l (L u.l ++ [u.b])) l).length+k≤N:=fun l hl4=>by
     have h1:=hN l hl4
     by_cases e:l=u.l
     ·subst e;rw [upd_at,List.length_append];simp;omega
     ·rw [upd_ne e];omega
    have hLu:(L u.l).length≤4000:=by have:=hN u.l hul;omega
    have HE2:=Lib.hid hE2
    have HN2:=Lib.hid hN2
    have HU2:Hid (UOk ((popU us).take k)):=Lib.hid (hU.pop.take k)
    have HPL:=Lib.hid hpl
    have HB:=Lib.hid hB
    have HK:=Lib.hid hk
    obtain ⟨ub,ut,ul⟩:=u
    simp only at hul hLu HPP HE2 HN2
    have has:=assertU (.agg #[.int .i64 ub,.int .i64 ut,.pointer (some ⟨rb,ul,none⟩)])
    clear HX hR hR' hU hN hE hB hl huv ht hu hpl hE2 hN2 HE0 hk
    go_wp2_with (first
     | (go_at_call 74;refine HLN.out.mono ?_;rintro e w2 ⟨rfl,rfl⟩)
     | (go_at_call 75;refine HPP.out.mono ?_;rintro e w3 ⟨rfl,⟨uv3,hr3⟩,hb3⟩;have HR3:=Lib.hid hr3;have HB3:=Lib.hid (HB.out.trans hb3);obtain ⟨A,c,hAc⟩:=own_slice (hr3.own ul hul);have x1:∀ o,(w3.alloc o).cell? ⟨rb,ul,none⟩=some (.slice A (L ul).length c):=(fun o=>Lib.cell?_alloc_some o (by rw [(hr3.lcell hul).1,hAc]));have x2:∀ o o',((w3.alloc o).alloc o').cell? ⟨rb,ul,none⟩=some (.slice A (L ul).length c):=(fun o o'=>Lib.cell?_alloc_some o' (x1 o));have z0:=(fun o=>ebC w3 #[.int .i64 ub,.int .i64 ut,.pointer (some ⟨rb,ul,none⟩)] 139 o 0 (by simp));have z2:=(fun o=>ebC w3 #[.int .i64 ub,.int .i64 ut,.pointer (some ⟨rb,ul,none⟩)] 139 o 2 (by simp));have HOA:Hid (∀ o o',((w3.alloc o).alloc o').ownsRow (rb+1) 3 1 (.slice A (L ul).length c) (L ul).length (i64c (L ul))):=(Lib.hid fun o o'=>by rw [← hAc];exact own_alloc (own_alloc (hr3.own ul hul) o) o');have hrw:rb<w3.heap.size:=hr3.box.lt;have HRD:Hid (∀ o,Reads ((w3.alloc o).alloc (.cells #[.int .i64 ub] 3)).drew (w3.heap.size+2) 1 (some ⟨w3.heap.size+1,0,none⟩) 1 [.int .i64 ub]):=(Lib.hid fun o=>by have h:=one_reads (w3.alloc o) 3 [.int .i64 ub] 1 rfl;rw [show (w3.alloc o).heap.size=w3.heap.size+1 by simp] at h;exact h);have HEP:=Lib.hid (fun (o:Obj) (v':Value) (w':World) (h1:w'.ownsRow (rb+1) 3 1 v' ((L ul).length+1) (i64c (L ul) ++ [.int .i64 ub])) h2 h3=>hr3.ebP hul ub ut o (v':=v') (w':=w') h1 h2 h3);rw [hAc] at HEP;clear hr3 hb3 hAc;refine Hid.out ?_))
    refine Lib.hid ?_
    go_upto_region 2 with fail
    go_region_law (first
     | (refine step_int rfl _ _ rfl (rb+1) (.slice A (L ul).length c) (L ul).length (i64c (L ul)) rfl (HOA.out _ _) (w3.heap.size+2) (some ⟨w3.heap.size+1,0,none⟩) 1 1 [.int .i64 ub] rfl (HRD.out _) (by simp [Value.oneCell']) (by omega) (by simp;omega) ?_;intro v8 w8 hown hgr hor;obtain ⟨A8,c8,rfl⟩:=own_slice hown;obtain ⟨e8,⟨y8,hy8⟩,hz8,HR8,HB8⟩:=HEP.out _ _ _ hown (grown_of_drew hgr) hor;clear hown hgr hor))
    all_goals
     go_wp2
     go_roundg k
     case measure=>have h1:=HJ.out;have h2:=HK.out;omega
     case rel=>exact ⟨k,Lib.hid rfl,Lib.hid ⟨by have:=HK.out;omega,_,_,_,_,HPL.out,HR8.out,HU2.out,fun l hl=>by rw [HPL.out];exact HN2.out l hl,by rw [HPL.out];exact HE2.out,HB3.out.trans HB8.out⟩⟩
   ·have HF:=Lib.hid (HE0.out _ _ hR (by
     rw [hl,hk]
     unfold endB
     rw [if_neg (by rw [← ht];exact hlt)]))
    clear HX hR hR' hU hN hE hB hl huv ht HE0
    go_wp2_with (go_at_call 74;refine HLN.out.mono ?_;rintro e w2 ⟨rfl,rfl⟩)
    first | go_end0 | go_ret
    exact ⟨rfl,HF.out.1,HF.out.2.1,HF.out.2.2.1,HF.out.2.2.2⟩
end
def newL (i:Nat) (l:Nat):List Int:=if l=0 then (List.range i).map (fun k:Nat=>5-(k:Int)) else if l=1 then (List.range i).map (fun k:Nat=>11-(k:Int)) else []
theorem newL_step (i:Nat):upd (upd (newL i) 0 (newL i 0 ++ [5-(i:Int)])) 1 (newL i 1 ++ [11-(i:Int)])=newL (i+1):=by
 funext l
 by_cases h1:l=1
 ·subst h1
  rw [upd_at]
  simp [newL,List.range_succ]
 ·rw [upd_ne h1]
  by_cases h0:l=0
  ·subst h0
   rw [upd_at]
   simp [newL,List.range_succ]
  ·rw [upd_ne h0]
   simp [newL,h0,h1]
theorem newL_len (i l:Nat):(newL i l).length≤i:=by
 unfold newL
 split
 ·simp
 ·split
  ·simp
  ·simp
theorem rm_new {ks:Nat→Option Obj} (w:World) (hks:∀ g o,ks g=some o→w.heap[g]?=some o):RmI ks w.heap.size (fun _=>.slice none 0 0) (newL 0) 16 (.slice none 0 0) [] (w.alloc (.cells #[.slice none 0 0,.slice none 0 0,.slice none 0 0,.slice none 0 0,.int .i64 16,.slice none 0 0] 136)):=by
 refine ⟨Blk.new w _ _,fun l hl=>?_,fun l k _ _ _ g hg=>by simp [Value.ownBlock] at hg,own_none _ _ _ _,fun g o hk=>?_⟩
 rotate_left
 ·have h1:=hks g o hk
  obtain ⟨hlt,_⟩:=Array.getElem?_eq_some_iff.1 h1
  exact ⟨(((Below.refl w.heap.size w).alloc (Nat.le_refl _) _).block g hlt).trans h1,by omega,fun l hl=>by simp [Value.ownBlock],by simp [Value.ownBlock]⟩
 have e:newL 0 l=[]:=by simp [newL]
 rw [e]
 exact own_none _ _ _ _
theorem newRoom_any {ks:Nat→Option Obj} (w:World) (hks:∀ g o,ks g=some o→w.heap[g]?=some o) :
  Calls Tryd.prog 54 #[] w fun e w'=>e=.returned (.pointer (some ⟨w.heap.size,0,none⟩))∧(∃ V,RmI ks w.heap.size V (newL 6) 16 (.slice none 0 0) [] w')∧Below w.heap.size w w':=by
 have H0:Hid (RmI ks w.heap.size (fun _=>.slice none 0 0) (newL 0) 16 (.slice none 0 0) [] (w.alloc (.cells #[.slice none 0 0,.slice none 0 0,.slice none 0 0,.slice none 0 0,.int .i64 16,.slice none 0 0] 136))∧Below w.heap.size w (w.alloc (.cells #[.slice none 0 0,.slice none 0 0,.slice none 0 0,.slice none 0 0,.int .i64 16,.slice none 0 0] 136))):=Lib.hid ⟨rm_new w hks,(Below.refl _ _).alloc (Nat.le_refl _) _⟩
 go_enter Tryd.func54,Tryd.ntmps54
 go_wp2
 go_loopg [5] 6 (fun n s wr=>∃ i:Nat,s=.int .i64 i∧Hid (i+n=6)∧Hid (∃ V,RmI ks w.heap.size V (newL i) 16 (.slice none 0 0) [] wr∧Below w.heap.size w wr))
 case atStart=>exact ⟨0,rfl,Lib.hid rfl,Lib.hid ⟨_,H0.out.1,H0.out.2⟩⟩
 case round =>
  clear H0
  obtain ⟨i,rfl,HI,HX⟩:=hrel
  by_cases hi:i=6
  ·subst hi
   go_wp2
   first | go_end0 | go_ret
   obtain ⟨V,hr,hb⟩:=HX.out
   exact ⟨rfl,⟨V,hr⟩,hb⟩
  ·have hi6:i<6:=by have:=HI.out;omega
   obtain ⟨Va,hra,hba⟩:=HX.out
   obtain ⟨Aa,ca,hAca⟩:=own_slice (hra.own 0 (by decide))
   have hlena:((newL i) 0).length≤i:=newL_len i 0
   obtain ⟨xsa,hxsa⟩:∃ xs,xs=(newL i) 0:=⟨_,rfl⟩
   rw [← hxsa] at hlena hAca
   have x0a:∀ o,(wr.alloc o).cell? ⟨w.heap.size,0,none⟩=some (.slice Aa xsa.length ca):=fun o=>Lib.cell?_alloc_some o (by rw [(hra.lcell (l:=0) (by decide)).1,hAca])
   have xa:wr.cell? ⟨w.heap.size,0,none⟩=some (.slice Aa xsa.length ca):=by rw [(hra.lcell (l:=0) (by decide)).1,hAca]
   have HOAa:Hid (∀ o,(wr.alloc o).ownsRow (w.heap.size+1) 3 1 (.slice Aa xsa.length ca) xsa.length (i64c xsa)):=Lib.hid fun o=>by rw [← hAca,hxsa];exact own_alloc (hra.own 0 (by decide)) o
   have hrwa:w.heap.size<wr.heap.size:=hra.box.lt
   have HPUa:Hid (∀ (o:Obj) (v':Value) (w':World),w'.ownsRow (w.heap.size+1) 3 1 v' (xsa.length+1) (i64c xsa ++ [.int .i64 (5-(i:Int))])→(wr.alloc o).grownBy w' (Value.slice Aa xsa.length ca).ownBlock→(v'.ownBlock=(Value.slice Aa xsa.length ca).ownBlock∨v'.ownBlock=some (wr.alloc o).heap.size)→w'.frozen? ⟨w.heap.size,0,none⟩=false∧(∃ y,w'.cell? ⟨w.heap.size,0,none⟩=some y)∧Hid (RmI ks w.heap.size (upd Va 0 v') (upd ((newL i)) 0 (xsa ++ [5-(i:Int)])) 16 (.slice none 0 0) [] (w'.setCell ⟨w.heap.size,0,none⟩ v'))∧Hid (Below w.heap.size wr (w'.setCell ⟨w.heap.size,0,none⟩ v'))):=Lib.hid fun o v' w' h1 h2 h3=>by
    rw [hxsa] at h1 ⊢
    exact hra.pushL (l:=0) (by decide) (o:=o) h1 (by rw [hAca];exact h2) (by rw [hAca];exact h3)
   have HBa:=Lib.hid hba
   obtain ⟨na,hna⟩:∃ n,n=xsa.length:=⟨_,rfl⟩
   rw [← hna] at x0a xa hlena HOAa HPUa
   have HXSa:=Lib.hid hxsa
   clear hra hba hAca hna hxsa
   go_wp2_with (first
    | (at_builtin;refine app_int rfl _ _ rfl (w.heap.size+1) (.slice Aa na ca) na (i64c xsa) rfl (HOAa.out _) (wr.heap.size+1) (some ⟨wr.heap.size,0,none⟩) 1 1 [.int .i64 (5-(i:Int))] rfl (one_reads wr 3 [.int .i64 (5-(i:Int))] 1 rfl) (by simp [Value.oneCell']) (by omega) (by simp;omega) ?_;intro v8a w8a hown hgr hor;obtain ⟨A8a,c8a,rfl⟩:=own_slice hown;obtain ⟨e8a,⟨y8a,hy8a⟩,HR8a,HB8a⟩:=HPUa.out _ _ _ hown hgr hor;clear hown hgr hor;refine Hid.out ?_))
   have HX2:Hid (∃ V,RmI ks w.heap.size V (upd (newL i) 0 (newL i 0 ++ [5-(i:Int)])) 16 (.slice none 0 0) [] (w8a.setCell ⟨w.heap.size,0,none⟩ (.slice A8a (na+1) c8a))∧Below w.heap.size w (w8a.setCell ⟨w.heap.size,0,none⟩ (.slice A8a (na+1) c8a))):=Lib.hid ⟨_,HXSa.out ▸ HR8a.out,HBa.out.trans HB8a.out⟩
   clear HX x0a xa HOAa HPUa HBa HR8a HB8a hrwa
   obtain ⟨Vb,hrb,hbb⟩:=HX2.out
   obtain ⟨Ab,cb,hAcb⟩:=own_slice (hrb.own 1 (by decide))
   have hlenb:((upd (newL i) 0 (newL i 0 ++ [5-(i:Int)])) 1).length≤i:=(by rw [upd_ne (by decide)];exact newL_len i 1)
   obtain ⟨xsb,hxsb⟩:∃ xs,xs=(upd (newL i) 0 (newL i 0 ++ [5-(i:Int)])) 1:=⟨_,rfl⟩
   rw [← hxsb] at hlenb hAcb
   have x0b:∀ o,((w8a.setCell ⟨w.heap.size,0,none⟩ (.slice A8a (na+1) c8a)).alloc o).cell? ⟨w.heap.size,1,none⟩=some (.slice Ab xsb.length cb):=fun o=>Lib.cell?_alloc_some o (by rw [(hrb.lcell (l:=1) (by decide)).1,hAcb])
   have xb:(w8a.setCell ⟨w.heap.size,0,none⟩ (.slice A8a (na+1) c8a)).cell? ⟨w.heap.size,1,none⟩=some (.slice Ab xsb.length cb):=by rw [(hrb.lcell (l:=1) (by decide)).1,hAcb]
   have HOAb:Hid (∀ o,((w8a.setCell ⟨w.heap.size,0,none⟩ (.slice A8a (na+1) c8a)).alloc o).ownsRow (w.heap.size+1) 3 1 (.slice Ab xsb.length cb) xsb.length (i64c xsb)):=Lib.hid fun o=>by rw [← hAcb,hxsb];exact own_alloc (hrb.own 1 (by decide)) o
   have hrwb:w.heap.size<(w8a.setCell ⟨w.heap.size,0,none⟩ (.slice A8a (na+1) c8a)).heap.size:=hrb.box.lt
   have HPUb:Hid (∀ (o:Obj) (v':Value) (w':World),w'.ownsRow (w.heap.size+1) 3 1 v' (xsb.length+1) (i64c xsb ++ [.int .i64 (11-(i:Int))])→((w8a.setCell ⟨w.heap.size,0,none⟩ (.slice A8a (na+1) c8a)).alloc o).grownBy w' (Value.slice Ab xsb.length cb).ownBlock→(v'.ownBlock=(Value.slice Ab xsb.length cb).ownBlock∨v'.ownBlock=some ((w8a.setCell ⟨w.heap.size,0,none⟩ (.slice A8a (na+1) c8a)).alloc o).heap.size)→w'.frozen? ⟨w.heap.size,1,none⟩=false∧(∃ y,w'.cell? ⟨w.heap.size,1,none⟩=some y)∧Hid (RmI ks w.heap.size (upd Vb 1 v') (upd ((upd (newL i) 0 (newL i 0 ++ [5-(i:Int)]))) 1 (xsb ++ [11-(i:Int)])) 16 (.slice none 0 0) [] (w'.setCell ⟨w.heap.size,1,none⟩ v'))∧Hid (Below w.heap.size (w8a.setCell ⟨w.heap.size,0,none⟩ (.slice A8a (na+1) c8a)) (w'.setCell ⟨w.heap.size,1,none⟩ v'))):=Lib.hid fun o v' w' h1 h2 h3=>by
    rw [hxsb] at h1 ⊢
    exact hrb.pushL (l:=1) (by decide) (o:=o) h1 (by rw [hAcb];exact h2) (by rw [hAcb];exact h3)
   have HBb:=Lib.hid hbb
   obtain ⟨nb,hnb⟩:∃ n,n=xsb.length:=⟨_,rfl⟩
   rw [← hnb] at x0b xb hlenb HOAb HPUb
   have HXSb:=Lib.hid hxsb
   clear hrb hbb hAcb hnb hxsb
   have hszb:(w8a.setCell ⟨w.heap.size,0,none⟩ (.slice A8a (na+1) c8a)).heap.size=w8a.heap.size:=by simp
   have HRDb:Hid (Reads ((w8a.setCell ⟨w.heap.size,0,none⟩ (.slice A8a (na+1) c8a)).alloc (.cells #[.int .i64 (11-(i:Int))] 3)) (w8a.heap.size+1) 1 (some ⟨w8a.heap.size,0,none⟩) 1 [.int .i64 (11-(i:Int))]):=Lib.hid (by
    have h:=one_reads (w8a.setCell ⟨w.heap.size,0,none⟩ (.slice A8a (na+1) c8a)) 3 [.int .i64 (11-(i:Int))] 1 rfl
    rw [hszb] at h
    exact h)
   rw [hszb] at hrwb
   refine Lib.hid ?_
   go_wp2_with (first
    | (at_builtin;refine app_int rfl _ _ rfl (w.heap.size+1) (.slice Ab nb cb) nb (i64c xsb) rfl (HOAb.out _) (w8a.heap.size+1) (some ⟨w8a.heap.size,0,none⟩) 1 1 [.int .i64 (11-(i:Int))] rfl HRDb.out (by simp [Value.oneCell']) (by omega) (by simp;omega) ?_;intro v8b w8b hown hgr hor;obtain ⟨A8b,c8b,rfl⟩:=own_slice hown;obtain ⟨e8b,⟨y8b,hy8b⟩,HR8b,HB8b⟩:=HPUb.out _ _ _ hown hgr hor;clear hown hgr hor;refine Hid.out ?_))
   refine Lib.hid ?_
   go_wp2
   go_roundg (5-i)
   case measure=>have:=HI.out;omega
   case rel=>exact ⟨i+1,by simp,Lib.hid (by omega),Lib.hid ⟨_,by have h:=HR8b.out;rw [HXSb.out,upd_ne (by decide),newL_step] at h;exact h,HBb.out.trans HB8b.out⟩⟩
def lfT (held:Bool) (kd n0 n1:Nat):Nat:=if (held && kd == 1)=true then 2+kd else if (!held && decide (0<n0))=true then 0 else if 0<n1 then 1 else 2+kd
def lfN (held:Bool) (kd n0 n1 n2:Nat):Bool:=decide (lfT held kd n0 n1=2+kd) && decide (n2=0)
section
variable {ks:Nat→Option Obj} {rb:Nat} {V:Nat→Value} {L:Nat→List Int} {nx:Int} {uv:Value} {us:List U3} {w w':World}
theorem RmI.setN (h:RmI ks rb V L nx uv us w) (nx':Int):RmI ks rb V L nx' uv us (w.setCell ⟨rb,4,none⟩ (.int .i64 nx')) :=
 ⟨h.box.set_ 4 _,fun l hl=>own_far (h.own l hl) h.box (by decide) _ _,h.sep,own_far h.uses h.box (by decide) _ _,h.keep.set (p:=⟨rb,4,none⟩) (.inl rfl) _⟩
theorem RmI.lfR (h:RmI ks rb V L nx uv us w) (hnx:0≤nx∧nx≤1000000) {l:Nat} (hl:l<4) (h0:(L l).length=0) :
  ∃ A c,V l=.slice A 0 c∧(∀ o,(w.alloc o).ownsRow (rb+1) 3 1 (.slice A 0 c) 0 []) ∧
  ∀ (o:Obj) (v':Value) (w':World),w'.ownsRow (rb+1) 3 1 v' 1 [.int .i64 nx]→(w.alloc o).grownBy w' (Value.slice A 0 c).ownBlock→(v'.ownBlock=(Value.slice A 0 c).ownBlock∨v'.ownBlock=some (w.alloc o).heap.size) →
   w'.frozen? ⟨rb,l,none⟩=false∧(∃ y,w'.cell? ⟨rb,l,none⟩=some y)∧(w'.setCell ⟨rb,l,none⟩ v').cell? ⟨rb,4,none⟩=some (.int .i64 nx)∧(w'.setCell ⟨rb,l,none⟩ v').frozen? ⟨rb,4,none⟩=false ∧
   Hid (∃ V',RmI ks rb V' (upd L l [nx]) (nx+1) uv us ((w'.setCell ⟨rb,l,none⟩ v').setCell ⟨rb,4,none⟩ (.int .i64 (nx+1))))∧Hid (Below rb w ((w'.setCell ⟨rb,l,none⟩ v').setCell ⟨rb,4,none⟩ (.int .i64 (nx+1)))):=by
 have he:L l=[]:=List.length_eq_zero_iff.1 h0
 obtain ⟨A,c,hv⟩:=own_slice (h.own l hl)
 rw [h0] at hv
 have ho:=h.own l hl
 rw [he,hv] at ho
 refine ⟨A,c,hv,fun o=>own_alloc ho o,fun o v' w' h1 h2 h3=>?_⟩
 obtain ⟨g1,g2,g3,g4⟩:=h.pushL hl (x:=nx) (o:=o) (v':=v') (w':=w') (by rw [he];exact h1) (by rw [hv];exact h2) (by rw [hv];exact h3)
 have g3:=g3.out
 rw [he,List.nil_append] at g3
 exact ⟨g1,g2,g3.box.cell 4,g3.box.frozen 4,Lib.hid ⟨_,g3.setN (nx+1)⟩,Lib.hid (g4.out.setCell (p:=⟨rb,4,none⟩) (Nat.le_refl _) _)⟩
end
section
variable {ks:Nat→Option Obj} {rb:Nat} {V:Nat→Value} {L:Nat→List Int} {nx:Int} {uv:Value} {us:List U3} {w w':World}
theorem lf0_any (held:Bool) (h:RmI ks rb V L nx uv us w) (hnx:0≤nx∧nx≤1000000) :
  Calls Tryd.prog 76 #[.pointer (some ⟨rb,0,none⟩),.bool held,.int .u8 0] w fun e w'=>e=.returned (.pointer (some ⟨rb,lfT held 0 (L 0).length (L 1).length,none⟩))∧(∃ V',RmI ks rb V' (if lfN held 0 (L 0).length (L 1).length (L 2).length=true then upd L 2 [nx] else L) (if lfN held 0 (L 0).length (L 1).length (L 2).length=true then nx+1 else nx) uv us w')∧Below rb w w':=by
 obtain ⟨A0,c0,hA0⟩:=own_slice (h.own 0 (by decide))
 obtain ⟨A1,c1,hA1⟩:=own_slice (h.own 1 (by decide))
 obtain ⟨A2,c2,hA2⟩:=own_slice (h.own 2 (by decide))
 have x0:w.cell? ⟨rb,0,none⟩=some (.slice A0 (L 0).length c0):=by rw [(h.lcell (l:=0) (by decide)).1,hA0]
 have x1:w.cell? ⟨rb,1,none⟩=some (.slice A1 (L 1).length c1):=by rw [(h.lcell (l:=1) (by decide)).1,hA1]
 have x2:w.cell? ⟨rb,2,none⟩=some (.slice A2 (L 2).length c2):=by rw [(h.lcell (l:=2) (by decide)).1,hA2]
 have HLF:Hid ((L 2).length=0→_):=Lib.hid fun h0=>h.lfR hnx (l:=2) (by decide) h0
 obtain ⟨n0,hn0⟩:∃ n,n=(L 0).length:=⟨_,rfl⟩
 obtain ⟨n1,hn1⟩:∃ n,n=(L 1).length:=⟨_,rfl⟩
 obtain ⟨n2,hn2⟩:∃ n,n=(L 2).length:=⟨_,rfl⟩
 rw [← hn0] at x0 ⊢
 rw [← hn1] at x1 ⊢
 rw [← hn2] at x2 HLF ⊢
 have x4:w.cell? ⟨rb,4,none⟩=some (.int .i64 nx):=h.box.cell 4
 have x4a:∀ o,(w.alloc o).cell? ⟨rb,4,none⟩=some (.int .i64 nx):=fun o=>(h.box.alloc o).cell 4
 have hrw:rb<w.heap.size:=h.box.lt
 have H:=Lib.hid h
 have HV:=Lib.hid hA2
 rw [← hn2] at HV
 clear h hA0 hA1 hA2 hn0 hn1 hn2
 have hD:∀ n:Nat,n=0∨0<n:=fun n=>by omega
 obtain ⟨T,hT⟩:∃ T,T=lfT held 0 n0 n1:=⟨_,rfl⟩
 obtain ⟨L',hL'⟩:∃ L',L'=if lfN held 0 n0 n1 n2=true then upd L 2 [nx] else L:=⟨_,rfl⟩
 obtain ⟨nx',hnx'⟩:∃ nx',nx'=if lfN held 0 n0 n1 n2=true then nx+1 else nx:=⟨_,rfl⟩
 rw [← hT,← hL',← hnx']
 by_cases hP:lfT held 0 n0 n1=2
 ·-- a slot
  by_cases h2:n2=0
  ·subst h2
   have HE:Hid (T=2∧L'=upd L 2 [nx]∧nx'=nx+1):=Lib.hid (by
    have e:lfN held 0 n0 n1 0=true:=by simp [lfN,hP]
    rw [e] at hL' hnx'
    exact ⟨hT.trans hP,hL',hnx'⟩)
   clear hT hL' hnx'
   obtain ⟨A,c,hv,hoa,hpu⟩:=HLF.out rfl
   have HOA:=Lib.hid hoa
   have HPU:=Lib.hid hpu
   rw [HV.out] at hv
   injection hv with e1 e2 e3
   subst e1 e3
   have x2a:∀ o,(w.alloc o).cell? ⟨rb,2,none⟩=some (.slice A2 0 c2):=fun o=>Lib.cell?_alloc_some o x2
   clear HLF HV hoa hpu e2
   go_enter Tryd.func76,Tryd.ntmps76
   have hn1:n1=0:=by
    rcases hD n1 with e1 | e1
    ·exact e1
    ·exfalso
     cases held with
     | true=>simp [lfT,e1] at hP
     | false =>
      rcases hD n0 with e0 | e0
      ·simp [lfT,e1,e0] at hP
      ·simp [lfT,e0] at hP
   subst hn1
   have hn0:held=false→n0=0:=fun hf=>by
    subst hf
    rcases hD n0 with e0 | e0
    ·exact e0
    ·exfalso;simp [lfT,e0] at hP
   cases held
   all_goals first | (have e0:=hn0 rfl;subst e0) | clear hn0
   all_goals
    clear hP
    go_upto_region 8 with fail
    go_region_law (first
     | (refine step_int rfl _ _ rfl (rb+1) (.slice A2 0 c2) 0 [] rfl (HOA.out _) (w.heap.size+1) (some ⟨w.heap.size,0,none⟩) 1 1 [.int .i64 nx] rfl (one_reads w 3 [.int .i64 nx] 1 rfl) (by simp [Value.oneCell']) (by omega) (by simp;omega) ?_;intro v8 w8 hown hgr hor;rw [Nat.zero_add,List.nil_append] at hown;obtain ⟨A8,c8,rfl⟩:=own_slice hown;obtain ⟨e8,⟨y8,hy8⟩,y4,f4,HR8,HB8⟩:=HPU.out _ _ _ hown (grown_of_drew hgr) hor;clear hown hgr hor))
   all_goals
    go_wp2
    first | go_end0 | go_ret
    rw [HE.out.1,HE.out.2.1,HE.out.2.2]
    exact ⟨rfl,HR8.out,HB8.out⟩
  ·have HE:Hid (T=2∧L'=L∧nx'=nx):=Lib.hid (by
    have e:lfN held 0 n0 n1 n2=false:=by simp [lfN,h2]
    rw [e] at hL' hnx'
    exact ⟨hT.trans hP,hL',hnx'⟩)
   clear hT hL' hnx'
   have hD2:0<n2:=by omega
   clear HLF HV
   go_enter Tryd.func76,Tryd.ntmps76
   have hn1:n1=0:=by
    rcases hD n1 with e1 | e1
    ·exact e1
    ·exfalso
     cases held with
     | true=>simp [lfT,e1] at hP
     | false =>
      rcases hD n0 with e0 | e0
      ·simp [lfT,e1,e0] at hP
      ·simp [lfT,e0] at hP
   subst hn1
   have hn0:held=false→n0=0:=fun hf=>by
    subst hf
    rcases hD n0 with e0 | e0
    ·exact e0
    ·exfalso;simp [lfT,e0] at hP
   cases held
   all_goals first | (have e0:=hn0 rfl;subst e0) | clear hn0
   all_goals
    clear hP
    go_wp2
    first | go_end0 | go_ret
    rw [HE.out.1,HE.out.2.1,HE.out.2.2]
    exact ⟨rfl,⟨_,H.out⟩,Below.refl _ _⟩
 ·by_cases h0:held=false∧0<n0
  ·obtain ⟨rfl,hn0⟩:=h0
   have HE:Hid (T=0∧L'=L∧nx'=nx):=Lib.hid (by
    have e:lfT false 0 n0 n1=0:=by simp [lfT,hn0]
    have e2:lfN false 0 n0 n1 n2=false:=by simp [lfN,e]
    rw [e2] at hL' hnx'
    exact ⟨hT.trans e,hL',hnx'⟩)
   clear hT hL' hnx'
   clear HLF HV hP
   go_enter Tryd.func76,Tryd.ntmps76
   go_wp2
   first | go_end0 | go_ret
   rw [HE.out.1,HE.out.2.1,HE.out.2.2]
   exact ⟨rfl,⟨_,H.out⟩,Below.refl _ _⟩
  ·have hn1:0<n1:=by
    rcases hD n1 with e | e
    ·exfalso
     apply hP
     cases held with
     | true=>simp [lfT,e]
     | false =>
      rcases hD n0 with e0 | e0
      ·simp [lfT,e,e0]
      ·exact (h0 ⟨rfl,e0⟩).elim
    ·exact e
   have HE:Hid (T=1∧L'=L∧nx'=nx):=Lib.hid (by
    have e:lfT held 0 n0 n1=1:=by
     cases held with
     | true=>simp [lfT,hn1]
     | false =>
      rcases hD n0 with e0 | e0
      ·simp [lfT,hn1,e0]
      ·exact (h0 ⟨rfl,e0⟩).elim
    have e2:lfN held 0 n0 n1 n2=false:=by simp [lfN,e]
    rw [e2] at hL' hnx'
    exact ⟨hT.trans e,hL',hnx'⟩)
   clear HLF HV hT hL' hnx'
   cases held with
   | true =>
    clear hP h0
    go_enter Tryd.func76,Tryd.ntmps76
    go_wp2
    first | go_end0 | go_ret
    rw [HE.out.1,HE.out.2.1,HE.out.2.2]
    exact ⟨rfl,⟨_,H.out⟩,Below.refl _ _⟩
   | false =>
    rcases hD n0 with e0 | e0
    ·subst e0
     clear hP h0
     go_enter Tryd.func76,Tryd.ntmps76
     go_wp2
     first | go_end0 | go_ret
     rw [HE.out.1,HE.out.2.1,HE.out.2.2]
     exact ⟨rfl,⟨_,H.out⟩,Below.refl _ _⟩
    ·exact (h0 ⟨rfl,e0⟩).elim
end
section
variable {ks:Nat→Option Obj} {rb:Nat} {V:Nat→Value} {L:Nat→List Int} {nx:Int} {uv:Value} {us:List U3} {w w':World}
theorem lf1_any (held:Bool) (h:RmI ks rb V L nx uv us w) (hnx:0≤nx∧nx≤1000000) :
  Calls Tryd.prog 76 #[.pointer (some ⟨rb,0,none⟩),.bool held,.int .u8 1] w fun e w'=>e=.returned (.pointer (some ⟨rb,lfT held 1 (L 0).length (L 1).length,none⟩))∧(∃ V',RmI ks rb V' (if lfN held 1 (L 0).length (L 1).length (L 3).length=true then upd L 3 [nx] else L) (if lfN held 1 (L 0).length (L 1).length (L 3).length=true then nx+1 else nx) uv us w')∧Below rb w w':=by
 obtain ⟨A0,c0,hA0⟩:=own_slice (h.own 0 (by decide))
 obtain ⟨A1,c1,hA1⟩:=own_slice (h.own 1 (by decide))
 obtain ⟨A2,c2,hA2⟩:=own_slice (h.own 3 (by decide))
 have x0:w.cell? ⟨rb,0,none⟩=some (.slice A0 (L 0).length c0):=by rw [(h.lcell (l:=0) (by decide)).1,hA0]
 have x1:w.cell? ⟨rb,1,none⟩=some (.slice A1 (L 1).length c1):=by rw [(h.lcell (l:=1) (by decide)).1,hA1]
 have x2:w.cell? ⟨rb,3,none⟩=some (.slice A2 (L 3).length c2):=by rw [(h.lcell (l:=3) (by decide)).1,hA2]
 have HLF:Hid ((L 3).length=0→_):=Lib.hid fun h0=>h.lfR hnx (l:=3) (by decide) h0
 obtain ⟨n0,hn0⟩:∃ n,n=(L 0).length:=⟨_,rfl⟩
 obtain ⟨n1,hn1⟩:∃ n,n=(L 1).length:=⟨_,rfl⟩
 obtain ⟨n2,hn2⟩:∃ n,n=(L 3).length:=⟨_,rfl⟩
 rw [← hn0] at x0 ⊢
 rw [← hn1] at x1 ⊢
 rw [← hn2] at x2 HLF ⊢
 have x4:w.cell? ⟨rb,4,none⟩=some (.int .i64 nx):=h.box.cell 4
 have x4a:∀ o,(w.alloc o).cell? ⟨rb,4,none⟩=some (.int .i64 nx):=fun o=>(h.box.alloc o).cell 4
 have hrw:rb<w.heap.size:=h.box.lt
 have H:=Lib.hid h
 have HV:=Lib.hid hA2
 rw [← hn2] at HV
 clear h hA0 hA1 hA2 hn0 hn1 hn2
 have hD:∀ n:Nat,n=0∨0<n:=fun n=>by omega
 obtain ⟨T,hT⟩:∃ T,T=lfT held 1 n0 n1:=⟨_,rfl⟩
 obtain ⟨L',hL'⟩:∃ L',L'=if lfN held 1 n0 n1 n2=true then upd L 3 [nx] else L:=⟨_,rfl⟩
 obtain ⟨nx',hnx'⟩:∃ nx',nx'=if lfN held 1 n0 n1 n2=true then nx+1 else nx:=⟨_,rfl⟩
 rw [← hT,← hL',← hnx']
 by_cases hP:lfT held 1 n0 n1=3
 ·-- a slot
  by_cases h2:n2=0
  ·subst h2
   have HE:Hid (T=3∧L'=upd L 3 [nx]∧nx'=nx+1):=Lib.hid (by
    have e:lfN held 1 n0 n1 0=true:=by simp [lfN,hP]
    rw [e] at hL' hnx'
    exact ⟨hT.trans hP,hL',hnx'⟩)
   clear hT hL' hnx'
   obtain ⟨A,c,hv,hoa,hpu⟩:=HLF.out rfl
   have HOA:=Lib.hid hoa
   have HPU:=Lib.hid hpu
   rw [HV.out] at hv
   injection hv with e1 e2 e3
   subst e1 e3
   have x2a:∀ o,(w.alloc o).cell? ⟨rb,3,none⟩=some (.slice A2 0 c2):=fun o=>Lib.cell?_alloc_some o x2
   clear HLF HV hoa hpu e2
   go_enter Tryd.func76,Tryd.ntmps76
   have hn1:held=false→n1=0:=fun hf=>by
    subst hf
    rcases hD n1 with e1 | e1
    ·exact e1
    ·exfalso
     rcases hD n0 with e0 | e0
     ·simp [lfT,e1,e0] at hP
     ·simp [lfT,e0] at hP
   have hn0:held=false→n0=0:=fun hf=>by
    subst hf
    rcases hD n0 with e0 | e0
    ·exact e0
    ·exfalso;simp [lfT,e0] at hP
   cases held
   all_goals first | (have e0:=hn0 rfl;have e1:=hn1 rfl;subst e0;subst e1) | clear hn0 hn1
   all_goals
    clear hP
    go_upto_region 8 with fail
    go_region_law (first
     | (refine step_int rfl _ _ rfl (rb+1) (.slice A2 0 c2) 0 [] rfl (HOA.out _) (w.heap.size+1) (some ⟨w.heap.size,0,none⟩) 1 1 [.int .i64 nx] rfl (one_reads w 3 [.int .i64 nx] 1 rfl) (by simp [Value.oneCell']) (by omega) (by simp;omega) ?_;intro v8 w8 hown hgr hor;rw [Nat.zero_add,List.nil_append] at hown;obtain ⟨A8,c8,rfl⟩:=own_slice hown;obtain ⟨e8,⟨y8,hy8⟩,y4,f4,HR8,HB8⟩:=HPU.out _ _ _ hown (grown_of_drew hgr) hor;clear hown hgr hor))
   all_goals
    go_wp2
    first | go_end0 | go_ret
    rw [HE.out.1,HE.out.2.1,HE.out.2.2]
    exact ⟨rfl,HR8.out,HB8.out⟩
  ·have HE:Hid (T=3∧L'=L∧nx'=nx):=Lib.hid (by
    have e:lfN held 1 n0 n1 n2=false:=by simp [lfN,h2]
    rw [e] at hL' hnx'
    exact ⟨hT.trans hP,hL',hnx'⟩)
   clear hT hL' hnx'
   have hD2:0<n2:=by omega
   clear HLF HV
   go_enter Tryd.func76,Tryd.ntmps76
   have hn1:held=false→n1=0:=fun hf=>by
    subst hf
    rcases hD n1 with e1 | e1
    ·exact e1
    ·exfalso
     rcases hD n0 with e0 | e0
     ·simp [lfT,e1,e0] at hP
     ·simp [lfT,e0] at hP
   have hn0:held=false→n0=0:=fun hf=>by
    subst hf
    rcases hD n0 with e0 | e0
    ·exact e0
    ·exfalso;simp [lfT,e0] at hP
   cases held
   all_goals first | (have e0:=hn0 rfl;have e1:=hn1 rfl;subst e0;subst e1) | clear hn0 hn1
   all_goals
    clear hP
    go_wp2
    first | go_end0 | go_ret
    rw [HE.out.1,HE.out.2.1,HE.out.2.2]
    exact ⟨rfl,⟨_,H.out⟩,Below.refl _ _⟩
 ·by_cases h0:held=false∧0<n0
  ·obtain ⟨rfl,hn0⟩:=h0
   have HE:Hid (T=0∧L'=L∧nx'=nx):=Lib.hid (by
    have e:lfT false 1 n0 n1=0:=by simp [lfT,hn0]
    have e2:lfN false 1 n0 n1 n2=false:=by simp [lfN,e]
    rw [e2] at hL' hnx'
    exact ⟨hT.trans e,hL',hnx'⟩)
   clear hT hL' hnx'
   clear HLF HV hP
   go_enter Tryd.func76,Tryd.ntmps76
   go_wp2
   first | go_end0 | go_ret
   rw [HE.out.1,HE.out.2.1,HE.out.2.2]
   exact ⟨rfl,⟨_,H.out⟩,Below.refl _ _⟩
  ·have hn1:0<n1:=by
    rcases hD n1 with e | e
    ·exfalso
     apply hP
     cases held with
     | true=>simp [lfT,e]
     | false =>
      rcases hD n0 with e0 | e0
      ·simp [lfT,e,e0]
      ·exact (h0 ⟨rfl,e0⟩).elim
    ·exact e
   have HE:Hid (T=1∧L'=L∧nx'=nx):=Lib.hid (by
    have e:lfT held 1 n0 n1=1:=by
     cases held with
     | true=>exact (hP (by simp [lfT])).elim
     | false =>
      rcases hD n0 with e0 | e0
      ·simp [lfT,hn1,e0]
      ·exact (h0 ⟨rfl,e0⟩).elim
    have e2:lfN held 1 n0 n1 n2=false:=by simp [lfN,e]
    rw [e2] at hL' hnx'
    exact ⟨hT.trans e,hL',hnx'⟩)
   clear HLF HV hT hL' hnx'
   cases held with
   | true =>
    exact (hP (by simp [lfT])).elim
   | false =>
    rcases hD n0 with e0 | e0
    ·subst e0
     clear hP h0
     go_enter Tryd.func76,Tryd.ntmps76
     go_wp2
     first | go_end0 | go_ret
     rw [HE.out.1,HE.out.2.1,HE.out.2.2]
     exact ⟨rfl,⟨_,H.out⟩,Below.refl _ _⟩
    ·exact (h0 ⟨rfl,e0⟩).elim
end
def lfL (held:Bool) (kd:Nat) (L:Nat→List Int) (nx:Int):Nat→List Int:=if lfN held kd (L 0).length (L 1).length (L (2+kd)).length=true then upd L (2+kd) [nx] else L
def lfX (held:Bool) (kd:Nat) (L:Nat→List Int) (nx:Int):Int:=if lfN held kd (L 0).length (L 1).length (L (2+kd)).length=true then nx+1 else nx
def lfI (held:Bool) (kd:Nat) (L:Nat→List Int):Nat:=lfT held kd (L 0).length (L 1).length
theorem lfI_lt {held:Bool} {kd:Nat} {L:Nat→List Int} (hk:kd<2):lfI held kd L<4:=by
 unfold lfI lfT
 split
 ·omega
 ·split
  ·omega
  ·split <;> omega
theorem lfL_ne {held:Bool} {kd:Nat} {L:Nat→List Int} {nx:Int}:0<(lfL held kd L nx (lfI held kd L)).length:=by
 unfold lfL
 by_cases hn:lfN held kd (L 0).length (L 1).length (L (2+kd)).length=true
 ·rw [if_pos hn]
  simp only [lfN,Bool.and_eq_true,decide_eq_true_eq] at hn
  unfold lfI
  rw [hn.1,upd_at]
  simp
 ·rw [if_neg hn]
  simp only [lfN,Bool.and_eq_true,decide_eq_true_eq,not_and] at hn
  unfold lfI
  by_cases e:lfT held kd (L 0).length (L 1).length=2+kd
  ·have:=hn e
   rw [e]
   omega
  ·unfold lfT at e ⊢
   split
   ·rename_i h1
    rw [if_pos h1] at e
    exact (e rfl).elim
   ·rename_i h1
    rw [if_neg h1] at e
    split
    ·rename_i h2
     simp only [Bool.and_eq_true,decide_eq_true_eq] at h2
     exact h2.2
    ·rename_i h2
     rw [if_neg h2] at e
     split
     ·rename_i h3
      exact h3
     ·rename_i h3
      rw [if_neg h3] at e
      exact (e rfl).elim
section
variable {ks:Nat→Option Obj} {rb:Nat} {V:Nat→Value} {L:Nat→List Int} {nx:Int} {uv:Value} {us:List U3} {w w':World}
theorem lf_any (held:Bool) {kd:Nat} (hk:kd<2) (h:RmI ks rb V L nx uv us w) (hnx:0≤nx∧nx≤1000000) :
  Calls Tryd.prog 76 #[.pointer (some ⟨rb,0,none⟩),.bool held,.int .u8 kd] w fun e w'=>e=.returned (.pointer (some ⟨rb,lfI held kd L,none⟩))∧(∃ V',RmI ks rb V' (lfL held kd L nx) (lfX held kd L nx) uv us w')∧Below rb w w':=by
 rcases (by omega:kd=0∨kd=1) with rfl | rfl
 ·exact lf0_any held h hnx
 ·exact lf1_any held h hnx
def addK (ks:Nat→Option Obj) (p:Nat) (o:Obj):Nat→Option Obj:=fun g=>if g=p then some o else ks g
theorem addK_at (ks:Nat→Option Obj) (p:Nat) (o:Obj):addK ks p o p=some o:=by simp [addK]
theorem RmI.guard (h:RmI ks rb V L nx uv us w) (o:Obj):RmI (addK ks w.heap.size o) rb V L nx uv us (w.alloc o):=by
 have h1:=h.on ((Below.refl w.heap.size w).alloc (Nat.le_refl _) o)
 refine ⟨h1.box,h1.own,h1.sep,h1.uses,fun g o' hk=>?_⟩
 by_cases e:g=w.heap.size
 ·subst e
  rw [addK_at] at hk
  injection hk with hk
  subst hk
  have hb:=h.box.lt
  refine ⟨heap_alloc_new w _,by omega,fun l hl hv=>?_,fun hv=>?_⟩
  ·have:=(own_block_le (h.own l hl) hv).2
   omega
  ·have:=(own_block_le h.uses hv).2
   omega
 ·unfold addK at hk
  rw [if_neg e] at hk
  exact h1.keep g o' hk
theorem RmI.forget {p:Nat} {o:Obj} (h:RmI (addK ks p o) rb V L nx uv us w) (hp:ks p=none):RmI ks rb V L nx uv us w :=
 ⟨h.box,h.own,h.sep,h.uses,fun g o' hk=>h.keep g o' (by
  unfold addK
  rw [if_neg (fun e=>by rw [e,hp] at hk;cases hk)]
  exact hk)⟩
theorem Kp.none (h:Kp ks rb V uv w) {g:Nat} (hg:w.heap.size≤g):ks g=.none:=by
 cases e:ks g with
 | none=>rfl
 | some o=>exact absurd (h.lt e) (by omega)
theorem RmI.guarded {p:Nat} {cs:Array Value} {t:TypeId} (h:RmI (addK ks p (.cells cs t)) rb V L nx uv us w):Blk w p t cs:=(h.keep p _ (addK_at _ _ _)).1
theorem RmI.sub {ks':Nat→Option Obj} (h:RmI ks' rb V L nx uv us w) (hs:∀ g o,ks g=some o→ks' g=some o):RmI ks rb V L nx uv us w :=
 ⟨h.box,h.own,h.sep,h.uses,fun g o hk=>h.keep g o (hs g o hk)⟩
theorem addK_sub {q p:Nat} {o1 o2:Obj} (hq:ks q=none):∀ g o,addK ks p o2 g=some o→addK (addK ks q o1) p o2 g=some o:=fun g o hk=>by
 unfold addK at hk ⊢
 by_cases e:g=p
 ·rw [if_pos e] at hk ⊢
  exact hk
 ·rw [if_neg e] at hk ⊢
  rw [if_neg (fun e2=>by rw [e2,hq] at hk;cases hk)]
  exact hk
theorem RmI.guarded2 {q p:Nat} {o:Obj} {cs:Array Value} {t:TypeId} (h:RmI (addK (addK ks q (.cells cs t)) p o) rb V L nx uv us w) (hqp:q≠p):Blk w q t cs:=(h.keep q _ (by unfold addK;rw [if_neg hqp,if_pos rfl])).1
theorem RmI.gset {p:Nat} {cs:Array Value} {t:TypeId} (h:RmI (addK ks p (.cells cs t)) rb V L nx uv us w) (i:Nat) (u:Value):RmI (addK ks p (.cells (cs.setIfInBounds i u) t)) rb V L nx uv us (w.setCell ⟨p,i,none⟩ u):=by
 have hb:=h.guarded
 obtain ⟨_,k2,k3,k4⟩:=h.keep p _ (addK_at _ _ _)
 have hf:∀ g,g≠p→(w.setCell ⟨p,i,none⟩ u).heap[g]?=w.heap[g]?:=fun g hg=>Below.heap_setCell w ⟨p,i,none⟩ u g hg
 refine ⟨h.box.far (p:=⟨p,i,none⟩) (fun e=>k2 e.symm) u,fun l hl=>own_kept (h.own l hl) fun g hg=>hf g (fun e=>k3 l hl (by rw [hg,e])),h.sep,own_kept h.uses fun g hg=>hf g (fun e=>k4 (by rw [hg,e])),fun g o hk=>?_⟩
 by_cases e:g=p
 ·subst e
  rw [addK_at] at hk
  injection hk with hk
  subst hk
  exact ⟨hb.set_ i u,k2,k3,k4⟩
 ·obtain ⟨a1,a2,a3,a4⟩:=h.keep g o (by unfold addK at hk ⊢;rw [if_neg e] at hk ⊢;exact hk)
  exact ⟨(hf g e).trans a1,a2,a3,a4⟩
def tkU (us:List U3) (u:U3):List U3:=upU (us.length+1) (us ++ [u]) us.length
theorem take_any (held:Bool) {kd:Nat} (hk:kd<2) (pl fr te:Int) (h:RmI ks rb V L nx uv us w) (hnx:0≤nx∧nx≤1000000) (hus:us.length≤4000) (hL:∀ l,l<4→(lfL held kd L nx l).length≤5000) {k:Nat} (hkk:(lfL held kd L nx (lfI held kd L)).length=k+1) :
  Calls Tryd.prog 56 #[.pointer (some ⟨rb,0,none⟩),.agg #[.int .i64 pl,.int .i64 fr,.int .i64 te,.bool held],.int .u8 kd] w fun e w'=>e=.returned (.int .i64 ((lfL held kd L nx (lfI held kd L)).getD k 0))∧(∃ V' uv',RmI ks rb V' (upd (lfL held kd L nx) (lfI held kd L) ((lfL held kd L nx (lfI held kd L)).take k)) (lfX held kd L nx) uv' (tkU us ⟨(lfL held kd L nx (lfI held kd L)).getD k 0,te,lfI held kd L⟩) w')∧Below rb w w':=by
 have hwn:=h.keep.none (Nat.le_refl w.heap.size)
 have hg:=h.guard (.cells #[.int .i64 pl,.int .i64 fr,.int .i64 te,.bool held] 110)
 have HLF:=Lib.hid (lf_any held hk hg hnx)
 have HB0:Hid (Below rb w (w.alloc (.cells #[.int .i64 pl,.int .i64 fr,.int .i64 te,.bool held] 110))):=Lib.hid ((Below.refl _ _).alloc (Nat.le_of_lt h.box.lt) _)
 obtain ⟨T,hT⟩:∃ T,T=lfI held kd L:=⟨_,rfl⟩
 have hT4:T<4:=by rw [hT];exact lfI_lt hk
 obtain ⟨L1,hL1⟩:∃ L1,L1=lfL held kd L nx:=⟨_,rfl⟩
 obtain ⟨nx1,hnx1⟩:∃ nx1,nx1=lfX held kd L nx:=⟨_,rfl⟩
 rw [← hT,← hL1] at hkk ⊢
 rw [← hnx1]
 rw [← hT,← hL1,← hnx1] at HLF
 rw [← hL1] at hL
 obtain ⟨b,hb⟩:∃ b,b=(L1 T).getD k 0:=⟨_,rfl⟩
 have HBB:=Lib.hid hb
 rw [← hb]
 obtain ⟨kdi,hkd⟩:∃ kdi:Int,kdi=kd:=⟨_,rfl⟩
 rw [← hkd] at HLF ⊢
 have HWN:=Lib.hid hwn
 have HWP:Hid (∀ p,w.heap.size≤p→ks p=none):=Lib.hid fun p hp=>h.keep.none hp
 have hLT:=hL T hT4
 have HKK:=Lib.hid hkk
 clear h hg hT hL1 hnx1 hb hwn hkd hL
 go_enter Tryd.func56,Tryd.ntmps56
 go_wp2_with (go_at_call 76;refine HLF.out.mono ?_;rintro e w2 ⟨rfl,⟨V2,hr2⟩,hb2⟩;have HR2:=Lib.hid hr2;have HB2:=Lib.hid (HB0.out.trans hb2);have y2:w2.cell? ⟨w.heap.size,2,none⟩=some (.int .i64 te):=hr2.guarded.cell 2;clear hr2 hb2;refine Hid.out ?_)
 refine Lib.hid ?_
 go_upto_region 2 with fail
 have HQ2:Hid (w.heap.size<w2.heap.size):=Lib.hid HR2.out.guarded.lt
 have hT4':=hT4
 have hsz2:rb<w2.heap.size:=HR2.out.box.lt
 have HTK:Hid (∀ W,RmI (addK ks w.heap.size (.cells #[.int .i64 pl,.int .i64 fr,.int .i64 te,.bool held] 110)) rb V2 L1 nx1 uv us W→Calls Tryd.prog 77 #[.pointer (some ⟨rb,T,none⟩)] W fun e w'=>e=.returned (.int .i64 b)∧(∃ V',RmI (addK ks w.heap.size (.cells #[.int .i64 pl,.int .i64 fr,.int .i64 te,.bool held] 110)) rb V' (upd L1 T ((L1 T).take k)) nx1 uv us w')∧Below rb W w'):=Lib.hid fun W hW=>by rw [HBB.out];exact takeI_any hW hT4 HKK.out hLT
 have HTKa:Hid (∀ W o,RmI (addK (addK ks w.heap.size (.cells #[.int .i64 pl,.int .i64 fr,.int .i64 te,.bool held] 110)) w2.heap.size o) rb V2 L1 nx1 uv us W→Calls Tryd.prog 77 #[.pointer (some ⟨rb,T,none⟩)] W fun e w'=>e=.returned (.int .i64 b)∧(∃ V',RmI (addK (addK ks w.heap.size (.cells #[.int .i64 pl,.int .i64 fr,.int .i64 te,.bool held] 110)) w2.heap.size o) rb V' (upd L1 T ((L1 T).take k)) nx1 uv us w')∧Below rb W w'):=Lib.hid fun W o hW=>by rw [HBB.out];exact takeI_any hW hT4 HKK.out hLT
 have y2a:∀ o,(w2.alloc o).cell? ⟨w.heap.size,2,none⟩=some (.int .i64 te):=fun o=>Lib.cell?_alloc_some o y2
 have HRD:Hid (RmI (addK ks w.heap.size (.cells #[.int .i64 pl,.int .i64 fr,.int .i64 te,.bool held] 110)) rb V2 L1 nx1 uv us w2.drew):=Lib.hid HR2.out.drewN1
 have HRA:Hid (∀ o,RmI (addK (addK ks w.heap.size (.cells #[.int .i64 pl,.int .i64 fr,.int .i64 te,.bool held] 110)) w2.heap.size o) rb V2 L1 nx1 uv us (w2.alloc o).drew):=Lib.hid fun o=>(HR2.out.guard o).drewN1
 have HBD:Hid (Below rb w w2.drew):=Lib.hid HB2.out.drew
 have HBA:Hid (∀ o,Below rb w (w2.alloc o).drew):=Lib.hid fun o=>(HB2.out.alloc (Nat.le_of_lt hsz2) o).drew
 go_cut [8] (fun s wx=>∃ p,s=.pointer (some ⟨p,0,none⟩)∧Hid (ks p=none)∧Hid (∃ V3,RmI (addK ks p (.cells #[.int .i64 b,.int .i64 te,.pointer (some ⟨rb,T,none⟩)] 139)) rb V3 (upd L1 T ((L1 T).take k)) nx1 uv us wx∧Below rb w wx))
 case first =>
  go_region_law (first
   | (go_simp;go_at_call 77;refine (HTK.out _ HRD.out).mono ?_;rintro e w3 ⟨rfl,⟨V3,hr3⟩,hb3⟩;have HR3:=Lib.hid hr3;have HB3:=Lib.hid (HBD.out.trans hb3);have y3:w3.cell? ⟨w.heap.size,2,none⟩=some (.int .i64 te):=hr3.guarded.cell 2;have y3a:∀ o,(w3.alloc o).cell? ⟨w.heap.size,2,none⟩=some (.int .i64 te):=(fun o=>Lib.cell?_alloc_some o y3);clear hr3 hb3)
   | (go_simp;go_at_call 77;refine (HTKa.out _ (.cells #[.int .i64 0,.int .i64 0,.pointer none] 139) (HRA.out _)).mono ?_;rintro e w3 ⟨rfl,⟨V3,hr3⟩,hb3⟩;have HR3:=Lib.hid hr3;have HB3:=Lib.hid ((HBA.out _).trans hb3);have y3:w3.cell? ⟨w.heap.size,2,none⟩=some (.int .i64 te):=(hr3.guarded2 (Nat.ne_of_lt HQ2.out)).cell 2;have c0:w3.cell? ⟨w2.heap.size,0,none⟩=some (.int .i64 0):=hr3.guarded.cell 0;have c1:w3.cell? ⟨w2.heap.size,1,none⟩=some (.int .i64 0):=hr3.guarded.cell 1;have c2:w3.cell? ⟨w2.heap.size,2,none⟩=some (.pointer none):=hr3.guarded.cell 2;have f0:=hr3.guarded.frozen 0;have f1:=hr3.guarded.frozen 1;have f2:=hr3.guarded.frozen 2;clear hr3 hb3))
  all_goals
   go_wp2
   go_meet
   first
    | exact ⟨_,rfl,Lib.hid (HWP.out _ (Nat.le_of_lt HR3.out.guarded.lt)),Lib.hid ⟨_,(HR3.out.guard _).sub (addK_sub HWN.out),HB3.out.alloc (Nat.le_of_lt HR3.out.box.lt) _⟩⟩
    | exact ⟨_,rfl,Lib.hid (HWP.out _ (Nat.le_of_lt HQ2.out)),Lib.hid ⟨_,(((HR3.out.gset 0 (.int .i64 b)).gset 1 (.int .i64 te)).gset 2 (.pointer (some ⟨rb,T,none⟩))).sub (addK_sub HWN.out),((HB3.out.setCell (p:=⟨w2.heap.size,0,none⟩) (Nat.le_of_lt hsz2) _).setCell (p:=⟨w2.heap.size,1,none⟩) (Nat.le_of_lt hsz2) _).setCell (p:=⟨w2.heap.size,2,none⟩) (Nat.le_of_lt hsz2) _⟩⟩
 case rest =>
  clear HTK HTKa HRD HRA HBD HBA HR2 HB2 y2 y2a HLF HB0 HQ2 hsz2
  obtain ⟨p,rfl,HKP,HX⟩:=hcut
  obtain ⟨V3,hr3,hb3⟩:=HX.out
  have z0:wc.cell? ⟨p,0,none⟩=some (.int .i64 b):=hr3.guarded.cell 0
  have z1:wc.cell? ⟨p,1,none⟩=some (.int .i64 te):=hr3.guarded.cell 1
  have z2:wc.cell? ⟨p,2,none⟩=some (.pointer (some ⟨rb,T,none⟩)):=hr3.guarded.cell 2
  have HPU:Hid (Calls Tryd.prog 78 #[.iface 141 (.pointer (some ⟨rb,5,none⟩)),.iface 139 (.agg #[.int .i64 b,.int .i64 te,.pointer (some ⟨rb,T,none⟩)])] wc.drew fun e w'=>e=.returned (.tuple #[])∧(∃ uv',RmI (addK ks p (.cells #[.int .i64 b,.int .i64 te,.pointer (some ⟨rb,T,none⟩)] 139)) rb V3 (upd L1 T ((L1 T).take k)) nx1 uv' (tkU us ⟨b,te,T⟩) w')∧Below rb wc.drew w'):=Lib.hid (hpush_any hr3.drewN1 ⟨b,te,T⟩ hus)
  have HB3:Hid (Below rb w wc.drew):=Lib.hid hb3.drew
  clear hr3 hb3 HX
  go_upto_region 3 with fail
  go_region_law (first
   | (go_simp;go_at_call 78;refine HPU.out.mono ?_;rintro e w5 ⟨rfl,⟨uv5,hr5⟩,hb5⟩;have HR5:=Lib.hid hr5;have HB5:=Lib.hid (HB3.out.trans hb5);have z5:w5.cell? ⟨p,0,none⟩=some (.int .i64 b):=hr5.guarded.cell 0;clear hr5 hb5))
  all_goals
   go_wp2
   first | go_end0 | go_ret
   exact ⟨rfl,⟨_,_,HR5.out.forget HKP.out⟩,HB5.out⟩
end
end Go.Proofs.YtepkogfiojkcpaaDoor
