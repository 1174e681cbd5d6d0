/-
  Texts of one seat, one behind the other: JRo, Mk0, JFi, Mk1.
-/
import Derived.Test.YtepkogfiojkcpaaDoorMA18
import Derived.Test.YtepkogfiojkcpaaDoorMA19

set_option linter.unusedVariables false
set_option linter.unusedSimpArgs false
set_option maxRecDepth 100000
set_option maxHeartbeats 51200000
namespace Go.Proofs.YtepkogfiojkcpaaDoor
theorem nodup_le:∀ (a b:List Nat),a.Nodup→(∀ x ∈ a,x ∈ b)→a.length≤b.length
 | [],_,_,_=>Nat.zero_le _
 | y :: a,b,hn,hs=>by
  obtain ⟨h1,h2⟩:=List.nodup_cons.1 hn
  have hy:y ∈ b:=hs y (by simp)
  have h3:=nodup_le a (b.erase y) h2 (fun z hz=>(List.mem_erase_of_ne (fun e=>h1 (by rw [← e];exact hz))).2 (hs z (by simp [hz])))
  rw [List.length_erase_of_mem hy] at h3
  have:=List.length_pos_of_mem hy
  simp
  omega
theorem map_nodup {f:Nat→Nat}:∀ (l:List Nat),l.Nodup→(∀ x ∈ l,∀ y ∈ l,f x=f y→x=y)→(l.map f).Nodup
 | [],_,_=>by simp
 | x :: l,hn,hf=>by
  obtain ⟨h1,h2⟩:=List.nodup_cons.1 hn
  rw [List.map_cons]
  refine List.nodup_cons.2 ⟨fun hm=>?_,map_nodup l h2 (fun a ha b hb e=>hf a (by simp [ha]) b (by simp [hb]) e)⟩
  obtain ⟨y,hy,e⟩:=List.mem_map.1 hm
  have:=hf x (by simp) y (by simp [hy]) e.symm
  exact h1 (by rw [this];exact hy)
section
variable {fam:Int→Nat} {L:Nat→List Int} {nx:Int} {us vs:List U3}
theorem dom_kept {r:Int} (h:DomF fam nx r) (h1:6≤r) (h2:r<12):fam r=1:=by
 rcases h with ⟨_,_,h4⟩ | ⟨e,_,_⟩ | ⟨_,h3,_⟩
 ·omega
 ·exact e
 ·omega
def LostI (L:Nat→List Int) (us:List U3):Prop:=∀ r:Int,6≤r→r<12→r ∈ L 1∨∃ u,InU us u∧u.b=r
theorem endB_lost (p:Int):∀ (f:Nat) (L:Nat→List Int) (us:List U3),us.length=f→PI fam L nx us→LostI L us→LostI (endB p f L us).1 (endB p f L us).2∧∀ u,InU (endB p f L us).2 u→InU us u
 | 0,L,us,_,_,h=>⟨h,fun u hu=>hu⟩
 | f+1,L,us,hf,hp,h=>by
  unfold endB
  by_cases c:(us.getD 0 u0).t<p
  ·rw [if_pos c]
   have hl:(popU us).length=us.length:=popU_len us
   have ht:((popU us).take f).length=f:=by rw [List.length_take];omega
   have hpr:UPrm us.length us (popU us):=by rw [hf];exact (popU_prm hf).1
   have h1:=hp.prm hpr hl
   obtain ⟨r1,r2⟩:=endB_lost p f _ _ ht (hp.pop hf) (fun r h6 h12=>by
    rcases h r h6 h12 with hm | ⟨u,hu,hb⟩
    ·left
     by_cases e:(1:Nat)=((popU us).getD f u0).l
     ·rw [← e,upd_at];exact List.mem_append_left _ hm
     ·rw [upd_ne e];exact hm
    ·obtain ⟨j,hj,e⟩:=(InU.prm hpr hl u).1 hu
     by_cases hjf:j<f
     ·exact .inr ⟨u,⟨j,by omega,by rw [take_getD _ hjf];exact e⟩,hb⟩
     ·have:j=f:=by omega
      subst this
      left
      have hfl:j<(popU us).length:=by omega
      obtain ⟨f1,f2⟩:=h1.fu j hfl
      rw [e,hb] at f1 f2
      have f3:=dom_kept f2 h6 h12
      have f4:((popU us).getD j u0).l=1:=by rw [e];omega
      rw [f4,upd_at,e,hb]
      simp)
   refine ⟨r1,fun u hu=>?_⟩
   obtain ⟨j,hj,e⟩:=r2 u hu
   have hjf:j<f:=by omega
   rw [take_getD _ hjf] at e
   exact (InU.prm hpr hl u).2 ⟨j,by omega,e⟩
  ·rw [if_neg c]
   exact ⟨h,fun u hu=>hu⟩
theorem tkU_inv {us:List U3} {u v:U3} (h:InU (tkU us u) v):InU us v∨v=u:=by
 have hp:=upU_prm (us.length+1) (us ++ [u]) us.length (by simp)
 obtain ⟨j,hj,e⟩:=(InU.prm hp (by rw [upU_len]) v).2 h
 rw [app_getD] at e
 by_cases c:j<us.length
 ·rw [if_pos c] at e;exact .inl ⟨j,c,e⟩
 ·simp at hj
  rw [if_neg c,if_pos (by omega)] at e
  exact .inr e.symm
theorem tkU_in {us:List U3} {u v:U3} (h:InU us v∨v=u):InU (tkU us u) v:=by
 have hp:=upU_prm (us.length+1) (us ++ [u]) us.length (by simp)
 refine (InU.prm hp (by rw [upU_len]) v).1 ?_
 rcases h with ⟨j,hj,e⟩ | e
 ·exact ⟨j,by simp;omega,by rw [app_getD,if_pos hj];exact e⟩
 ·exact ⟨us.length,by simp,by rw [app_getD,if_neg (by omega),if_pos rfl];exact e.symm⟩
end
structure RmE (S:Nat→Iv) (i:Nat) (st:ASt):Prop where
 heap:HpO st.us st.us.length
 lost:LostI st.L st.us
 src:∀ u,InU st.us u→∃ a,a<i∧u.b=st.bd (S a).p.toNat∧u.t=(S a).t
 low:∀ a,a<i→st.bd (S a).p.toNat<12
theorem RmE.start (S:Nat→Iv):RmE S 0 as0:=by
 refine ⟨fun i _ hi=>by simp [as0] at hi,fun r h1 h2=>.inl ?_,fun u hu=>?_,fun a ha=>by omega⟩
 ·show r ∈ newL 6 1
  rw [newL6,if_neg (by decide),if_pos rfl]
  have:r=6∨r=7∨r=8∨r=9∨r=10∨r=11:=by omega
  rcases this with rfl | rfl | rfl | rfl | rfl | rfl <;> decide
 ·obtain ⟨j,hj,_⟩:=hu
  simp [as0] at hj
theorem RmE.step {kd:Nat→Nat} {S:Nat→Iv} {i:Nat} {st:ASt} {fam:Int→Nat} (h:RmE S i st) (hR:RI kd S i st fam) (hk:kd (S i).p.toNat<2) (hd:∀ a,a<i→(S a).p.toNat≠(S i).p.toNat) (hs:∀ a,a<i→(S a).f≤(S i).f)
  (hft:(S i).f≤(S i).t) (e1:(S i).h=true→kd (S i).p.toNat≠1) (e2:∀ ls:List Nat,ls.Nodup→(∀ a ∈ ls,a≤i∧(S a).f≤(S i).f∧(S i).f≤(S a).t)→ls.length≤6) :
  RmE S (i+1) (asStep kd st (S i)):=by
 obtain ⟨p1,_⟩:=endB_pi (nx:=st.nx) (fam:=fam) (S i).f st.us.length st.L st.us rfl hR.pi
 obtain ⟨q1,q2⟩:=endB_heap (S i).f st.us.length st.L st.us rfl h.heap
 obtain ⟨l1,l2⟩:=endB_lost (nx:=st.nx) (fam:=fam) (S i).f st.us.length st.L st.us rfl hR.pi h.lost
 have hE:asE st (S i)=endB (S i).f st.us.length st.L st.us:=rfl
 rw [← hE] at p1 q1 q2 l1 l2
 obtain ⟨E,hEE⟩:∃ E,E=asE st (S i):=⟨_,rfl⟩
 rw [← hEE] at p1 q1 q2 l1 l2
 have hsrc:∀ j,j<E.2.length→∃ a,a<i∧(E.2.getD j u0).b=st.bd (S a).p.toNat∧(E.2.getD j u0).t=(S a).t:=fun j hj=>h.src _ (l2 _ ⟨j,hj,rfl⟩)
 have hlen:E.2.length≤5:=by
  have hch:∃ g:Nat→Nat,∀ j,j<E.2.length→g j<i∧(E.2.getD j u0).b=st.bd (S (g j)).p.toNat∧(E.2.getD j u0).t=(S (g j)).t:=by
   refine ⟨fun j=>if hj:j<E.2.length then Classical.choose (hsrc j hj) else 0,fun j hj=>?_⟩
   simp only [dif_pos hj]
   exact Classical.choose_spec (hsrc j hj)
  obtain ⟨g,hg⟩:=hch
  have h6:=e2 (i :: (List.range E.2.length).map g) (List.nodup_cons.2 ⟨fun hm=>?_,map_nodup _ List.nodup_range (fun x hx y hy e=>?_)⟩) (fun a ha=>?_)
  ·simp at h6;omega
  ·obtain ⟨j,hj,e⟩:=List.mem_map.1 hm
   have:=(hg j (List.mem_range.1 hj)).1
   omega
  ·have hx':=List.mem_range.1 hx
   have hy':=List.mem_range.1 hy
   refine p1.inj x y hx' hy' ?_
   rw [(hg x hx').2.1,(hg y hy').2.1,e]
  ·rcases List.mem_cons.1 ha with e | e
   ·rw [e];exact ⟨Nat.le_refl _,Int.le_refl _,hft⟩
   ·obtain ⟨j,hj,e3⟩:=List.mem_map.1 e
    have hj':=List.mem_range.1 hj
    have h7:=hg j hj'
    have h8:=q2 j hj'
    unfold tU at h8
    rw [← e3]
    exact ⟨by omega,hs _ h7.1,by rw [← h7.2.2];exact h8⟩
 have hL1:0<(E.1 1).length:=by
  rcases Nat.eq_zero_or_pos (E.1 1).length with h0 | h0
  ·exfalso
   have hnil:E.1 1=[]:=List.eq_nil_of_length_eq_zero h0
   have hj:∀ r:Nat,r<6→∃ j,j<E.2.length∧(E.2.getD j u0).b=6+r:=fun r hr=>by
    rcases l1 (6+r) (by omega) (by omega) with hm | ⟨u,⟨j,hj,e⟩,hb⟩
    ·rw [hnil] at hm;cases hm
    ·exact ⟨j,hj,by rw [e];exact hb⟩
   have hch:∃ g:Nat→Nat,∀ r,r<6→g r<E.2.length∧(E.2.getD (g r) u0).b=6+r:=by
    refine ⟨fun r=>if hr:r<6 then Classical.choose (hj r hr) else 0,fun r hr=>?_⟩
    simp only [dif_pos hr]
    exact Classical.choose_spec (hj r hr)
   obtain ⟨g,hg⟩:=hch
   have h6:=nodup_le ((List.range 6).map g) (List.range E.2.length) (map_nodup _ List.nodup_range (fun x hx y hy e=>by
    have h1:=(hg x (List.mem_range.1 hx)).2
    have h2:=(hg y (List.mem_range.1 hy)).2
    rw [e] at h1
    omega)) (fun x hx=>by
    obtain ⟨r,hr,e⟩:=List.mem_map.1 hx
    rw [← e]
    exact List.mem_range.2 (hg r (List.mem_range.1 hr)).1)
   simp at h6
   omega
  ·exact h0
 have hI:lfI (S i).h (kd (S i).p.toNat) E.1=0∨lfI (S i).h (kd (S i).p.toNat) E.1=1:=by
  unfold lfI lfT
  rw [if_neg (fun hh=>by simp at hh;exact e1 hh.1 hh.2)]
  repeat' split
  all_goals first | exact .inl rfl | exact .inr rfl | (exfalso;omega)
 have hN:¬ lfN (S i).h (kd (S i).p.toNat) (E.1 0).length (E.1 1).length (E.1 (2+kd (S i).p.toNat)).length=true:=fun hh=>by
  have:=(lfN_I hh).1
  omega
 have hLL:lfL (S i).h (kd (S i).p.toNat) E.1 st.nx=E.1:=by unfold lfL;rw [if_neg hN]
 have hkk:(asL kd st (S i) (asI kd st (S i))).length=asN kd st (S i)+1:=by
  have:0<(asL kd st (S i) (asI kd st (S i))).length:=lfL_ne
  unfold asN
  omega
 have hAL:asL kd st (S i)=E.1:=by rw [hEE];unfold asL;rw [← hEE];exact hLL
 have hAI:asI kd st (S i)=lfI (S i).h (kd (S i).p.toNat) E.1:=by unfold asI;rw [← hEE]
 have hb:∀ a,a<i→(asStep kd st (S i)).bd (S a).p.toNat=st.bd (S a).p.toNat:=fun a ha=>upd_ne (hd a ha)
 have hbi:(asStep kd st (S i)).bd (S i).p.toNat=asB kd st (S i):=upd_at _ _ _
 have hus:(asStep kd st (S i)).us=tkU E.2 ⟨asB kd st (S i),(S i).t,asI kd st (S i)⟩:=by rw [hEE];rfl
 have hsL:(asStep kd st (S i)).L=upd E.1 (asI kd st (S i)) ((E.1 (asI kd st (S i))).take (asN kd st (S i))):=by rw [← hAL];rfl
 have hI4:asI kd st (S i)<4:=by rw [hAI];omega
 have hkk2:=hkk
 rw [hAL] at hkk2
 have hB:asB kd st (S i)=(E.1 (asI kd st (S i))).getD (asN kd st (S i)) 0:=by unfold asB;rw [hAL]
 obtain ⟨_,t2,t3,_⟩:=p1.takeL hI4 hkk2 (S i).t
 rw [← hB] at t2 t3
 refine ⟨?_,fun r h6 h12=>?_,fun u hu=>?_,fun a ha=>?_⟩
 ·rw [hus,tkU_len]
  exact tk_heap _ q1
 ·rw [hus,hsL]
  rcases l1 r h6 h12 with hm | ⟨u,hu,hbu⟩
  ·by_cases e:(1:Nat)=asI kd st (S i)
   ·rw [← e,upd_at]
    have hsp:=last_split hkk2
    rw [← hB,← e] at hsp
    rw [hsp] at hm
    rcases List.mem_append.1 hm with h9 | h9
    ·exact .inl h9
    ·rw [List.mem_singleton] at h9
     exact .inr ⟨_,tkU_in (.inr rfl),h9.symm⟩
   ·rw [upd_ne e];exact .inl hm
  ·exact .inr ⟨u,tkU_in (.inl hu),hbu⟩
 ·rw [hus] at hu
  rcases tkU_inv hu with h9 | h9
  ·obtain ⟨a,ha,a1,a2⟩:=h.src u (l2 u h9)
   exact ⟨a,by omega,by rw [hb a ha];exact a1,a2⟩
  ·exact ⟨i,by omega,by rw [h9,hbi],by rw [h9]⟩
 ·by_cases e:a<i
  ·rw [hb a e];exact h.low a e
  ·obtain rfl:a=i:=by omega
   rw [hbi]
   have:fam (asB kd st (S a))=0∨fam (asB kd st (S a))=1:=by rw [t2,hAI];exact hI
   rcases t3 with ⟨_,_,h9⟩ | ⟨_,_,h9⟩ | ⟨h9,_,_⟩ <;> omega
theorem RmE.all {kd:Nat→Nat} {S:Nat→Iv} {n:Nat} (hk:∀ a,a<n→kd (S a).p.toNat<2) (hd:∀ a b,a<b→b<n→(S a).p.toNat≠(S b).p.toNat) (hs:∀ a b,a<b→b<n→(S a).f≤(S b).f)
  (hft:∀ a,a<n→(S a).f≤(S a).t) (e1:∀ a,a<n→(S a).h=true→kd (S a).p.toNat≠1) (e2:∀ i,i<n→∀ ls:List Nat,ls.Nodup→(∀ a ∈ ls,a<n∧(S a).f≤(S i).f∧(S i).f≤(S a).t)→ls.length≤6) :
  ∀ i,i≤n→RmE S i (asRun kd S i)
 | 0,_=>RmE.start S
 | i+1,hi=>by
  obtain ⟨fam,h⟩:=RI.all hk hd hs i (by omega)
  exact (RmE.all hk hd hs hft e1 e2 i (by omega)).step h (hk i (by omega)) (fun a ha=>hd a i ha (by omega)) (fun a ha=>hs a i ha (by omega)) (hft i (by omega)) (e1 i (by omega)) (fun ls h1 h2=>e2 i (by omega) ls h1 (fun a ha=>by have:=h2 a ha;exact ⟨by omega,this.2⟩))
def cntF (F:Nat→Iv) (x:Int):Nat→Nat
 | 0=>0
 | n+1=>cntF F x n+if (F n).f≤x∧x≤(F n).t then 1 else 0
theorem cntF_filter (F:Nat→Iv) (x:Int):∀ n,cntF F x n=((List.range n).filter (fun a=>decide ((F a).f≤x∧x≤(F a).t))).length
 | 0=>rfl
 | n+1=>by
  rw [List.range_succ,List.filter_append,List.length_append,← cntF_filter F x n]
  show (cntF F x n+if (F n).f≤x∧x≤(F n).t then 1 else 0)=_
  by_cases h:(F n).f≤x∧x≤(F n).t
  ·rw [if_pos h,List.filter_cons_of_pos (by simpa using h)];rfl
  ·rw [if_neg h,List.filter_cons_of_neg (by simpa using h)];rfl
theorem cntF_ge (F:Nat→Iv) (x:Int) (n:Nat) (ls:List Nat) (h1:ls.Nodup) (h2:∀ a ∈ ls,a<n∧(F a).f≤x∧x≤(F a).t):ls.length≤cntF F x n:=by
 rw [cntF_filter]
 exact nodup_le _ _ h1 (fun a ha=>List.mem_filter.2 ⟨List.mem_range.2 (h2 a ha).1,by simpa using (h2 a ha).2⟩)
def EzI (g:Gr):Prop:=(∀ x:Nat,x<g.nodes.length→cntF (spF g) x (spansG g).length≤6)∧∀ i,i<(spansG g).length→(spF g i).h=true→kdL g.kinds (spF g i).p.toNat≠1
theorem asg_room {gs:List Gr} {g:Gr} (h:valid gs false) (hg:g ∈ gs) (hz:EzI g) (q:Nat):asgG g q<12:=by
 obtain ⟨n,hn⟩:∃ n,n=(spansG g).length:=⟨_,rfl⟩
 obtain ⟨hso,hpr⟩:=stb_ok kyF n (spF g)
 have hS:spS g=stb kyF n (spF g):=by unfold spS;rw [hn]
 rw [← hS] at hso hpr
 obtain ⟨π,ρ,hπ⟩:=hpr
 have hS2:∀ a,a<n→spS g a=spF g (π a):=fun a ha=>(hπ a ha).2.2.2.2
 have hin:∀ i,i<n→(∃ q:Nat,(spF g i).p=q)∧0≤(spF g i).f∧(spF g i).f≤(spF g i).t∧(spF g i).t<(lineG g).length:=fun i hi=>by
  obtain ⟨⟨q,h1,h2,_⟩,h3,h4,h5,_⟩:=spG_in h hg (spF_mem (by rw [← hn];exact hi))
  exact ⟨⟨q,h1⟩,h3,h4,h5⟩
 have hinj:∀ i j,i<n→j<n→(spF g i).p.toNat=(spF g j).p.toNat→i=j:=fun i j hi hj e=>by
  obtain ⟨⟨q,h1⟩,_⟩:=hin i hi
  obtain ⟨⟨q2,h2⟩,_⟩:=hin j hj
  rcases Nat.lt_trichotomy i j with hlt | heq | hgt
  ·have:=spF_apart g hlt (by omega);omega
  ·exact heq
  ·have:=spF_apart g hgt (by omega);omega
 have hpi:∀ a b,a<n→b<n→π a=π b→a=b:=fun a b ha hb e=>by
  obtain ⟨a1,a2,a3,a4,a5⟩:=hπ a ha
  obtain ⟨b1,b2,b3,b4,b5⟩:=hπ b hb
  rw [← a4,← b4,e]
 have hd:∀ a b,a<b→b<n→(spS g a).p.toNat≠(spS g b).p.toNat:=fun a b hab hb e=>by
  rw [hS2 a (by omega),hS2 b hb] at e
  have:=hpi a b (by omega) hb (hinj _ _ (hπ a (by omega)).1 (hπ b hb).1 e)
  omega
 have hlen:(lineG g).length≤g.nodes.length:=(lineG_ok h hg).len
 have hR:=RmE.all (kd:=kdL g.kinds) (S:=spS g) (n:=n) (fun a _=>kd_lt h hg _) hd (fun a b hab hb=>hso a b (by omega) hab hb)
  (fun a ha=>by rw [hS2 a ha];exact (hin _ (hπ a ha).1).2.2.1)
  (fun a ha hh=>by rw [hS2 a ha] at hh ⊢;exact hz.2 _ (by rw [← hn];exact (hπ a ha).1) hh)
  (fun i hi ls h1 h2=>by
   obtain ⟨_,f0,f1,f2⟩:=hin _ (hπ i hi).1
   rw [← hS2 i hi] at f0 f1 f2
   have h3:=hz.1 (spS g i).f.toNat (by omega)
   have h4:=cntF_ge (spF g) (spS g i).f n (ls.map π) (map_nodup _ h1 (fun x hx y hy e=>hpi x y (h2 x hx).1 (h2 y hy).1 e)) (fun a ha=>by
    obtain ⟨b,hb,e⟩:=List.mem_map.1 ha
    have h5:=h2 b hb
    rw [← e,← hS2 b h5.1]
    exact ⟨(hπ b h5.1).1,h5.2⟩)
   rw [List.length_map] at h4
   rw [← hn,show (((spS g i).f.toNat:Nat):Int)=(spS g i).f by omega] at h3
   omega) n (Nat.le_refl _)
 have hl:asgG g q=(asRun (kdL g.kinds) (spS g) n).bd q:=by unfold asgG;rw [hn]
 by_cases c:∃ a,a<n∧(spS g a).p.toNat=q
 ·obtain ⟨a,ha,e⟩:=c
  rw [hl,← e]
  exact hR.low a ha
 ·obtain ⟨fam,hI⟩:=RI.all (kd:=kdL g.kinds) (S:=spS g) (n:=n) (fun a _=>kd_lt h hg _) hd (fun a b hab hb=>hso a b (by omega) hab hb) n (Nat.le_refl _)
  rw [hl,hI.out q (fun a ha e=>c ⟨a,ha,e⟩)]
  decide
def mN (k c i:Nat) (x:Int):Nd :=
 if i<k then ⟨16,0,(i:Int),0,0,0,0,0,0,[],x,0⟩
 else if i<k+c then ⟨11,0,-1,0,0,0,1,0,0,[],x,0⟩
 else ⟨17,0,0,0,((i-(k+c):Nat):Int),0,0,0,0,[],x,0⟩
def mRet:Nd:=⟨12,0,0,0,-1,0,0,0,0,[],0,0⟩
def mX (t i:Nat):Int:=if i<t then ((i+1:Nat):Int) else 0
def mS (k c j t:Nat):List Nd:=(List.range j).map fun i=>mN k c i (mX t i)
def mG (k c:Nat):Gr:=⟨[],List.replicate k 0,0,[],false,-1,mS k c (2*k+c) (2*k+c) ++ [mRet],0⟩
def mH:Gr:=⟨[],[],0,[],false,-1,[mRet],0⟩
theorem mN_in {k c i:Nat} (h:i<k) (x:Int):mN k c i x=⟨16,0,(i:Int),0,0,0,0,0,0,[],x,0⟩:=if_pos h
theorem mN_call {k c i:Nat} (h1:k≤i) (h2:i<k+c) (x:Int):mN k c i x=⟨11,0,-1,0,0,0,1,0,0,[],x,0⟩:=by
 unfold mN
 rw [if_neg (by omega),if_pos h2]
theorem mN_out {k c i:Nat} (h:k+c≤i) (x:Int):mN k c i x=⟨17,0,0,0,((i-(k+c):Nat):Int),0,0,0,0,[],x,0⟩:=by
 unfold mN
 rw [if_neg (by omega),if_neg (by omega)]
theorem mS_len (k c j t:Nat):(mS k c j t).length=j:=by simp [mS]
theorem mS_at {k c j t i:Nat} (h:i<j):(mS k c j t)[i]?=some (mN k c i (mX t i)):=by
 unfold mS
 rw [List.getElem?_map,List.getElem?_range h]
 rfl
theorem mS_succ (k c j t:Nat):mS k c (j+1) t=mS k c j t ++ [mN k c j (mX t j)]:=by simp [mS,List.range_succ]
theorem mS_set {k c j t:Nat} (h:t<j):(mS k c j t).set t (mN k c t ((t+1:Nat):Int))=mS k c j (t+1):=by
 refine List.ext_getElem? fun i=>?_
 by_cases hi:i<j
 ·rw [mS_at hi,List.getElem?_set]
  by_cases e:t=i
  ·subst e
   rw [if_pos rfl,if_pos (by rw [mS_len];exact hi)]
   unfold mX
   rw [if_pos (by omega)]
  ·rw [if_neg e,mS_at hi]
   unfold mX
   by_cases h2:i<t
   ·rw [if_pos h2,if_pos (by omega)]
   ·rw [if_neg h2,if_neg (by omega)]
 ·rw [List.getElem?_eq_none (by rw [List.length_set,mS_len];omega),List.getElem?_eq_none (by rw [mS_len];omega)]
theorem mG_len (k c:Nat):(mG k c).nodes.length=2*k+c+1:=by
 show (mS k c (2*k+c) (2*k+c) ++ [mRet]).length=_
 rw [List.length_append,mS_len]
 rfl
theorem mG_at {k c i:Nat} (h:i<2*k+c):(mG k c).nodes[i]?=some (mN k c i ((i+1:Nat):Int)):=by
 show (mS k c (2*k+c) (2*k+c) ++ [mRet])[i]?=_
 rw [List.getElem?_append_left (by rw [mS_len];exact h),mS_at h]
 unfold mX
 rw [if_pos h]
theorem mvalid0:∀ c,c<2→∀ k,k<41→0<k→valid [mG k c,mH] false:=by decide +kernel
theorem mvalid {k c:Nat} (h1:0<k) (h2:k≤40) (h3:c≤1):valid [mG k c,mH] false:=mvalid0 c (by omega) k (by omega) h1
theorem mN_next (k c i:Nat) (x:Int):nextsOf (mN k c i x)=[x]:=by
 unfold nextsOf mN
 repeat' split
 all_goals first | rfl | (exfalso;simp at *;done) | (simp at *)
section
variable {k c:Nat}
theorem m_live {p:Nat} (hp:p<k):∀ d,d≤c+p→Live (mG k c).nodes p (k+c+p-d)
 | 0,_=>by
  refine .here (mG_at (by omega)) ?_
  rw [mN_out (by omega)]
  show (p:Int) ∈ addL [] [((k+c+p-0-(k+c):Nat):Int)]
  rw [show k+c+p-0-(k+c)=p by omega]
  simp [addL,add1]
 | d+1,hd=>by
  have h:=m_live hp d (by omega)
  refine .next (j:=k+c+p-d) (mG_at (i:=k+c+p-(d+1)) (by omega)) ?_ ?_ h
  ·by_cases e:k+c+p-(d+1)<k+c
   ·rw [mN_call (by omega) e]
    show (p:Int) ∉ addL [] [(-1:Int)]
    simp [addL,add1]
   ·rw [mN_out (by omega)]
    show (p:Int) ∉ addL [] []
    simp [addL]
  ·rw [mN_next,show k+c+p-(d+1)+1=k+c+p-d by omega]
   simp
theorem m_live0 {p:Nat} (hp:p<k):Live (mG k c).nodes p k:=by
 have h:=m_live (c:=c) hp (c+p) (Nat.le_refl _)
 rw [show k+c+p-(c+p)=k by omega] at h
 exact h
theorem m_held {p:Nat} (hp:p<k) (hc:c=1):HeldN (mG k c).nodes p k:=by
 have h:=m_live (c:=c) hp p (by omega)
 rw [show k+c+p-p=k+1 by omega] at h
 have hn:=mG_at (k:=k) (c:=c) (i:=k) (by omega)
 have e:=mN_call (k:=k) (c:=c) (i:=k) (Nat.le_refl _) (by omega) ((k+1:Nat):Int)
 refine ⟨_,hn,by rw [e];exact .inl rfl,⟨_,hn,k+1,by rw [mN_next];simp,h⟩,?_⟩
 rw [e]
 show (p:Int) ∉ addL [] [(-1:Int)]
 simp [addL,add1]
theorem iv_held {ns:List Nd} {ps l:List Int} {p:Int} {t:Nat} (h:HeldN ns p (atL l t)):∀ m,t<m→(ivK ns ps l p m).h=true
 | 0,hm=>by omega
 | m+1,hm=>by
  by_cases hw:WorkP ns ps l p m
  ·rw [ivK_yes hw]
   by_cases e:m=t
   ·subst e
    simp [h]
   ·simp [iv_held h m (by omega)]
  ·rw [ivK_no hw]
   by_cases e:m=t
   ·subst e
    exact absurd (.inl h.work) hw
   ·exact iv_held h m (by omega)
theorem m_line (h1:0<k) (h2:k≤40) (h3:c≤1):∀ i,i<2*k+c→(i:Int) ∈ lineG (mG k c)
 | 0,_=>by
  obtain ⟨r,h⟩:=(lineG_ok (mvalid h1 h2 h3) (List.mem_cons_self ..)).first
  rw [h]
  exact List.mem_cons_self ..
 | i+1,hi=>by
  refine (lineG_ok (mvalid h1 h2 h3) (List.mem_cons_self ..)).clo i (m_line h1 h2 h3 i (by omega)) _ ?_
  rw [nxt_at (mG_at (by omega)),mN_next]
  simp
theorem m_pos (h1:0<k) (h2:k≤40) (h3:c≤1):∃ t,t<(lineG (mG k c)).length∧atL (lineG (mG k c)) t=k:=by
 obtain ⟨t,ht,e⟩:=List.mem_iff_getElem.1 (m_line h1 h2 h3 k (by omega))
 refine ⟨t,ht,?_⟩
 unfold atL
 rw [List.getD_eq_getElem?_getD,List.getElem?_eq_getElem ht,e]
 rfl
theorem m_span (h1:0<k) (h2:k≤40) (h3:c≤1):∃ t:Nat,∀ q,q<k→∃ i,i<(spansG (mG k c)).length∧(spF (mG k c) i).p=(q:Int)∧(spF (mG k c) i).f≤t∧(t:Int)≤(spF (mG k c) i).t∧(c=1→(spF (mG k c) i).h=true):=by
 obtain ⟨t,ht,e⟩:=m_pos (c:=c) h1 h2 h3
 refine ⟨t,fun q hq=>?_⟩
 have hw:WorkP (mG k c).nodes (mG k c).params (lineG (mG k c)) (q:Int) t:=.inl (.inl (by rw [e];exact m_live0 hq))
 rcases ivK_ok (mG k c).nodes (mG k c).params (lineG (mG k c)) (q:Int) (lineG (mG k c)).length with ⟨_,hn⟩ | ⟨f0,_,_,f3⟩
 ·exact absurd hw (hn t ht)
 ·obtain ⟨f4,f5⟩:=f3 t ht hw
  have hm:ivK (mG k c).nodes (mG k c).params (lineG (mG k c)) (q:Int) (lineG (mG k c)).length ∈ spansG (mG k c) :=
   spansL_mem.2 ⟨q,by show q<(List.replicate k (0:Int)).length;rw [List.length_replicate];exact hq,rfl,f0⟩
  obtain ⟨i,hi,e2⟩:=List.mem_iff_getElem.1 hm
  have hF:spF (mG k c) i=ivK (mG k c).nodes (mG k c).params (lineG (mG k c)) (q:Int) (lineG (mG k c)).length:=by
   unfold spF
   rw [List.getD_eq_getElem?_getD,List.getElem?_eq_getElem hi,e2];rfl
  rw [← hF] at f4 f5
  exact ⟨i,hi,by rw [hF,ivK_p],f4,f5,fun hc=>by rw [hF];exact iv_held (by rw [e];exact m_held hq hc) _ ht⟩
theorem m_kd (k c q:Nat):kdL (mG k c).kinds q=0:=by
 show ((List.replicate k (0:Int)).getD q 0).toNat=0
 rw [List.getD_eq_getElem?_getD,List.getElem?_replicate]
 split <;> rfl
structure ManyI (k c:Nat) (l:Nat→Int):Prop where
 dom:∀ q,q<k→0≤l q∧(l q≤11∨16≤l q)∧l q<1000∧(c=1→6≤l q)∧(k≤6→l q<12)
 two:∀ q r,q<k→r<k→q≠r→l q≠l r
theorem many_asg (h1:0<k) (h2:k≤40) (h3:c≤1):ManyI k c (asgG (mG k c)):=by
 have hv:=mvalid h1 h2 h3
 have hR:=asg_right hv (List.mem_cons_self ..)
 obtain ⟨t,hs⟩:=m_span (c:=c) h1 h2 h3
 refine ⟨fun q hq=>?_,fun q r hq hr hne e=>?_⟩
 ·obtain ⟨i,hi,e,f1,f2,f3⟩:=hs q hq
  obtain ⟨d1,d2,d3,d4⟩:=hR.dom i hi
  rw [e,Int.toNat_natCast] at d1 d2 d3 d4
  have hl:(mG k c).kinds.length=k:=List.length_replicate
  refine ⟨d1,d2,by omega,fun hc=>(d4 (f3 hc)).1,fun h6=>asg_room hv (List.mem_cons_self ..) ⟨fun x hx=>?_,fun j hj _=>?_⟩ q⟩
  ·rw [cntF_filter]
   have ha:=List.length_filter_le (fun a=>decide ((spF (mG k c) a).f≤(x:Int)∧(x:Int)≤(spF (mG k c) a).t)) (List.range (spansG (mG k c)).length)
   rw [List.length_range] at ha
   have:=spG_len (mG k c)
   omega
  ·rw [m_kd];decide
 ·obtain ⟨i,hi,ei,f1,f2,_⟩:=hs q hq
  obtain ⟨j,hj,ej,g1,g2,_⟩:=hs r hr
  have hij:i≠j:=fun e2=>by rw [e2,ej] at ei;omega
  have:=(hR.two i j hi hj hij (by rw [ei,ej];simpa using e)).1
  exact this ⟨by omega,by omega⟩
end
open Go.ChangeShapes Go.WideShapes Go.ChangeAt Go.RowKit
theorem AsPost.ok {gs:List Gr} {g:Gr} {k:Nat} {w w':World} {e:Ending} (h:AsPost gs k w e w') (hv:valid gs false) (hg:gs[k]?=some g) :
  Below w.heap.size w w'∧∃ b,e=.returned (.tuple #[.slice (some ⟨b,0,none⟩) g.kinds.length g.kinds.length,.int .i64 0])∧w.heap.size≤b∧Blk w' b 3 (rowA g.kinds.length fun q=>.int .i64 (asgG g q)):=by
 obtain ⟨hb,A,n,rfl,_,h0⟩:=h
 have hz:chkL gs k=0:=chk_ok hv (List.getElem?_eq_some_iff.1 hg).1
 obtain ⟨g2,b,h1,rfl,h2,rfl,h3⟩:=h0 hz
 rw [Int.toNat_natCast,hg] at h1
 injection h1 with h1
 subst h1
 exact ⟨hb,b,by rw [hz],h2,h3⟩
theorem AsPost.bad {gs:List Gr} {f z:Int} {w w':World} {e:Ending} (h:AsPost gs f w e w') (hz:chkL gs f=z) (h0:z≠0):Below w.heap.size w w'∧e=.returned (.tuple #[.slice none 0 0,.int .i64 z]):=by
 obtain ⟨hb,A,n,rfl,h1,_⟩:=h
 obtain ⟨rfl,rfl⟩:=h1 (by rw [hz];exact h0)
 exact ⟨hb,by rw [hz]⟩
theorem blk_readsO {w:World} {g n size B:Nat} {t:TypeId} {cs:Array Value} (h:Blk w g t cs) (hs:cs.size=n*size) (hB:g<B):Reads w B size (some ⟨g,0,none⟩) n cs.toList :=
 ⟨by simpa using hs,fun _=>⟨_,rfl,hB,fun j u hj=>by
  have ea:(⟨g,0,none⟩:Addr).add j=⟨g,j,none⟩:=by simp [Addr.add];exact Eq.symm
  rw [ea,h.cell]
  simpa using hj⟩⟩
def jn0:Nd:=⟨1,0,0,0,0,0,0,0,0,[],1,0⟩
def jn1:Nd:=⟨17,0,0,0,0,0,0,0,0,[],2,0⟩
def jn2:Nd:=⟨12,0,0,0,-1,0,0,0,0,[],0,0⟩
def jgr:Gr:=⟨[],[0],0,[],false,-1,[jn0,jn1,jn2],0⟩
def jrg (z:Nat):RG:=⟨jgr,none,0,some ⟨z,0,none⟩,1,none,0,some ⟨z+1,0,none⟩,3,[⟨jn0,none,0⟩,⟨jn1,none,0⟩,⟨jn2,none,0⟩]⟩
theorem jvalid:valid [jgr] false:=by decide +kernel
theorem jwfn (n:Nd) (h:n ∈ [jn0,jn1,jn2]):WfN n:=by
 simp at h
 rcases h with rfl | rfl | rfl <;> exact ⟨by decide,by decide,by decide,by decide,⟨by decide,by decide⟩,⟨by decide,by decide⟩,⟨by decide,by decide⟩,⟨by decide,by decide⟩,⟨by decide,by decide⟩,⟨by decide,by decide⟩,by decide,by decide,(fun x h=>by cases h),⟨by decide,by decide⟩,⟨by decide,by decide⟩,by decide⟩
theorem jwfg:WfG jgr:=⟨(fun x h=>by cases h),(fun x h=>by simp [jgr] at h;subst h;exact ⟨by decide,by decide⟩),⟨by decide,by decide⟩,(fun x h=>by cases h),⟨by decide,by decide⟩,(fun i hi=>jwfn i hi),⟨by decide,by decide⟩,by decide,by decide,by decide,by decide⟩
def jcK:Array Value:=#[.int .u8 0]
def jcN:Array Value:=#[.int .u8 1,.int .u8 0,.int .i64 0,.int .i64 0,.int .i64 0,.int .i64 0,.int .i64 0,.int .i64 0,.int .u64 0,.slice none 0 0,.int .i64 1,.int .i64 0,.int .u8 17,.int .u8 0,.int .i64 0,.int .i64 0,.int .i64 0,.int .i64 0,.int .i64 0,.int .i64 0,.int .u64 0,.slice none 0 0,.int .i64 2,.int .i64 0,.int .u8 12,.int .u8 0,.int .i64 0,.int .i64 0,.int .i64 (-1),.int .i64 0,.int .i64 0,.int .i64 0,.int .u64 0,.slice none 0 0,.int .i64 0,.int .i64 0]
def jcG (z:Nat):Array Value:=#[.slice none 0 0,.slice (some ⟨z,0,none⟩) 1 1,.int .i64 0,.slice none 0 0,.bool false,.int .i64 (-1),.slice (some ⟨z+1,0,none⟩) 3 3,.int .i64 0]
theorem jrd_ {W:World} {z:Nat} (hK:Blk W z 64 jcK) (hN:Blk W (z+1) 60 jcN) (hG:Blk W (z+2) 38 (jcG z)):RdP W (z+3) (some ⟨z+2,0,none⟩) 1 [jrg z]:=by
 refine ⟨blk_readsO (size:=8) hG rfl (by omega),rfl,fun r hr=>?_,fun r hr=>?_,by omega⟩
 ·obtain rfl:r=jrg z:=by simpa using hr
  refine ⟨Reads.none_,blk_readsO (size:=1) (n:=1) hK rfl (by omega),Reads.none_,⟨blk_readsO (size:=12) (n:=3) hN rfl (by omega),rfl,fun i hi=>?_,fun i hi=>?_⟩,rfl,Nat.le_refl _⟩
  ·simp [jrg] at hi
   rcases hi with rfl | rfl | rfl <;> exact ⟨Reads.none_,Nat.le_refl _⟩
  ·simp [jrg] at hi
   rcases hi with rfl | rfl | rfl
   ·exact jwfn _ (by simp)
   ·exact jwfn _ (by simp)
   ·exact jwfn _ (by simp)
 ·obtain rfl:r=jrg z:=by simpa using hr
  exact jwfg
theorem jline:lineG jgr=[0,1,2]:=by decide +kernel
theorem jw0:WorkP jgr.nodes jgr.params [0,1,2] (0:Int) 0:=.inl (.inr ⟨jn0,rfl,by decide⟩)
theorem jw1:WorkP jgr.nodes jgr.params [0,1,2] (0:Int) 1:=.inl (.inl (.here (n:=jn1) rfl (by decide)))
theorem jw2:¬ WorkP jgr.nodes jgr.params [0,1,2] (0:Int) 2:=by
 rintro (h | h)
 ·rcases h with h | ⟨n,h,h2⟩
  ·cases h with
   | here h hr =>
    obtain rfl:jn2=_:=by simpa [jgr,atL] using h
    exact absurd hr (by decide)
   | next h _ hj _ =>
    obtain rfl:jn2=_:=by simpa [jgr,atL] using h
    exact absurd hj (by simp [nextsOf,jn2])
  ·obtain rfl:jn2=_:=by simpa [jgr,atL] using h
   exact absurd h2 (by decide)
 ·exact absurd h.1 (by decide)
theorem jh (i:Nat):¬ HeldN jgr.nodes (0:Int) i:=by
 rintro ⟨n,h,h2,_⟩
 have hm:=List.mem_of_getElem? h
 simp [jgr] at hm
 rcases hm with rfl | rfl | rfl <;> simp [jn0,jn1,jn2] at h2
theorem jspans:spansG jgr=[⟨0,0,1,false⟩]:=by
 unfold spansG
 rw [jline]
 show spansL jgr.nodes jgr.params [0,1,2] 1=_
 rw [spansL_succ]
 have e:ivK jgr.nodes jgr.params [0,1,2] ((0:Nat):Int) ([0,1,2]:List Int).length=⟨0,0,1,false⟩:=by
  show ivK jgr.nodes jgr.params [0,1,2] (0:Int) 3=_
  rw [ivK_no jw2,ivK_yes jw1,ivK_yes jw0]
  simp [jh,ivK]
 rw [e]
 rfl
theorem jasg:asgG jgr 0=0:=by
 unfold asgG spS spF
 rw [jspans]
 rfl
theorem jfirst_any (w:World) (hT:TzTab w):Calls Tryd.prog 13 #[] w fun e w'=>e=.returned (.bool true)∧Below w.heap.size w w':=by
 obtain ⟨W,hW⟩:∃ W,W=((((w.alloc (.cells jcK 64)).alloc (.cells jcN 60)).alloc (.cells (jcG w.heap.size) 38)).alloc (.cells #[.slice (some ⟨w.heap.size+1+1,0,none⟩) 1 1] 24)):=⟨_,rfl⟩
 have hz:W.heap.size=w.heap.size+4:=by rw [hW];simp
 have hbw:Below w.heap.size w W:=by
  rw [hW]
  exact ((((Below.refl _ _).alloc (Nat.le_refl _) _).alloc (by simp) _).alloc (by simp;omega) _).alloc (by simp;omega) _
 have b0:Blk W w.heap.size 64 jcK:=by
  rw [hW]
  exact (((Blk.new w _ _).alloc _).alloc _).alloc _
 have b1:Blk W (w.heap.size+1) 60 jcN:=by
  have h:=Blk.new (w.alloc (.cells jcK 64)) 60 jcN
  rw [show (w.alloc (.cells jcK 64)).heap.size=w.heap.size+1 by simp] at h
  rw [hW]
  exact (h.alloc _).alloc _
 have b2:Blk W (w.heap.size+2) 38 (jcG w.heap.size):=by
  have h:=Blk.new ((w.alloc (.cells jcK 64)).alloc (.cells jcN 60)) 38 (jcG w.heap.size)
  rw [show ((w.alloc (.cells jcK 64)).alloc (.cells jcN 60)).heap.size=w.heap.size+2 by simp] at h
  rw [hW]
  exact h.alloc _
 have b3:Blk W (w.heap.size+1+1+1) 24 #[.slice (some ⟨w.heap.size+1+1,0,none⟩) 1 1]:=by
  have h:=Blk.new (((w.alloc (.cells jcK 64)).alloc (.cells jcN 60)).alloc (.cells (jcG w.heap.size) 38)) 24 #[.slice (some ⟨w.heap.size+1+1,0,none⟩) 1 1]
  rw [show (((w.alloc (.cells jcK 64)).alloc (.cells jcN 60)).alloc (.cells (jcG w.heap.size) 38)).heap.size=w.heap.size+1+1+1 by simp] at h
  rw [hW]
  exact h
 have HRD:=Lib.hid (jrd_ b0 b1 b2)
 have HB3:=Lib.hid b3
 have HBW:=Lib.hid hbw
 have HZ:=Lib.hid hz
 have HT:=Lib.hid hT
 have HAS:=Lib.hid (asg_any (w.heap.size+3) (some ⟨w.heap.size+1+1,0,none⟩) 1 1 [jrg w.heap.size] 0 W HRD.out (by omega) (HT.out.below HBW.out))
 have z0:W.cell? ⟨w.heap.size+1+1+1,0,none⟩=some (.slice (some ⟨w.heap.size+1+1,0,none⟩) 1 1):=b3.cell 0
 clear b0 b1 b2 b3 hbw hz hT
 go_enter Tryd.func13,Tryd.ntmps13
 go_upto_region 2 with fail
 unfold jcK jcN jcG at hW
 rw [← hW]
 clear hW
 obtain ⟨p2,hp2⟩:∃ p,p=w.heap.size+1+1:=⟨_,rfl⟩
 obtain ⟨p3,hp3⟩:∃ p,p=p2+1:=⟨_,rfl⟩
 rw [← hp2] at HAS HB3 z0 ⊢
 rw [← hp3] at HB3 z0 ⊢
 clear hp2 hp3
 go_wp2_with (first
  | (go_at_call 14;refine HAS.out.mono ?_;rintro e w2 hl;obtain ⟨hb2,g2,rfl,hg2,hk2⟩:=AsPost.ok (k:=0) (g:=jgr) hl jvalid rfl;rw [show jgr.kinds.length=1 from rfl] at hk2 ⊢;have y0:w2.cell? ⟨g2,0,none⟩=some (.int .i64 0):=(by have h:=hk2.cell 0;rw [rowA_at _ (show 0<1 by decide),jasg] at h;exact h);have HB2:=Lib.hid hb2;clear hl hb2 hg2 hk2)
  | go_in)
 first | go_ret | go_end0
 exact ⟨rfl,HBW.out.trans (HB2.out.mono (by rw [HZ.out];omega))⟩
def mrn (n:Nd):RN:=⟨n,none,0⟩
theorem own_setM {w:World} {base size n c g i:Nat} {e:TypeId} {xs:List Value} {u:Value} (h:w.ownsRow base e size (.slice (some ⟨g,0,none⟩) n c) n xs):(w.setCell ⟨g,i,none⟩ u).ownsRow base e size (.slice (some ⟨g,0,none⟩) n c) n (xs.set i u):=by
 obtain ⟨h1,h2⟩:=h
 refine ⟨by rw [List.length_set];exact h1,?_⟩
 rcases h2 with ⟨h2,_⟩ | ⟨g',cap,cur,he,hg,hb,hn,hm,hc,ht⟩
 ·cases h2
 ·injection he with he hc1 hc2
  injection he with he
  injection he with he
  subst he hc2
  refine .inr ⟨g,c,cur.setIfInBounds i u,rfl,hg,Blk.set_ (t:=e) (cs:=cur) hb i u,hn,hm,by simpa using hc,?_⟩
  rw [← ht]
  simp [List.take_set]
theorem own_atM {w:World} {base size n c i:Nat} {e:TypeId} {A:Option Addr} {xs:List Value} {u:Value} (h:w.ownsRow base e size (.slice A n c) n xs) (hu:xs[i]?=some u):∃ g,A=some ⟨g,0,none⟩∧base≤g∧g<w.heap.size∧w.cell? ⟨g,i,none⟩=some u∧w.frozen? ⟨g,i,none⟩=false:=by
 have hl:=(List.getElem?_eq_some_iff.1 hu).1
 rcases h.2 with ⟨h2,h3⟩ | ⟨g,cap,cur,he,hg,hb,hn,hm,hc,ht⟩
 ·exfalso
  have:=h.1
  rw [h3,Nat.zero_mul] at this
  omega
 ·injection he with he
  have hB:Blk w g e cur:=hb
  refine ⟨g,he,hg,hB.lt,?_,hB.frozen i⟩
  rw [hB.cell]
  rw [← ht,List.getElem?_take] at hu
  split at hu
  ·rw [← Array.getElem?_toList];exact hu
  ·cases hu
theorem info_k8:(Tryd.prog.info? 64).map (fun i=>(i.zero,i.size,i.bytes))=some (some (.int .u8 0),1,1):=by kernel_rfl
theorem rnc_next {ns:List Nd} {k:Nat} {n:Nd} (h:ns[k]?=some n) (x:Int):(rnc (ns.map mrn)).set (k*12+10) (.int .i64 x)=rnc ((ns.set k { n with next:=x }).map mrn):=by
 induction ns generalizing k with
 | nil=>cases h
 | cons y ns ih =>
  cases k with
  | zero =>
   obtain rfl:y=n:=by simpa using h
   rfl
  | succ k =>
   show (rnOne (mrn y) ++ rnc (ns.map mrn)).set ((k+1)*12+10) _=rnOne (mrn y) ++ rnc ((ns.set k _).map mrn)
   rw [← ih (by simpa using h),List.set_append_right _ _ (by show 12≤_;omega)]
   congr 2
   show (k+1)*12+10-12=_
   omega
theorem mN_with (k c i:Nat) (x y:Int):{ mN k c i x with next:=y }=mN k c i y:=by
 unfold mN
 repeat' split
 all_goals rfl
structure MkI (W0:World) (z pf k j:Nat) (ns:List Nd) (A:Option Addr) (c:Nat) (wr:World):Prop where
 kd:Blk wr z 64 (madeCells #[.int .u8 0] k)
 gr:Blk wr pf 38 #[.slice none 0 0,.slice (some ⟨z,0,none⟩) k k,.int .i64 0,.slice none 0 0,.bool false,.int .i64 (-1),.slice A j c,.int .i64 0]
 own:wr.ownsRow (pf+1) 60 12 (.slice A j c) j (rnc (ns.map mrn))
 len:ns.length=j
 below:Below W0.heap.size W0 wr
 lz:W0.heap.size≤z
 lp:z<pf
theorem MkI.start (w:World) (k:Nat):MkI w w.heap.size (w.heap.size+1) k 0 [] none 0 ((w.alloc (.cells (madeCells #[.int .u8 0] k) 64)).alloc (.cells #[.slice none 0 0,.slice (some ⟨w.heap.size,0,none⟩) k k,.int .i64 0,.slice none 0 0,.bool false,.int .i64 (-1),.slice none 0 0,.int .i64 0] 38)):=by
 have h:=Blk.new (w.alloc (.cells (madeCells #[.int .u8 0] k) 64)) 38 #[.slice none 0 0,.slice (some ⟨w.heap.size,0,none⟩) k k,.int .i64 0,.slice none 0 0,.bool false,.int .i64 (-1),.slice none 0 0,.int .i64 0]
 rw [show (w.alloc (.cells (madeCells #[.int .u8 0] k) 64)).heap.size=w.heap.size+1 by simp] at h
 exact ⟨(Blk.new w _ _).alloc _,h,own_none _ _ _ _,rfl,((Below.refl _ _).alloc (Nat.le_refl _) _).alloc (by simp) _,Nat.le_refl _,by omega⟩
section
variable {W0 wr w':World} {z pf k j:Nat} {ns:List Nd} {A:Option Addr} {c:Nat} {o1:Obj} {v':Value}
theorem MkI.drew (h:MkI W0 z pf k j ns A c wr):MkI W0 z pf k j ns A c wr.drew:=⟨h.kd.drew,h.gr.drew,h.own,h.len,h.below.drew,h.lz,h.lp⟩
theorem MkI.push (h:MkI W0 z pf k j ns A c wr) (n:Nd) (hown:w'.ownsRow (pf+1) 60 12 v' (j+1) (rnc (ns.map mrn) ++ rnOne (mrn n))) (hg:(wr.alloc o1).grownBy w' (Value.slice A j c).ownBlock) :
  ∃ A' c',v'=.slice A' (j+1) c'∧w'.frozen? ⟨pf,6,none⟩=false∧(∃ y,w'.cell? ⟨pf,6,none⟩=some y)∧Hid (MkI W0 z pf k (j+1) (ns ++ [n]) A' c' (w'.setCell ⟨pf,6,none⟩ v')):=by
 obtain ⟨A',c',rfl⟩:=own_slice hown
 have ho:=own_alloc h.own o1
 have hk:=blk_grown (h.kd.alloc o1) ho hg (by decide)
 have hr:=blk_grown (h.gr.alloc o1) ho hg (by decide)
 have hz:=h.below.size
 have lz:=h.lz
 have lp:=h.lp
 have hpf:=h.gr.lt
 have hb:Below W0.heap.size W0 w':=(h.below.alloc hz o1).grown hg (by simp;omega) fun g he=>by have:=(own_block_le ho he).1;omega
 refine ⟨A',c',rfl,hr.frozen 6,⟨_,hr.cell 6⟩,Lib.hid ⟨hk.far (p:=⟨pf,6,none⟩) (by show z≠pf;omega) _,hr.set_ 6 (.slice A' (j+1) c'),?_,by rw [List.length_append,h.len];rfl,hb.setCell (p:=⟨pf,6,none⟩) (by show W0.heap.size≤pf;omega) _,lz,lp⟩⟩
 rw [List.map_append,rnc_append]
 have h1:=own_far hown hr (by decide) 6 (.slice A' (j+1) c')
 simpa [rnc] using h1
theorem MkI.next_ {t:Nat} {n:Nd} (h:MkI W0 z pf k j ns A c wr) (hn:ns[t]?=some n):∃ g,A=some ⟨g,0,none⟩∧wr.frozen? ⟨g,t*12+10,none⟩=false∧(∃ y,wr.cell? ⟨g,t*12+10,none⟩=some y) ∧
  Hid (∀ x:Int,MkI W0 z pf k j (ns.set t { n with next:=x }) A c (wr.setCell ⟨g,t*12+10,none⟩ (.int .i64 x))):=by
 have hc:=(rnc_at (show (ns.map mrn)[t]?=some (mrn n) by rw [List.getElem?_map,hn];rfl)).2.2.2.2.2.2.2.2.2.2.1
 obtain ⟨g,rfl,hg,hlt,hcell,hf⟩:=own_atM h.own hc
 have lz:=h.lz
 have lp:=h.lp
 refine ⟨g,rfl,hf,⟨_,hcell⟩,Lib.hid fun x=>?_⟩
 have h1:=own_setM (i:=t*12+10) (u:=.int .i64 x) h.own
 rw [rnc_next hn] at h1
 exact ⟨h.kd.far (p:=⟨g,t*12+10,none⟩) (by show z≠g;omega) _,h.gr.far (p:=⟨g,t*12+10,none⟩) (by show pf≠g;omega) _,h1,by rw [List.length_set];exact h.len,h.below.setCell (p:=⟨g,t*12+10,none⟩) (by show W0.heap.size≤g;omega) _,lz,lp⟩
end
theorem mwfn {n:Nd} (h:n=mRet∨∃ k c i x,n=mN k c i x∧k≤40∧i≤100∧0≤x∧x≤100):WfN n:=by
 rcases h with rfl | ⟨k,c,i,x,rfl,hk,hi,hx,hx1⟩
 ·exact ⟨by decide,by decide,by decide,by decide,⟨by decide,by decide⟩,⟨by decide,by decide⟩,⟨by decide,by decide⟩,⟨by decide,by decide⟩,⟨by decide,by decide⟩,⟨by decide,by decide⟩,by decide,by decide,(fun x h=>by cases h),⟨by decide,by decide⟩,⟨by decide,by decide⟩,by decide⟩
 ·unfold mN
  repeat' split
  all_goals constructor
  all_goals first | (intro y hy;cases hy;done) | (unfold I64;dsimp only;omega) | (dsimp only;omega) | exact Nat.zero_le _ | (simp;done)
theorem mwfg {k c:Nat} (h1:0<k) (h2:k≤40) (h3:c≤1):WfG (mG k c):=by
 have z0:I64 0:=⟨by decide,by decide⟩
 have z1:I64 (-1):=⟨by decide,by decide⟩
 refine ⟨(fun x h=>by cases h),(fun x h=>?_),z0,(fun x h=>by cases h),z1,(fun i hi=>?_),z0,show ([]:List Int).length*8≤140737488351232 by decide,?_,show ([]:List Int).length*8≤140737488351232 by decide,by rw [mG_len];omega⟩
 ·rw [(List.mem_replicate.1 (show x ∈ List.replicate k (0:Int) from h)).2];exact ⟨by decide,by decide⟩
 ·rcases List.mem_append.1 (show i ∈ mS k c (2*k+c) (2*k+c) ++ [mRet] from hi) with h | h
  ·obtain ⟨j,hj,rfl⟩:=List.mem_map.1 h
   have hj':=List.mem_range.1 hj
   refine mwfn (.inr ⟨k,c,j,_,rfl,h2,by omega,?_,?_⟩)
   ·unfold mX;split <;> omega
   ·unfold mX;split <;> omega
  ·exact mwfn (.inl (List.mem_singleton.1 h))
 ·show (List.replicate k (0:Int)).length≤_
  rw [List.length_replicate];omega
theorem mwfh:WfG mH:=by
 have z0:I64 0:=⟨by decide,by decide⟩
 have z1:I64 (-1):=⟨by decide,by decide⟩
 refine ⟨(fun x h=>by cases h),(fun x h=>by cases h),z0,(fun x h=>by cases h),z1,(fun i hi=>mwfn (.inl (List.mem_singleton.1 hi))),z0,show ([]:List Int).length*8≤140737488351232 by decide,show ([]:List Int).length≤140737488351232 by decide,show ([]:List Int).length*8≤140737488351232 by decide,show ([mRet]:List Nd).length*104≤140737488351232 by decide⟩
theorem made_u8 (k:Nat):(madeCells #[.int .u8 0] k).toList=u8c (List.replicate k 0):=by
 apply List.ext_getElem?
 intro i
 unfold u8c
 rw [Array.getElem?_toList,List.getElem?_map,List.getElem?_replicate]
 by_cases h:i<k
 ·simp [madeCells,h,Nat.mod_one]
 ·simp [madeCells,h]
def mrgG (k c z:Nat) (A:Option Addr) (cp:Nat):RG:=⟨mG k c,none,0,some ⟨z,0,none⟩,k,none,0,A,cp,(mG k c).nodes.map mrn⟩
def mrgH (p:Nat):RG:=⟨mH,none,0,none,0,none,0,some ⟨p,0,none⟩,1,[mrn mRet]⟩
theorem m_rd {W0 wr W:World} {z pf k c p:Nat} {A:Option Addr} {cp:Nat} (h1:0<k) (h2:k≤40) (h3:c≤1) (h:MkI W0 z pf k (2*k+c+1) (mG k c).nodes A cp wr) (hb:Below wr.heap.size wr W) (hp:wr.heap.size≤p)
  (hN:Blk W p 60 #[.int .u8 12,.int .u8 0,.int .i64 0,.int .i64 0,.int .i64 (-1),.int .i64 0,.int .i64 0,.int .i64 0,.int .u64 0,.slice none 0 0,.int .i64 0,.int .i64 0])
  (hG:Blk W (p+1) 38 #[.slice none 0 0,.slice (some ⟨z,0,none⟩) k k,.int .i64 0,.slice none 0 0,.bool false,.int .i64 (-1),.slice A (2*k+c+1) cp,.int .i64 0,.slice none 0 0,.slice none 0 0,.int .i64 0,.slice none 0 0,.bool false,.int .i64 (-1),.slice (some ⟨p,0,none⟩) 1 1,.int .i64 0]) :
  RdP W (p+2) (some ⟨p+1,0,none⟩) 2 [mrgG k c z A cp,mrgH p]:=by
 have hl:=mG_len k c
 have hk:(mG k c).kinds.length=k:=List.length_replicate
 have hall:∀ i ∈ (mG k c).nodes.map mrn,i.ao=none∧i.ac=0∧i.nd.args=[]∧WfN i.nd:=by
  intro i hi
  obtain ⟨n,hn,rfl⟩:=List.mem_map.1 hi
  refine ⟨rfl,rfl,?_,(mwfg h1 h2 h3).nodes n hn⟩
  rcases List.mem_append.1 (show n ∈ mS k c (2*k+c) (2*k+c) ++ [mRet] from hn) with h | h
  ·obtain ⟨j,_,rfl⟩:=List.mem_map.1 h
   show (mN k c j _).args=[]
   unfold mN
   repeat' split
   all_goals rfl
  ·rw [List.mem_singleton.1 h];rfl
 refine ⟨?_,rfl,fun r hr=>?_,fun r hr=>?_,by omega⟩
 ·have e1:=blk_readsO (size:=8) (n:=2) (B:=p+2) hG rfl (by omega)
  show Reads W (p+2) 8 _ 2 (rgOne (mrgG k c z A cp) ++ (rgOne (mrgH p) ++ []))
  unfold rgOne mrgG
  dsimp only
  rw [hl,hk]
  exact e1
 ·simp only [List.mem_cons,List.not_mem_nil,or_false] at hr
  rcases hr with rfl | rfl
  ·refine ⟨Reads.none_,?_,Reads.none_,⟨?_,List.length_map ..,fun i hi=>?_,fun i hi=>(hall i hi).2.2.2⟩,?_,Nat.le_refl _⟩
   ·have e1:=blk_readsO (size:=1) (n:=k) (B:=p+2) (h.kd.below hb h.kd.lt) (by simp [size_madeCells]) (by have:=h.kd.lt;omega)
    rw [made_u8] at e1
    show Reads W (p+2) 1 _ (mG k c).kinds.length (u8c (List.replicate k 0))
    rw [hk]
    exact e1
   ·have e1:=((Reads.of_own h.own).below hb).more (B':=p+2) (by omega)
    show Reads W (p+2) 12 A (mG k c).nodes.length _
    rw [hl]
    exact e1
   ·obtain ⟨a1,a2,a3,_⟩:=hall i hi
    refine ⟨?_,by rw [a3];exact Nat.zero_le _⟩
    rw [a1,a3]
    exact Reads.none_
   ·show nds ((mG k c).nodes.map mrn)=(mG k c).nodes
    unfold nds
    rw [List.map_map]
    exact List.map_id _
  ·refine ⟨Reads.none_,Reads.none_,Reads.none_,⟨blk_readsO (size:=12) (n:=1) hN rfl (by omega),rfl,fun i hi=>?_,fun i hi=>?_⟩,rfl,Nat.le_refl _⟩
   ·obtain rfl:i=mrn mRet:=List.mem_singleton.1 hi
    exact ⟨Reads.none_,Nat.le_refl _⟩
   ·obtain rfl:i=mrn mRet:=List.mem_singleton.1 hi
    exact mwfn (.inl rfl)
 ·simp only [List.mem_cons,List.not_mem_nil,or_false] at hr
  rcases hr with rfl | rfl
  ·exact mwfg h1 h2 h3
  ·exact mwfh
end Go.Proofs.YtepkogfiojkcpaaDoor
