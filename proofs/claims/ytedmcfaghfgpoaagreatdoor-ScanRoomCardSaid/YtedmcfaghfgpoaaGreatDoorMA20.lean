/-
  Texts of one seat, one behind the other: JPl, JPm, JPn, JPq, ONx, OFrm.
-/
import Derived.Test.YtedmcfaghfgpoaaGreatDoorMA18
import Derived.Test.YtedmcfaghfgpoaaGreatDoorMA19
import Derived.Test.YtedmcfaghfgpoaaGreatDoorMA6
import Derived.Test.YtedmcfaghfgpoaaGreatDoorMA12
import Derived.Test.YtedmcfaghfgpoaaGreatDoorMA13

set_option linter.unusedVariables false
set_option linter.unusedSimpArgs false
set_option maxRecDepth 100000
set_option maxHeartbeats 51200000
namespace Go.Proofs.YtedmcfaghfgpoaaGreatDoor
theorem swU_at {us:List U3} {i j:Nat} (hi:i<us.length) (hj:j<us.length) (k:Nat):(swU us i j).getD k u0=if k=j then us.getD i u0 else if k=i then us.getD j u0 else us.getD k u0:=by
 unfold swU
 rw [getD_set (by rw [List.length_set];exact hj),getD_set hi]
def UPrm (n:Nat) (us vs:List U3):Prop:=Prm n (fun k=>us.getD k u0) (fun k=>vs.getD k u0)
theorem uprm_sw {us:List U3} {i j n:Nat} (hi:i<n) (hj:j<n) (hn:n≤us.length):UPrm n us (swU us i j):=by
 have h:=Prm.sw (m:=n) (fun k=>us.getD k u0) hi hj
 unfold UPrm
 have e:(fun k=>(swU us i j).getD k u0)=sw (fun k=>us.getD k u0) i j:=by
  funext k
  rw [swU_at (by omega) (by omega),sw_at]
 rw [e]
 exact h
theorem UPrm.refl (n:Nat) (us:List U3):UPrm n us us:=Prm.refl _ _
theorem UPrm.trans {n:Nat} {a b c:List U3} (h:UPrm n a b) (k:UPrm n b c):UPrm n a c:=Prm.trans h k
theorem upU_prm:∀ (f:Nat) (us:List U3) (j:Nat),j<us.length→UPrm us.length us (upU f us j)
 | 0,us,j,_=>UPrm.refl _ _
 | f+1,us,j,h=>by
  unfold upU
  split
  ·exact UPrm.refl _ _
  ·have h1:=uprm_sw (us:=us) (i:=(j-1) / 2) (j:=j) (n:=us.length) (by omega) h (Nat.le_refl _)
   have h2:=upU_prm f (swU us ((j-1) / 2) j) ((j-1) / 2) (by rw [swU_len];omega)
   rw [swU_len] at h2
   exact h1.trans h2
theorem chD_le (us:List U3) {i n:Nat} (h:¬ n≤2*i+1):i<chD us i n∧chD us i n<n:=by
 unfold chD
 split <;> omega
theorem downU_prm:∀ (f:Nat) (us:List U3) (i n:Nat),n≤us.length→UPrm n us (downU f us i n)∧∀ k,n≤k→(downU f us i n).getD k u0=us.getD k u0
 | 0,us,i,n,_=>⟨UPrm.refl _ _,fun _ _=>rfl⟩
 | f+1,us,i,n,h=>by
  unfold downU
  split
  ·exact ⟨UPrm.refl _ _,fun _ _=>rfl⟩
  ·rename_i hc
   split
   ·exact ⟨UPrm.refl _ _,fun _ _=>rfl⟩
   ·have hch:=chD_le us hc
    have h1:=uprm_sw (us:=us) (i:=i) (j:=chD us i n) (n:=n) (by omega) hch.2 h
    obtain ⟨h2,h3⟩:=downU_prm f (swU us i (chD us i n)) (chD us i n) n (by rw [swU_len];exact h)
    refine ⟨h1.trans h2,fun k hk=>?_⟩
    rw [h3 k hk,swU_at (by omega) (by omega),if_neg (by omega),if_neg (by omega)]
theorem popU_prm {us:List U3} {f:Nat} (h:us.length=f+1):UPrm (f+1) us (popU us)∧(popU us).getD f u0=us.getD 0 u0:=by
 unfold popU
 rw [h,show f+1-1=f from rfl]
 have h1:=uprm_sw (us:=us) (i:=0) (j:=f) (n:=f+1) (by omega) (by omega) (by omega)
 obtain ⟨h2,h3⟩:=downU_prm (f+1) (swU us 0 f) 0 f (by rw [swU_len];omega)
 have e:(downU (f+1) (swU us 0 f) 0 f).getD f u0=us.getD 0 u0:=by rw [h3 f (Nat.le_refl _),swU_at (by omega) (by omega),if_pos rfl]
 refine ⟨h1.trans ?_,e⟩
 obtain ⟨π,ρ,hp⟩:=h2
 refine ⟨fun k=>if k<f then π k else k,fun k=>if k<f then ρ k else k,fun k hk=>?_⟩
 by_cases hkf:k<f
 ·obtain ⟨a1,a2,a3,a4,a5⟩:=hp k hkf
  simp only [if_pos hkf,if_pos a1,if_pos a2]
  exact ⟨by omega,by omega,a3,a4,a5⟩
 ·have hke:k=f:=by omega
  subst hke
  simp only [if_neg hkf]
  exact ⟨hk,hk,trivial,trivial,h3 k (Nat.le_refl _)⟩

def DomF (fam:Int→Nat) (nx x:Int):Prop:=(fam x=0∧0≤x∧x<6)∨(fam x=1∧6≤x∧x<12)∨((fam x=2∨fam x=3)∧16≤x∧x<nx)
structure PI (fam:Int→Nat) (L:Nat→List Int) (nx:Int) (us:List U3):Prop where
 nd:∀ l,l<4→(L l).Nodup
 fl:∀ l,l<4→∀ x ∈ L l,fam x=l∧DomF fam nx x
 fu:∀ i,i<us.length→fam (us.getD i u0).b=(us.getD i u0).l∧DomF fam nx (us.getD i u0).b
 dis:∀ i,i<us.length→(us.getD i u0).b ∉ L (us.getD i u0).l
 inj:∀ i j,i<us.length→j<us.length→(us.getD i u0).b=(us.getD j u0).b→i=j
def InU (us:List U3) (u:U3):Prop:=∃ i,i<us.length∧us.getD i u0=u
section
variable {fam:Int→Nat} {L:Nat→List Int} {nx:Int} {us vs:List U3}
theorem PI.l4 (h:PI fam L nx us) {i:Nat} (hi:i<us.length):(us.getD i u0).l<4:=by
 obtain ⟨h1,h2⟩:=h.fu i hi
 rw [← h1]
 rcases h2 with ⟨e,_⟩ | ⟨e,_⟩ | ⟨e | e,_⟩ <;> rw [e] <;> omega
theorem PI.prm (h:PI fam L nx us) (hp:UPrm us.length us vs) (hl:vs.length=us.length):PI fam L nx vs:=by
 obtain ⟨π,ρ,hπ⟩:=hp
 refine ⟨h.nd,h.fl,fun i hi=>?_,fun i hi=>?_,fun i j hi hj e=>?_⟩
 ·obtain ⟨a1,_,_,_,a5⟩:=hπ i (by omega)
  simp only at a5
  rw [a5];exact h.fu _ a1
 ·obtain ⟨a1,_,_,_,a5⟩:=hπ i (by omega)
  simp only at a5
  rw [a5];exact h.dis _ a1
 ·obtain ⟨a1,_,_,a4,a5⟩:=hπ i (by omega)
  obtain ⟨b1,_,_,b4,b5⟩:=hπ j (by omega)
  simp only at a5 b5
  rw [a5,b5] at e
  have:=h.inj _ _ a1 b1 e
  rw [← a4,← b4,this]
theorem InU.prm (hp:UPrm us.length us vs) (hl:vs.length=us.length) (u:U3):InU us u↔InU vs u:=by
 obtain ⟨π,ρ,hπ⟩:=hp
 constructor
 ·rintro ⟨i,hi,e⟩
  obtain ⟨a1,a2,a3,a4,a5⟩:=hπ i hi
  obtain ⟨b1,b2,b3,b4,b5⟩:=hπ (ρ i) a2
  simp only at b5
  exact ⟨ρ i,by omega,by rw [b5,a3,e]⟩
 ·rintro ⟨i,hi,e⟩
  obtain ⟨a1,a2,a3,a4,a5⟩:=hπ i (by omega)
  simp only at a5
  exact ⟨π i,a1,by rw [← a5,e]⟩
theorem take_getD (vs:List U3) {f k:Nat} (h:k<f):(vs.take f).getD k u0=vs.getD k u0:=by
 rw [List.getD_eq_getElem?_getD,List.getElem?_take,if_pos h,← List.getD_eq_getElem?_getD]
theorem PI.pop (h:PI fam L nx us) {f:Nat} (hf:us.length=f+1):PI fam (upd L ((popU us).getD f u0).l (L ((popU us).getD f u0).l ++ [((popU us).getD f u0).b])) nx ((popU us).take f):=by
 have hl:(popU us).length=us.length:=popU_len us
 have h1:=h.prm (by rw [hf];exact (popU_prm hf).1) hl
 have ht:((popU us).take f).length=f:=by rw [List.length_take];omega
 have hfl:f<(popU us).length:=by omega
 have l4:=h1.l4 hfl
 have hu:=h1.fu f hfl
 have hd:=h1.dis f hfl
 refine ⟨fun l hl4=>?_,fun l hl4 x hx=>?_,fun i hi=>?_,fun i hi=>?_,fun i j hi hj e=>?_⟩
 ·by_cases e:l=((popU us).getD f u0).l
  ·rw [e,upd_at]
   refine List.nodup_append.2 ⟨h1.nd _ l4,by simp,fun a ha b hb=>?_⟩
   rw [List.mem_singleton] at hb
   rw [hb]
   exact fun e2=>hd (by rw [← e2];exact ha)
  ·rw [upd_ne e];exact h1.nd l hl4
 ·by_cases e:l=((popU us).getD f u0).l
  ·rw [e,upd_at] at hx
   rcases List.mem_append.1 hx with h2 | h2
   ·rw [e];exact h1.fl _ l4 x h2
   ·rw [List.mem_singleton] at h2
    rw [h2,e]
    exact hu
  ·rw [upd_ne e] at hx;exact h1.fl l hl4 x hx
 ·rw [ht] at hi
  rw [take_getD _ hi]
  exact h1.fu i (by omega)
 ·rw [ht] at hi
  rw [take_getD _ hi]
  by_cases e:((popU us).getD i u0).l=((popU us).getD f u0).l
  ·rw [e,upd_at]
   intro h2
   rcases List.mem_append.1 h2 with h3 | h3
   ·rw [← e] at h3;exact h1.dis i (by omega) h3
   ·rw [List.mem_singleton] at h3
    have:=h1.inj i f (by omega) hfl h3
    omega
  ·rw [upd_ne e];exact h1.dis i (by omega)
 ·rw [ht] at hi hj
  rw [take_getD _ hi,take_getD _ hj] at e
  exact h1.inj i j (by omega) (by omega) e
theorem endB_pi (p:Int):∀ (f:Nat) (L:Nat→List Int) (us:List U3),us.length=f→PI fam L nx us→PI fam (endB p f L us).1 nx (endB p f L us).2∧(∀ u,InU us u→InU (endB p f L us).2 u∨u.t<p)
 | 0,L,us,_,h=>⟨h,fun u hu=>.inl hu⟩
 | f+1,L,us,hf,h=>by
  unfold endB
  by_cases c:(us.getD 0 u0).t<p
  ·rw [if_pos c]
   have hl:(popU us).length=us.length:=popU_len us
   have ht:((popU us).take f).length=f:=by rw [List.length_take];omega
   obtain ⟨r1,r2⟩:=endB_pi p f _ _ ht (h.pop hf)
   refine ⟨r1,fun u hu=>?_⟩
   obtain ⟨i,hi,e⟩:=(InU.prm (by rw [hf];exact (popU_prm hf).1) hl u).1 hu
   by_cases hif:i<f
   ·exact r2 u ⟨i,by omega,by rw [take_getD _ hif];exact e⟩
   ·have:i=f:=by omega
    subst this
    right
    rw [← e,(popU_prm hf).2]
    exact c
  ·rw [if_neg c]
   exact ⟨h,fun u hu=>.inl hu⟩
end
section
variable {fam:Int→Nat} {L:Nat→List Int} {nx:Int} {us vs:List U3}
theorem app_getD (us:List U3) (u:U3) (k:Nat):(us ++ [u]).getD k u0=if k<us.length then us.getD k u0 else if k=us.length then u else u0:=by
 rw [List.getD_eq_getElem?_getD]
 by_cases h:k<us.length
 ·rw [if_pos h,List.getElem?_append_left h,← List.getD_eq_getElem?_getD]
 ·rw [if_neg h,List.getElem?_append_right (by omega)]
  by_cases e:k=us.length
  ·rw [if_pos e,e,Nat.sub_self];rfl
  ·rw [if_neg e,List.getElem?_eq_none (by simp;omega)];rfl
theorem last_split {l:List Int} {k:Nat} (h:l.length=k+1):l=l.take k ++ [l.getD k 0]:=by
 have h1:=List.take_append_drop k l
 have h2:l.drop k=[l.getD k 0]:=by
  rw [List.drop_eq_getElem_cons (by omega),List.drop_of_length_le (by omega),List.getD_eq_getElem?_getD,List.getElem?_eq_getElem (by omega)]
  rfl
 rw [← h2,h1]
theorem PI.takeL (h:PI fam L nx us) {i:Nat} (hi:i<4) {k:Nat} (hk:(L i).length=k+1) (t:Int) :
  PI fam (upd L i ((L i).take k)) nx (us ++ [⟨(L i).getD k 0,t,i⟩])∧fam ((L i).getD k 0)=i∧DomF fam nx ((L i).getD k 0)∧∀ j,j<us.length→(us.getD j u0).b≠(L i).getD k 0:=by
 have hs:=last_split hk
 have hmem:(L i).getD k 0 ∈ L i:=by
  rw [List.getD_eq_getElem?_getD,List.getElem?_eq_getElem (by omega)]
  exact List.getElem_mem _
 have hnd:=h.nd i hi
 rw [hs] at hnd
 obtain ⟨n1,n2,n3⟩:=List.nodup_append.1 hnd
 have hni:(L i).getD k 0 ∉ (L i).take k:=fun hm=>n3 _ hm _ (by simp) rfl
 obtain ⟨f1,f2⟩:=h.fl i hi _ hmem
 have hne:∀ j,j<us.length→(us.getD j u0).b≠(L i).getD k 0:=fun j hj e=>by
  have h1:=(h.fu j hj).1
  rw [e,f1] at h1
  have h2:=h.dis j hj
  rw [e,← h1] at h2
  exact h2 hmem
 have hlen:(us ++ [(⟨(L i).getD k 0,t,i⟩:U3)]).length=us.length+1:=by simp
 refine ⟨⟨fun l hl=>?_,fun l hl x hx=>?_,fun j hj=>?_,fun j hj=>?_,fun a b ha hb e=>?_⟩,f1,f2,hne⟩
 ·by_cases e:l=i
  ·rw [e,upd_at];exact n1
  ·rw [upd_ne e];exact h.nd l hl
 ·by_cases e:l=i
  ·rw [e,upd_at] at hx;rw [e];exact h.fl i hi x (List.mem_of_mem_take hx)
  ·rw [upd_ne e] at hx;exact h.fl l hl x hx
 ·rw [app_getD]
  by_cases c:j<us.length
  ·rw [if_pos c];exact h.fu j c
  ·rw [if_neg c,if_pos (by omega)];exact ⟨f1,f2⟩
 ·rw [app_getD]
  by_cases c:j<us.length
  ·rw [if_pos c]
   by_cases e:(us.getD j u0).l=i
   ·rw [e,upd_at]
    intro hm
    have:=h.dis j c
    rw [e] at this
    exact this (List.mem_of_mem_take hm)
   ·rw [upd_ne e];exact h.dis j c
  ·rw [if_neg c,if_pos (by omega)]
   show (L i).getD k 0 ∉ upd L i ((L i).take k) i
   rw [upd_at];exact hni
 ·rw [app_getD,app_getD] at e
  by_cases c:a<us.length
  ·rw [if_pos c] at e
   by_cases c2:b<us.length
   ·rw [if_pos c2] at e;exact h.inj a b c c2 e
   ·rw [if_neg c2,if_pos (by omega)] at e;exact absurd e (hne a c)
  ·rw [if_neg c,if_pos (by omega)] at e
   by_cases c2:b<us.length
   ·rw [if_pos c2] at e;exact absurd e.symm (hne b c2)
   ·omega
theorem PI.slot (h:PI fam L nx us) (hnx:16≤nx) {kd:Nat} (hk:kd<2) (h0:L (2+kd)=[]) :
  PI (fun y=>if y=nx then 2+kd else fam y) (upd L (2+kd) [nx]) (nx+1) us∧∀ x,DomF fam nx x→(if x=nx then 2+kd else fam x)=fam x∧DomF (fun y=>if y=nx then 2+kd else fam y) (nx+1) x:=by
 have hold:∀ x,DomF fam nx x→(if x=nx then 2+kd else fam x)=fam x∧DomF (fun y=>if y=nx then 2+kd else fam y) (nx+1) x:=fun x hx=>by
  have hne:x≠nx:=by
   rcases hx with ⟨_,h1,h2⟩ | ⟨_,h1,h2⟩ | ⟨_,h1,h2⟩ <;> omega
  refine ⟨if_neg hne,?_⟩
  unfold DomF at hx ⊢
  simp only [if_neg hne]
  rcases hx with ⟨h0,h1,h2⟩ | ⟨h0,h1,h2⟩ | ⟨h0,h1,h2⟩
  ·exact .inl ⟨h0,h1,h2⟩
  ·exact .inr (.inl ⟨h0,h1,h2⟩)
  ·exact .inr (.inr ⟨h0,h1,by omega⟩)
 refine ⟨⟨fun l hl=>?_,fun l hl x hx=>?_,fun i hi=>?_,fun i hi=>?_,h.inj⟩,hold⟩
 ·by_cases e:l=2+kd
  ·rw [e,upd_at];simp
  ·rw [upd_ne e];exact h.nd l hl
 ·by_cases e:l=2+kd
  ·rw [e,upd_at] at hx
   rw [List.mem_singleton] at hx
   rw [hx,e]
   refine ⟨if_pos rfl,.inr (.inr ⟨?_,hnx,by omega⟩)⟩
   simp only [if_true]
   omega
  ·rw [upd_ne e] at hx
   obtain ⟨h1,h2⟩:=h.fl l hl x hx
   have h3:=hold x h2
   exact ⟨by show (if x=nx then 2+kd else fam x)=l;rw [h3.1];exact h1,h3.2⟩
 ·obtain ⟨h1,h2⟩:=h.fu i hi
  have h3:=hold _ h2
  exact ⟨by show (if (us.getD i u0).b=nx then 2+kd else fam _)=_;rw [h3.1];exact h1,h3.2⟩
 ·by_cases e:(us.getD i u0).l=2+kd
  ·rw [e,upd_at,List.mem_singleton]
   obtain ⟨h1,h2⟩:=h.fu i hi
   rcases h2 with ⟨_,h3,h4⟩ | ⟨_,h3,h4⟩ | ⟨_,h3,h4⟩ <;> omega
  ·rw [upd_ne e];exact h.dis i hi
theorem lfN_I {held:Bool} {kd:Nat} {L:Nat→List Int} (h:lfN held kd (L 0).length (L 1).length (L (2+kd)).length=true):lfI held kd L=2+kd∧L (2+kd)=[]:=by
 unfold lfN at h
 simp at h
 exact ⟨h.1,h.2⟩
theorem PI.take_ (h:PI fam L nx us) (hnx:16≤nx) (held:Bool) {kd:Nat} (hk:kd<2) {k:Nat} (hkk:(lfL held kd L nx (lfI held kd L)).length=k+1) (t:Int) :
  ∃ fam',PI fam' (upd (lfL held kd L nx) (lfI held kd L) ((lfL held kd L nx (lfI held kd L)).take k)) (lfX held kd L nx) (tkU us ⟨(lfL held kd L nx (lfI held kd L)).getD k 0,t,lfI held kd L⟩)∧(∀ x,DomF fam nx x→fam' x=fam x∧DomF fam' (lfX held kd L nx) x) ∧
   fam' ((lfL held kd L nx (lfI held kd L)).getD k 0)=lfI held kd L∧DomF fam' (lfX held kd L nx) ((lfL held kd L nx (lfI held kd L)).getD k 0)∧(∀ j,j<us.length→(us.getD j u0).b≠(lfL held kd L nx (lfI held kd L)).getD k 0) ∧
   nx≤lfX held kd L nx∧(lfX held kd L nx=nx∨lfX held kd L nx=nx+1∧(lfL held kd L nx (lfI held kd L)).getD k 0=nx)∧∀ u,InU us u∨u=⟨(lfL held kd L nx (lfI held kd L)).getD k 0,t,lfI held kd L⟩→InU (tkU us ⟨(lfL held kd L nx (lfI held kd L)).getD k 0,t,lfI held kd L⟩) u:=by
 have hi:=lfI_lt (held:=held) (L:=L) hk
 have fin:∀ (b:Int) (i:Nat) (u:U3),InU us u∨u=⟨b,t,i⟩→InU (tkU us ⟨b,t,i⟩) u:=fun b i u hu=>by
  have hp:=upU_prm (us.length+1) (us ++ [(⟨b,t,i⟩:U3)]) us.length (by simp)
  refine (InU.prm hp (by rw [upU_len]) u).1 ?_
  rcases hu with ⟨j,hj,e⟩ | e
  ·exact ⟨j,by simp;omega,by rw [app_getD,if_pos hj];exact e⟩
  ·exact ⟨us.length,by simp,by rw [app_getD,if_neg (by omega),if_pos rfl];exact e.symm⟩
 have tk:∀ {fam:Int→Nat} {L:Nat→List Int} {nx:Int} {b:Int} {i:Nat},PI fam L nx (us ++ [⟨b,t,i⟩])→PI fam L nx (tkU us ⟨b,t,i⟩):=fun {fam} {L} {nx} {b} {i} h=>by
  have hp:=upU_prm (us.length+1) (us ++ [(⟨b,t,i⟩:U3)]) us.length (by simp)
  exact h.prm hp (by unfold tkU;rw [upU_len])
 by_cases c:lfN held kd (L 0).length (L 1).length (L (2+kd)).length=true
 ·have e1:lfL held kd L nx=upd L (2+kd) [nx]:=by unfold lfL;rw [if_pos c]
  have e2:lfX held kd L nx=nx+1:=by unfold lfX;rw [if_pos c]
  obtain ⟨e3,e4⟩:=lfN_I c
  obtain ⟨s1,s2⟩:=h.slot hnx hk e4
  rw [e1,e3] at hkk ⊢
  rw [e2]
  have e5:(upd L (2+kd) [nx] (2+kd)).getD k 0=nx:=by
   rw [upd_at] at hkk ⊢
   have:k=0:=by simpa using hkk.symm
   rw [this];rfl
  obtain ⟨t1,t2,t3,t4⟩:=s1.takeL (by omega) hkk t
  exact ⟨_,tk t1,s2,t2,t3,t4,by omega,.inr ⟨rfl,e5⟩,fin _ _⟩
 ·have e1:lfL held kd L nx=L:=by unfold lfL;rw [if_neg c]
  have e2:lfX held kd L nx=nx:=by unfold lfX;rw [if_neg c]
  rw [e1] at hkk ⊢
  rw [e2]
  obtain ⟨t1,t2,t3,t4⟩:=h.takeL hi hkk t
  exact ⟨fam,tk t1,fun x hx=>⟨rfl,hx⟩,t2,t3,t4,Int.le_refl _,.inl rfl,fin _ _⟩
end
def LstOk (kd:Nat→Nat) (s:Iv) (l:Nat):Prop:=(s.h=true→l≠0)∧(s.h=true→kd s.p.toNat=1→2≤l)∧(2≤l→l=2+kd s.p.toNat)
theorem lfT_lst (held:Bool) (kd n0 n1:Nat):(held=true→lfT held kd n0 n1≠0)∧(held=true→kd=1→2≤lfT held kd n0 n1)∧(2≤lfT held kd n0 n1→lfT held kd n0 n1=2+kd):=by
 unfold lfT
 by_cases c1:(held && kd == 1)=true
 ·rw [if_pos c1]
  exact ⟨fun _=>by omega,fun _ _=>by omega,fun _=>rfl⟩
 ·rw [if_neg c1]
  by_cases c2:(!held && decide (0<n0))=true
  ·rw [if_pos c2]
   have hf:held=false:=by cases held <;> simp at c2 ⊢
   exact ⟨fun h=>absurd (hf.symm.trans h) (by decide),fun h=>absurd (hf.symm.trans h) (by decide),fun h=>by omega⟩
  ·rw [if_neg c2]
   have hn:held=true→kd≠1:=fun h e=>c1 (by rw [h,e];rfl)
   by_cases c3:0<n1
   ·rw [if_pos c3]
    exact ⟨fun _=>by omega,fun h e=>absurd e (hn h),fun h=>by omega⟩
   ·rw [if_neg c3]
    exact ⟨fun _=>by omega,fun _ _=>by omega,fun _=>rfl⟩
theorem lfI_lst (kd:Nat→Nat) (s:Iv) (L:Nat→List Int):LstOk kd s (lfI s.h (kd s.p.toNat) L):=lfT_lst _ _ _ _
structure RI (kd:Nat→Nat) (S:Nat→Iv) (i:Nat) (st:ASt) (fam:Int→Nat):Prop where
 pi:PI fam st.L st.nx st.us
 nx:16≤st.nx∧st.nx≤16+i
 asg:∀ a,a<i→DomF fam st.nx (st.bd (S a).p.toNat)∧LstOk kd (S a) (fam (st.bd (S a).p.toNat))
 liv:∀ a,a<i→(∃ l,InU st.us ⟨st.bd (S a).p.toNat,(S a).t,l⟩)∨∃ c,c<i∧(S a).t<(S c).f
 ovl:∀ a b,a<b→b<i→st.bd (S a).p.toNat=st.bd (S b).p.toNat→(S a).t<(S b).f
 slot:∀ x:Int,16≤x→x<st.nx→∃ a,a<i∧st.bd (S a).p.toNat=x
 out:∀ q,(∀ a,a<i→(S a).p.toNat≠q)→st.bd q=-1
def fam0 (x:Int):Nat:=if x<6 then 0 else 1
theorem newL6 (l:Nat):newL 6 l=if l=0 then [5,4,3,2,1,0] else if l=1 then [11,10,9,8,7,6] else []:=by
 unfold newL
 split
 ·rfl
 ·split <;> rfl
theorem RI.start (kd:Nat→Nat) (S:Nat→Iv):RI kd S 0 as0 fam0:=by
 refine ⟨⟨fun l hl=>?_,fun l hl x hx=>?_,fun i hi=>?_,fun i hi=>?_,fun i j hi=>?_⟩,by simp [as0],fun a ha=>by omega,fun a ha=>by omega,fun a b _ hb=>by omega,fun x h1 h2=>?_,fun q _=>rfl⟩
 ·show (newL 6 l).Nodup
  rw [newL6]
  split
  ·decide
  ·split
   ·decide
   ·decide
 ·have hx':x ∈ newL 6 l:=hx
  rw [newL6] at hx'
  by_cases e0:l=0
  ·rw [if_pos e0] at hx'
   have:0≤x∧x<6:=by simp at hx';omega
   have e:fam0 x=0:=by unfold fam0;rw [if_pos (by omega)]
   exact ⟨by rw [e,e0],.inl ⟨e,this.1,this.2⟩⟩
  ·rw [if_neg e0] at hx'
   by_cases e1:l=1
   ·rw [if_pos e1] at hx'
    have:6≤x∧x<12:=by simp at hx';omega
    have e:fam0 x=1:=by unfold fam0;rw [if_neg (by omega)]
    exact ⟨by rw [e,e1],.inr (.inl ⟨e,this.1,this.2⟩)⟩
   ·rw [if_neg e1] at hx';cases hx'
 ·simp [as0] at hi
 ·simp [as0] at hi
 ·simp [as0] at hi
 ·simp [as0] at h2;omega
theorem RI.step {kd:Nat→Nat} {S:Nat→Iv} {i:Nat} {st:ASt} {fam:Int→Nat} (h:RI kd S i st fam) (hk:kd (S i).p.toNat<2) (hd:∀ a,a<i→(S a).p.toNat≠(S i).p.toNat) (hs:∀ a,a<i→(S a).f≤(S i).f) :
  ∃ fam',RI kd S (i+1) (asStep kd st (S i)) fam':=by
 obtain ⟨p1,p2⟩:=endB_pi (nx:=st.nx) (fam:=fam) (S i).f st.us.length st.L st.us rfl h.pi
 have hE:asE st (S i)=endB (S i).f st.us.length st.L st.us:=rfl
 rw [← hE] at p1 p2
 have hkk:(asL kd st (S i) (asI kd st (S i))).length=asN kd st (S i)+1:=by
  have:0<(asL kd st (S i) (asI kd st (S i))).length:=lfL_ne
  unfold asN
  omega
 obtain ⟨fam',q1,q2,q3,q4,q5,q6,q7,q8⟩:=p1.take_ h.nx.1 (S i).h hk (k:=asN kd st (S i)) hkk (S i).t
 have hb:∀ a,a<i→(asStep kd st (S i)).bd (S a).p.toNat=st.bd (S a).p.toNat:=fun a ha=>upd_ne (hd a ha)
 have hbi:(asStep kd st (S i)).bd (S i).p.toNat=asB kd st (S i):=upd_at _ _ _
 have hnx:(asStep kd st (S i)).nx=lfX (S i).h (kd (S i).p.toNat) (asE st (S i)).1 st.nx:=rfl
 have q7':lfX (S i).h (kd (S i).p.toNat) (asE st (S i)).1 st.nx=st.nx∨lfX (S i).h (kd (S i).p.toNat) (asE st (S i)).1 st.nx=st.nx+1∧asB kd st (S i)=st.nx:=q7
 refine ⟨fam',q1,?_,fun a ha=>?_,fun a ha=>?_,fun a b hab hbi' e=>?_,fun x h1 h2=>?_,fun q hq=>?_⟩
 ·have:=h.nx
  rw [hnx]
  rcases q7' with e | ⟨e,_⟩ <;> rw [e] <;> omega
 ·by_cases e:a<i
  ·rw [hb a e]
   obtain ⟨a1,a2⟩:=h.asg a e
   obtain ⟨c1,c2⟩:=q2 _ a1
   rw [c1]
   exact ⟨c2,a2⟩
  ·obtain rfl:a=i:=by omega
   rw [hbi]
   refine ⟨q4,?_⟩
   have:fam' (asB kd st (S a))=lfI (S a).h (kd (S a).p.toNat) (asE st (S a)).1:=q3
   rw [this]
   exact lfI_lst kd (S a) _
 ·by_cases e:a<i
  ·rw [hb a e]
   rcases h.liv a e with ⟨l,hl⟩ | ⟨c,hc,hc2⟩
   ·rcases p2 _ hl with h3 | h3
    ·exact .inl ⟨l,q8 _ (.inl h3)⟩
    ·exact .inr ⟨i,by omega,h3⟩
   ·exact .inr ⟨c,by omega,hc2⟩
  ·obtain rfl:a=i:=by omega
   rw [hbi]
   exact .inl ⟨_,q8 _ (.inr rfl)⟩
 ·by_cases e2:b<i
  ·rw [hb a (by omega),hb b e2] at e
   exact h.ovl a b hab e2 e
  ·obtain rfl:b=i:=by omega
   rw [hb a hab,hbi] at e
   rcases h.liv a hab with ⟨l,hl⟩ | ⟨c,hc,hc2⟩
   ·rcases p2 _ hl with ⟨j,hj,hj2⟩ | h3
    ·exact absurd (by rw [hj2];exact e) (q5 j hj)
    ·exact h3
   ·have:=hs c hc
    omega
 ·rw [hnx] at h2
  by_cases e:x<st.nx
  ·obtain ⟨a,ha,hx⟩:=h.slot x h1 e
   exact ⟨a,by omega,by rw [hb a ha];exact hx⟩
  ·rcases q7' with e2 | ⟨e2,e3⟩
   ·omega
   ·exact ⟨i,by omega,by rw [hbi,e3];omega⟩
 ·have h1:(asStep kd st (S i)).bd q=st.bd q:=upd_ne (fun e=>hq i (by omega) e.symm)
  rw [h1]
  exact h.out q (fun a ha=>hq a (by omega))
theorem RI.all {kd:Nat→Nat} {S:Nat→Iv} {n:Nat} (hk:∀ a,a<n→kd (S a).p.toNat<2) (hd:∀ a b,a<b→b<n→(S a).p.toNat≠(S b).p.toNat) (hs:∀ a b,a<b→b<n→(S a).f≤(S b).f) :
  ∀ i,i≤n→∃ fam,RI kd S i (asRun kd S i) fam
 | 0,_=>⟨_,RI.start kd S⟩
 | i+1,hi=>by
  obtain ⟨fam,h⟩:=RI.all hk hd hs i (by omega)
  exact h.step (hk i (by omega)) (fun a ha=>hd a i ha (by omega)) (fun a ha=>hs a i ha (by omega))
theorem sp_apart:∀ (ns:List Nd) (ps l:List Int) (m:Nat),(spansL ns ps l m).Pairwise (fun s t=>s.p<t.p)∧∀ s ∈ spansL ns ps l m,s.p<m
 | ns,ps,l,0=>by simp [spansL]
 | ns,ps,l,m+1=>by
  obtain ⟨h1,h2⟩:=sp_apart ns ps l m
  rw [spansL_succ]
  have hp:(ivK ns ps l (m:Int) l.length).p=m:=ivK_p _ _ _ _ _
  refine ⟨List.pairwise_append.2 ⟨h1,by split <;> simp,fun a ha b hb=>?_⟩,fun s hs=>?_⟩
  ·split at hb
   ·rw [List.mem_singleton] at hb
    rw [hb,hp]
    exact h2 a ha
   ·cases hb
  ·rcases List.mem_append.1 hs with h | h
   ·have:=h2 s h;omega
   ·split at h
    ·rw [List.mem_singleton] at h
     rw [h,hp];omega
    ·cases h
theorem spF_apart (g:Gr) {i j:Nat} (hij:i<j) (hj:j<(spansG g).length):(spF g i).p<(spF g j).p:=by
 have h:=(sp_apart g.nodes g.params (lineG g) g.kinds.length).1
 have h2:=List.pairwise_iff_getElem.1 h i j (by exact Nat.lt_trans hij hj) hj hij
 have e:∀ k (hk:k<(spansG g).length),spF g k=(spansG g)[k]:=fun k hk=>by
  unfold spF
  rw [List.getD_eq_getElem?_getD,List.getElem?_eq_getElem hk];rfl
 rw [e i (by omega),e j hj]
 exact h2
theorem kd_lt {gs:List Gr} {g:Gr} (h:valid gs false) (hg:g ∈ gs) (q:Nat):kdL g.kinds q<2:=by
 unfold kdL
 rw [List.getD_eq_getElem?_getD]
 by_cases hq:q<g.kinds.length
 ·have:=kdL_ok h hg _ (List.getElem_mem hq)
  rw [List.getElem?_eq_getElem hq,Option.getD_some]
  omega
 ·rw [List.getElem?_eq_none (by omega)];decide
structure RtI (g:Gr) (l:Nat→Int):Prop where
 none_:∀ q,(∀ i,i<(spansG g).length→(spF g i).p.toNat≠q)→l q=-1
 dom:∀ i,i<(spansG g).length→0≤l (spF g i).p.toNat∧(l (spF g i).p.toNat≤11∨16≤l (spF g i).p.toNat)∧l (spF g i).p.toNat<16+g.kinds.length∧((spF g i).h=true→6≤l (spF g i).p.toNat∧(l (spF g i).p.toNat<16→kdL g.kinds (spF g i).p.toNat≠1))
 two:∀ i j,i<(spansG g).length→j<(spansG g).length→i≠j→l (spF g i).p.toNat=l (spF g j).p.toNat→¬ ((spF g i).f≤(spF g j).t∧(spF g j).f≤(spF g i).t)∧(16≤l (spF g i).p.toNat→kdL g.kinds (spF g i).p.toNat=kdL g.kinds (spF g j).p.toNat)
 slot:∀ (i:Nat) (x:Int),i<(spansG g).length→16≤x→x≤l (spF g i).p.toNat→∃ j,j<(spansG g).length∧l (spF g j).p.toNat=x
theorem asg_right {gs:List Gr} {g:Gr} (h:valid gs false) (hg:g ∈ gs):RtI g (asgG g):=by
 obtain ⟨n,hn⟩:∃ n,n=(spansG g).length:=⟨_,rfl⟩
 obtain ⟨hso,hpr⟩:=stb_ok kyF n (spF g)
 have hS:spS g=stb kyF n (spF g):=by unfold spS;rw [hn]
 rw [← hS] at hso hpr
 obtain ⟨π,ρ,hπ⟩:=hpr
 have hS2:∀ a,a<n→spS g a=spF g (π a):=fun a ha=>(hπ a ha).2.2.2.2
 have hS3:∀ i,i<n→ρ i<n∧spS g (ρ i)=spF g i:=fun i hi=>by
  obtain ⟨a1,a2,a3,a4,a5⟩:=hπ i hi
  exact ⟨a2,by rw [hS2 _ a2,a3]⟩
 have hin:∀ i,i<n→∃ q:Nat,(spF g i).p=q∧q<g.kinds.length:=fun i hi=>by
  obtain ⟨⟨q,h1,h2,_⟩,_⟩:=spG_in h hg (spF_mem (by rw [← hn];exact hi))
  exact ⟨q,h1,h2⟩
 have hinj:∀ i j,i<n→j<n→(spF g i).p.toNat=(spF g j).p.toNat→i=j:=fun i j hi hj e=>by
  obtain ⟨q,h1,_⟩:=hin i hi
  obtain ⟨q2,h2,_⟩:=hin j hj
  rcases Nat.lt_trichotomy i j with hlt | heq | hgt
  ·have:=spF_apart g hlt (by omega);omega
  ·exact heq
  ·have:=spF_apart g hgt (by omega);omega
 have hd:∀ a b,a<b→b<n→(spS g a).p.toNat≠(spS g b).p.toNat:=fun a b hab hb e=>by
  obtain ⟨a1,a2,a3,a4,a5⟩:=hπ a (by omega)
  obtain ⟨b1,b2,b3,b4,b5⟩:=hπ b hb
  rw [hS2 a (by omega),hS2 b hb] at e
  have:=hinj _ _ a1 b1 e
  have:a=b:=by rw [← a4,← b4,this]
  omega
 obtain ⟨fam,hR⟩:=RI.all (kd:=kdL g.kinds) (S:=spS g) (n:=n) (fun a _=>kd_lt h hg _) hd (fun a b hab hb=>hso a b (by omega) hab hb) n (Nat.le_refl _)
 have hl:∀ q,asgG g q=(asRun (kdL g.kinds) (spS g) n).bd q:=fun q=>by unfold asgG;rw [hn]
 have hnm:n≤g.kinds.length:=by rw [hn];exact spG_len g
 have hnx:=hR.nx
 refine ⟨fun q hq=>?_,fun i hi=>?_,fun i j hi hj hij e=>?_,fun i x hi h1 h2=>?_⟩
 ·rw [hl]
  refine hR.out q (fun a ha=>?_)
  rw [hS2 a ha]
  exact hq _ (by rw [← hn];exact (hπ a ha).1)
 ·obtain ⟨c1,c2⟩:=hS3 i (by omega)
  obtain ⟨d1,d2,d3,d4⟩:=hR.asg (ρ i) c1
  rw [hl]
  rw [c2] at d1 d2 d3 d4
  have hk3:=kd_lt h hg (spF g i).p.toNat
  rcases d1 with ⟨e0,e1,e2⟩ | ⟨e0,e1,e2⟩ | ⟨e0,e1,e2⟩
  ·exact ⟨e1,.inl (by omega),by omega,fun hh=>absurd e0 (d2 hh)⟩
  ·exact ⟨by omega,.inl (by omega),by omega,fun hh=>⟨e1,fun _ e=>by have:=d3 hh e;omega⟩⟩
  ·exact ⟨by omega,.inr e1,by omega,fun hh=>⟨by omega,fun _=>by omega⟩⟩
 ·obtain ⟨c1,c2⟩:=hS3 i (by omega)
  obtain ⟨k1,k2⟩:=hS3 j (by omega)
  have hne:ρ i≠ρ j:=fun e2=>hij (hinj i j (by omega) (by omega) (by rw [← c2,← k2,e2]))
  rw [hl,hl] at e
  obtain ⟨d1,d2,d3,d4⟩:=hR.asg (ρ i) c1
  obtain ⟨m1,m2,m3,m4⟩:=hR.asg (ρ j) k1
  rw [c2] at d1 d2 d3 d4
  rw [k2] at m1 m2 m3 m4
  refine ⟨fun hm=>?_,fun hx=>?_⟩
  ·rcases Nat.lt_or_gt_of_ne hne with hlt | hgt
   ·have:=hR.ovl (ρ i) (ρ j) hlt k1 (by rw [c2,k2];exact e)
    rw [c2,k2] at this
    omega
   ·have:=hR.ovl (ρ j) (ρ i) hgt c1 (by rw [c2,k2];exact e.symm)
    rw [c2,k2] at this
    omega
  ·rw [hl] at hx
   have f2:2≤fam ((asRun (kdL g.kinds) (spS g) n).bd (spF g i).p.toNat):=by
    rcases d1 with ⟨_,_,e2⟩ | ⟨_,_,e2⟩ | ⟨e0,_,_⟩ <;> omega
   have f3:=d4 f2
   rw [e] at f2 f3
   have f4:=m4 f2
   omega
 ·rw [hl] at h2
  obtain ⟨c1,c2⟩:=hS3 i (by omega)
  obtain ⟨d1,_⟩:=hR.asg (ρ i) c1
  rw [c2] at d1
  have hxl:x<(asRun (kdL g.kinds) (spS g) n).nx:=by
   rcases d1 with ⟨_,_,e2⟩ | ⟨_,_,e2⟩ | ⟨_,_,e2⟩ <;> omega
  obtain ⟨a,ha,hax⟩:=hR.slot x h1 hxl
  rw [hS2 a ha] at hax
  exact ⟨π a,by rw [← hn];exact (hπ a ha).1,by rw [hl];exact hax⟩
open Go.ChangeShapes Go.WideShapes Go.ChangeAt Go.RowKit
theorem rnext_own (op bop d e a b f cell imm:Int) (args:List Int) (nx el:Int) (ao:Option Addr) (nA ac:Nat) (w:World) (ho0:0≤op) (ho1:op≤255) :
  Calls Tryz.prog 33 #[.agg #[.int .u8 op,.int .u8 bop,.int .i64 d,.int .i64 e,.int .i64 a,.int .i64 b,.int .i64 f,.int .i64 cell,.int .u64 imm,.slice ao nA ac,.int .i64 nx,.int .i64 el]] w (NewO w (nextsOf ⟨op,bop,d,e,a,b,f,cell,imm,args,nx,el⟩)):=by
 have HW1:Hid (Below w.heap.size w (w.alloc (.cells #[.int .u8 op,.int .u8 bop,.int .i64 d,.int .i64 e,.int .i64 a,.int .i64 b,.int .i64 f,.int .i64 cell,.int .u64 imm,.slice ao nA ac,.int .i64 nx,.int .i64 el] 47))):=(Below.refl _ _).alloc (Nat.le_refl _) _
 have hz1:(w.alloc (.cells #[.int .u8 op,.int .u8 bop,.int .i64 d,.int .i64 e,.int .i64 a,.int .i64 b,.int .i64 f,.int .i64 cell,.int .u64 imm,.slice ao nA ac,.int .i64 nx,.int .i64 el] 47)).heap.size=w.heap.size+1:=by simp
 rcases op_cases ho0 ho1 with rfl | rfl | rfl | rfl | rfl | rfl | rfl | rfl | rfl | rfl | rfl | rfl | rfl | rfl | rfl | rfl | rfl | rfl | hop
 ·have HLR:=lh (lit_own (w.alloc (.cells #[.int .u8 1,.int .u8 bop,.int .i64 d,.int .i64 e,.int .i64 a,.int .i64 b,.int .i64 f,.int .i64 cell,.int .u64 imm,.slice ao nA ac,.int .i64 nx,.int .i64 el] 47)) 3 (i64c [nx]) 1 rfl)
  have HW2:Hid (Below w.heap.size w ((w.alloc (.cells #[.int .u8 1,.int .u8 bop,.int .i64 d,.int .i64 e,.int .i64 a,.int .i64 b,.int .i64 f,.int .i64 cell,.int .u64 imm,.slice ao nA ac,.int .i64 nx,.int .i64 el] 47)).alloc (.cells #[.int .i64 nx] 3))):=HW1.out.alloc (by simp) _
  rw [hz1] at HLR
  go_enter Tryz.func33,Tryz.ntmps33
  go_wp2
  go_ret
  exact NewO.mk2 (l:=[nx]) rfl rfl HLR.out (by omega) (Nat.le_refl _) HW2.out
 ·have HLR:=lh (lit_own (w.alloc (.cells #[.int .u8 2,.int .u8 bop,.int .i64 d,.int .i64 e,.int .i64 a,.int .i64 b,.int .i64 f,.int .i64 cell,.int .u64 imm,.slice ao nA ac,.int .i64 nx,.int .i64 el] 47)) 3 (i64c [nx]) 1 rfl)
  have HW2:Hid (Below w.heap.size w ((w.alloc (.cells #[.int .u8 2,.int .u8 bop,.int .i64 d,.int .i64 e,.int .i64 a,.int .i64 b,.int .i64 f,.int .i64 cell,.int .u64 imm,.slice ao nA ac,.int .i64 nx,.int .i64 el] 47)).alloc (.cells #[.int .i64 nx] 3))):=HW1.out.alloc (by simp) _
  rw [hz1] at HLR
  go_enter Tryz.func33,Tryz.ntmps33
  go_wp2
  go_ret
  exact NewO.mk2 (l:=[nx]) rfl rfl HLR.out (by omega) (Nat.le_refl _) HW2.out
 ·have HLR:=lh (lit_own (w.alloc (.cells #[.int .u8 3,.int .u8 bop,.int .i64 d,.int .i64 e,.int .i64 a,.int .i64 b,.int .i64 f,.int .i64 cell,.int .u64 imm,.slice ao nA ac,.int .i64 nx,.int .i64 el] 47)) 3 (i64c [nx]) 1 rfl)
  have HW2:Hid (Below w.heap.size w ((w.alloc (.cells #[.int .u8 3,.int .u8 bop,.int .i64 d,.int .i64 e,.int .i64 a,.int .i64 b,.int .i64 f,.int .i64 cell,.int .u64 imm,.slice ao nA ac,.int .i64 nx,.int .i64 el] 47)).alloc (.cells #[.int .i64 nx] 3))):=HW1.out.alloc (by simp) _
  rw [hz1] at HLR
  go_enter Tryz.func33,Tryz.ntmps33
  go_wp2
  go_ret
  exact NewO.mk2 (l:=[nx]) rfl rfl HLR.out (by omega) (Nat.le_refl _) HW2.out
 ·have HLR:=lh (lit_own (w.alloc (.cells #[.int .u8 4,.int .u8 bop,.int .i64 d,.int .i64 e,.int .i64 a,.int .i64 b,.int .i64 f,.int .i64 cell,.int .u64 imm,.slice ao nA ac,.int .i64 nx,.int .i64 el] 47)) 3 (i64c [nx]) 1 rfl)
  have HW2:Hid (Below w.heap.size w ((w.alloc (.cells #[.int .u8 4,.int .u8 bop,.int .i64 d,.int .i64 e,.int .i64 a,.int .i64 b,.int .i64 f,.int .i64 cell,.int .u64 imm,.slice ao nA ac,.int .i64 nx,.int .i64 el] 47)).alloc (.cells #[.int .i64 nx] 3))):=HW1.out.alloc (by simp) _
  rw [hz1] at HLR
  go_enter Tryz.func33,Tryz.ntmps33
  go_wp2
  go_ret
  exact NewO.mk2 (l:=[nx]) rfl rfl HLR.out (by omega) (Nat.le_refl _) HW2.out
 ·have HLR:=lh (lit_own (w.alloc (.cells #[.int .u8 5,.int .u8 bop,.int .i64 d,.int .i64 e,.int .i64 a,.int .i64 b,.int .i64 f,.int .i64 cell,.int .u64 imm,.slice ao nA ac,.int .i64 nx,.int .i64 el] 47)) 3 (i64c [nx]) 1 rfl)
  have HW2:Hid (Below w.heap.size w ((w.alloc (.cells #[.int .u8 5,.int .u8 bop,.int .i64 d,.int .i64 e,.int .i64 a,.int .i64 b,.int .i64 f,.int .i64 cell,.int .u64 imm,.slice ao nA ac,.int .i64 nx,.int .i64 el] 47)).alloc (.cells #[.int .i64 nx] 3))):=HW1.out.alloc (by simp) _
  rw [hz1] at HLR
  go_enter Tryz.func33,Tryz.ntmps33
  go_wp2
  go_ret
  exact NewO.mk2 (l:=[nx]) rfl rfl HLR.out (by omega) (Nat.le_refl _) HW2.out
 ·have HLR:=lh (lit_own (w.alloc (.cells #[.int .u8 6,.int .u8 bop,.int .i64 d,.int .i64 e,.int .i64 a,.int .i64 b,.int .i64 f,.int .i64 cell,.int .u64 imm,.slice ao nA ac,.int .i64 nx,.int .i64 el] 47)) 3 (i64c [nx]) 1 rfl)
  have HW2:Hid (Below w.heap.size w ((w.alloc (.cells #[.int .u8 6,.int .u8 bop,.int .i64 d,.int .i64 e,.int .i64 a,.int .i64 b,.int .i64 f,.int .i64 cell,.int .u64 imm,.slice ao nA ac,.int .i64 nx,.int .i64 el] 47)).alloc (.cells #[.int .i64 nx] 3))):=HW1.out.alloc (by simp) _
  rw [hz1] at HLR
  go_enter Tryz.func33,Tryz.ntmps33
  go_wp2
  go_ret
  exact NewO.mk2 (l:=[nx]) rfl rfl HLR.out (by omega) (Nat.le_refl _) HW2.out
 ·have HLR:=lh (lit_own (w.alloc (.cells #[.int .u8 7,.int .u8 bop,.int .i64 d,.int .i64 e,.int .i64 a,.int .i64 b,.int .i64 f,.int .i64 cell,.int .u64 imm,.slice ao nA ac,.int .i64 nx,.int .i64 el] 47)) 3 (i64c [nx]) 1 rfl)
  have HW2:Hid (Below w.heap.size w ((w.alloc (.cells #[.int .u8 7,.int .u8 bop,.int .i64 d,.int .i64 e,.int .i64 a,.int .i64 b,.int .i64 f,.int .i64 cell,.int .u64 imm,.slice ao nA ac,.int .i64 nx,.int .i64 el] 47)).alloc (.cells #[.int .i64 nx] 3))):=HW1.out.alloc (by simp) _
  rw [hz1] at HLR
  go_enter Tryz.func33,Tryz.ntmps33
  go_wp2
  go_ret
  exact NewO.mk2 (l:=[nx]) rfl rfl HLR.out (by omega) (Nat.le_refl _) HW2.out
 ·have HLR:=lh (lit_own (w.alloc (.cells #[.int .u8 8,.int .u8 bop,.int .i64 d,.int .i64 e,.int .i64 a,.int .i64 b,.int .i64 f,.int .i64 cell,.int .u64 imm,.slice ao nA ac,.int .i64 nx,.int .i64 el] 47)) 3 (i64c [nx]) 1 rfl)
  have HW2:Hid (Below w.heap.size w ((w.alloc (.cells #[.int .u8 8,.int .u8 bop,.int .i64 d,.int .i64 e,.int .i64 a,.int .i64 b,.int .i64 f,.int .i64 cell,.int .u64 imm,.slice ao nA ac,.int .i64 nx,.int .i64 el] 47)).alloc (.cells #[.int .i64 nx] 3))):=HW1.out.alloc (by simp) _
  rw [hz1] at HLR
  go_enter Tryz.func33,Tryz.ntmps33
  go_wp2
  go_ret
  exact NewO.mk2 (l:=[nx]) rfl rfl HLR.out (by omega) (Nat.le_refl _) HW2.out
 ·by_cases hne:el=nx
  ·have hg:(el != nx)=false:=by simpa using hne
   have HE:=lh hne
   clear hne
   have HLR:=lh (lit_own (w.alloc (.cells #[.int .u8 9,.int .u8 bop,.int .i64 d,.int .i64 e,.int .i64 a,.int .i64 b,.int .i64 f,.int .i64 cell,.int .u64 imm,.slice ao nA ac,.int .i64 nx,.int .i64 el] 47)) 3 (i64c [nx]) 1 rfl)
   have HW2:Hid (Below w.heap.size w ((w.alloc (.cells #[.int .u8 9,.int .u8 bop,.int .i64 d,.int .i64 e,.int .i64 a,.int .i64 b,.int .i64 f,.int .i64 cell,.int .u64 imm,.slice ao nA ac,.int .i64 nx,.int .i64 el] 47)).alloc (.cells #[.int .i64 nx] 3))):=HW1.out.alloc (by simp) _
   rw [hz1] at HLR
   go_enter Tryz.func33,Tryz.ntmps33
   go_wp2
   go_ret
   exact NewO.mk2 (l:=[nx]) (by unfold nextsOf;simp [HE.out]) rfl HLR.out (by omega) (Nat.le_refl _) HW2.out
  ·have hg:(el != nx)=true:=by simpa using hne
   have HE:=lh hne
   clear hne
   have HLR:=lh (lit_own (w.alloc (.cells #[.int .u8 9,.int .u8 bop,.int .i64 d,.int .i64 e,.int .i64 a,.int .i64 b,.int .i64 f,.int .i64 cell,.int .u64 imm,.slice ao nA ac,.int .i64 nx,.int .i64 el] 47)) 3 (i64c [nx,el]) 2 rfl)
   have HW2:Hid (Below w.heap.size w ((w.alloc (.cells #[.int .u8 9,.int .u8 bop,.int .i64 d,.int .i64 e,.int .i64 a,.int .i64 b,.int .i64 f,.int .i64 cell,.int .u64 imm,.slice ao nA ac,.int .i64 nx,.int .i64 el] 47)).alloc (.cells #[.int .i64 nx,.int .i64 el] 3))):=HW1.out.alloc (by simp) _
   rw [hz1] at HLR
   go_enter Tryz.func33,Tryz.ntmps33
   go_wp2
   go_ret
   exact NewO.mk2 (l:=[nx,el]) (by unfold nextsOf;simp [HE.out]) rfl HLR.out (by omega) (Nat.le_refl _) HW2.out
 ·have HLR:=lh (lit_own (w.alloc (.cells #[.int .u8 10,.int .u8 bop,.int .i64 d,.int .i64 e,.int .i64 a,.int .i64 b,.int .i64 f,.int .i64 cell,.int .u64 imm,.slice ao nA ac,.int .i64 nx,.int .i64 el] 47)) 3 (i64c [nx]) 1 rfl)
  have HW2:Hid (Below w.heap.size w ((w.alloc (.cells #[.int .u8 10,.int .u8 bop,.int .i64 d,.int .i64 e,.int .i64 a,.int .i64 b,.int .i64 f,.int .i64 cell,.int .u64 imm,.slice ao nA ac,.int .i64 nx,.int .i64 el] 47)).alloc (.cells #[.int .i64 nx] 3))):=HW1.out.alloc (by simp) _
  rw [hz1] at HLR
  go_enter Tryz.func33,Tryz.ntmps33
  go_wp2
  go_ret
  exact NewO.mk2 (l:=[nx]) rfl rfl HLR.out (by omega) (Nat.le_refl _) HW2.out
 ·have HLR:=lh (lit_own (w.alloc (.cells #[.int .u8 11,.int .u8 bop,.int .i64 d,.int .i64 e,.int .i64 a,.int .i64 b,.int .i64 f,.int .i64 cell,.int .u64 imm,.slice ao nA ac,.int .i64 nx,.int .i64 el] 47)) 3 (i64c [nx]) 1 rfl)
  have HW2:Hid (Below w.heap.size w ((w.alloc (.cells #[.int .u8 11,.int .u8 bop,.int .i64 d,.int .i64 e,.int .i64 a,.int .i64 b,.int .i64 f,.int .i64 cell,.int .u64 imm,.slice ao nA ac,.int .i64 nx,.int .i64 el] 47)).alloc (.cells #[.int .i64 nx] 3))):=HW1.out.alloc (by simp) _
  rw [hz1] at HLR
  go_enter Tryz.func33,Tryz.ntmps33
  go_wp2
  go_ret
  exact NewO.mk2 (l:=[nx]) rfl rfl HLR.out (by omega) (Nat.le_refl _) HW2.out
 ·go_enter Tryz.func33,Tryz.ntmps33
  go_wp2
  go_ret
  exact NewO.mk2 (l:=[]) rfl rfl (own_none _ w.heap.size _ _) (Nat.le_refl _) (Nat.le_refl _) HW1.out
 ·have HLR:=lh (lit_own (w.alloc (.cells #[.int .u8 13,.int .u8 bop,.int .i64 d,.int .i64 e,.int .i64 a,.int .i64 b,.int .i64 f,.int .i64 cell,.int .u64 imm,.slice ao nA ac,.int .i64 nx,.int .i64 el] 47)) 3 (i64c [nx]) 1 rfl)
  have HW2:Hid (Below w.heap.size w ((w.alloc (.cells #[.int .u8 13,.int .u8 bop,.int .i64 d,.int .i64 e,.int .i64 a,.int .i64 b,.int .i64 f,.int .i64 cell,.int .u64 imm,.slice ao nA ac,.int .i64 nx,.int .i64 el] 47)).alloc (.cells #[.int .i64 nx] 3))):=HW1.out.alloc (by simp) _
  rw [hz1] at HLR
  go_enter Tryz.func33,Tryz.ntmps33
  go_wp2
  go_ret
  exact NewO.mk2 (l:=[nx]) rfl rfl HLR.out (by omega) (Nat.le_refl _) HW2.out
 ·go_enter Tryz.func33,Tryz.ntmps33
  go_wp2
  go_ret
  exact NewO.mk2 (l:=[]) rfl rfl (own_none _ w.heap.size _ _) (Nat.le_refl _) (Nat.le_refl _) HW1.out
 ·have HLR:=lh (lit_own (w.alloc (.cells #[.int .u8 15,.int .u8 bop,.int .i64 d,.int .i64 e,.int .i64 a,.int .i64 b,.int .i64 f,.int .i64 cell,.int .u64 imm,.slice ao nA ac,.int .i64 nx,.int .i64 el] 47)) 3 (i64c [nx]) 1 rfl)
  have HW2:Hid (Below w.heap.size w ((w.alloc (.cells #[.int .u8 15,.int .u8 bop,.int .i64 d,.int .i64 e,.int .i64 a,.int .i64 b,.int .i64 f,.int .i64 cell,.int .u64 imm,.slice ao nA ac,.int .i64 nx,.int .i64 el] 47)).alloc (.cells #[.int .i64 nx] 3))):=HW1.out.alloc (by simp) _
  rw [hz1] at HLR
  go_enter Tryz.func33,Tryz.ntmps33
  go_wp2
  go_ret
  exact NewO.mk2 (l:=[nx]) rfl rfl HLR.out (by omega) (Nat.le_refl _) HW2.out
 ·have HLR:=lh (lit_own (w.alloc (.cells #[.int .u8 16,.int .u8 bop,.int .i64 d,.int .i64 e,.int .i64 a,.int .i64 b,.int .i64 f,.int .i64 cell,.int .u64 imm,.slice ao nA ac,.int .i64 nx,.int .i64 el] 47)) 3 (i64c [nx]) 1 rfl)
  have HW2:Hid (Below w.heap.size w ((w.alloc (.cells #[.int .u8 16,.int .u8 bop,.int .i64 d,.int .i64 e,.int .i64 a,.int .i64 b,.int .i64 f,.int .i64 cell,.int .u64 imm,.slice ao nA ac,.int .i64 nx,.int .i64 el] 47)).alloc (.cells #[.int .i64 nx] 3))):=HW1.out.alloc (by simp) _
  rw [hz1] at HLR
  go_enter Tryz.func33,Tryz.ntmps33
  go_wp2
  go_ret
  exact NewO.mk2 (l:=[nx]) rfl rfl HLR.out (by omega) (Nat.le_refl _) HW2.out
 ·have HLR:=lh (lit_own (w.alloc (.cells #[.int .u8 17,.int .u8 bop,.int .i64 d,.int .i64 e,.int .i64 a,.int .i64 b,.int .i64 f,.int .i64 cell,.int .u64 imm,.slice ao nA ac,.int .i64 nx,.int .i64 el] 47)) 3 (i64c [nx]) 1 rfl)
  have HW2:Hid (Below w.heap.size w ((w.alloc (.cells #[.int .u8 17,.int .u8 bop,.int .i64 d,.int .i64 e,.int .i64 a,.int .i64 b,.int .i64 f,.int .i64 cell,.int .u64 imm,.slice ao nA ac,.int .i64 nx,.int .i64 el] 47)).alloc (.cells #[.int .i64 nx] 3))):=HW1.out.alloc (by simp) _
  rw [hz1] at HLR
  go_enter Tryz.func33,Tryz.ntmps33
  go_wp2
  go_ret
  exact NewO.mk2 (l:=[nx]) rfl rfl HLR.out (by omega) (Nat.le_refl _) HW2.out
 ·go_enter Tryz.func33,Tryz.ntmps33
  go_wp2
  go_ret
  exact NewO.mk2 (l:=[]) rfl rfl (own_none _ w.heap.size _ _) (Nat.le_refl _) (Nat.le_refl _) HW1.out
 ·have HLL:Hid (nextsOf ⟨op,bop,d,e,a,b,f,cell,imm,args,nx,el⟩=[]):=lh (by unfold nextsOf;rw [if_pos];show op<1∨18<op∨op=12∨op=14∨op=18;omega)
  have g12:(op == 12)=false:=by simp;omega
  have g14:(op == 14)=false:=by simp;omega
  have g18:(op == 18)=false:=by simp;omega
  have g9:(op == 9)=false:=by simp;omega
  have q1:decide (op≥1)=true∧decide (op≤18)=false∨decide (op≥1)=false:=by simp;omega
  have q2:decide (op<1)=true∨decide (op<1)=false∧decide (op > 18)=true:=by simp;omega
  rcases q1 with ⟨q1,q1'⟩ | q1 <;> rcases q2 with q2 | ⟨q2,q2'⟩
  all_goals
   go_enter Tryz.func33,Tryz.ntmps33
   go_wp2
   go_ret
   exact NewO.mk2 HLL.out.symm rfl (own_none _ w.heap.size _ _) (Nat.le_refl _) (Nat.le_refl _) HW1.out
structure VR (W:World) (b fl n:Nat) (s:DSt) (v:Value) (w:World):Prop where
 box:Blk w b 109 #[.slice (some ⟨fl,0,none⟩) n n,v]
 row:Blk w fl 4 (rowA n fun k=>.bool (s.seen k))
 own:w.ownsRow W.heap.size 3 1 v s.left.length (i64c s.left)
 below:Below W.heap.size W w
 hb:W.heap.size≤b
 hf:W.heap.size≤fl
section
variable {W w w' w1 w2:World} {b fl n:Nat} {s:DSt} {v v1 v2 v':Value}
theorem VR.on (h:VR W b fl n s v w) (hb:Below w.heap.size w w'):VR W b fl n s v w' :=
 ⟨h.box.below hb h.box.lt,h.row.below hb h.row.lt,own_kept h.own fun g hg=>hb.block g (own_block_le h.own hg).2,h.below.trans (hb.mono h.below.size),h.hb,h.hf⟩
theorem VR.mark (h:VR W b fl n s v w) (i:Nat):VR W b fl n ⟨mkB s.seen i,s.left⟩ v (w.setCell ⟨fl,i,none⟩ (.bool true)):=by
 have hf:=h.hf
 refine ⟨h.box.far (p:=⟨fl,i,none⟩) (Blk.ne_ h.box h.row (by decide)) _,?_,own_far h.own h.row (by decide) _ _,h.below.setCell (p:=⟨fl,i,none⟩) (by show W.heap.size≤fl;exact hf) _,h.hb,h.hf⟩
 have h1:=h.row.set_ i (.bool true)
 rw [rowA_set] at h1
 rw [rowA_congr (g:=upd (fun k=>.bool (s.seen k)) i (.bool true)) (fun k hk=>by
  show Value.bool (if k=i then true else s.seen k)=if k=i then _ else _
  by_cases e:k=i
  ·rw [if_pos e,if_pos e]
  ·rw [if_neg e,if_neg e])]
 exact h1
theorem VR.push {o:Obj} {x:Int} (h:VR W b fl n s v w) (hown:w'.ownsRow W.heap.size 3 1 v' (s.left.length+1) (i64c s.left ++ [.int .i64 x])) (hg:(w.alloc o).grownBy w' v.ownBlock) (hor:v'.ownBlock=v.ownBlock∨v'.ownBlock=some (w.alloc o).heap.size) :
  w'.frozen? ⟨b,1,none⟩=false∧(∃ y,w'.cell? ⟨b,1,none⟩=some y)∧Hid (VR W b fl n ⟨s.seen,s.left ++ [x]⟩ v' (w'.setCell ⟨b,1,none⟩ v'))∧Hid (KpV w (w'.setCell ⟨b,1,none⟩ v') b fl v v'):=by
 have ho:=own_alloc h.own o
 have hbx:=blk_grown (h.box.alloc o) ho hg (by decide)
 have hrw:=blk_grown (h.row.alloc o) ho hg (by decide)
 have hz:=h.below.size
 have hb:=h.hb
 have hgs:=hg.size
 simp at hgs
 have hbl:Below W.heap.size W w':=(h.below.alloc hz o).grown hg (by simp;omega) fun g he=>by have:=(own_block_le ho he).1;omega
 refine ⟨hbx.frozen 1,⟨_,hbx.cell 1⟩,lh ⟨hbx.set_ 1 v',hrw.far (p:=⟨b,1,none⟩) (by show fl≠b;exact (Blk.ne_ h.box h.row (by decide)).symm) _,?_,hbl.setCell (p:=⟨b,1,none⟩) (by show W.heap.size≤b;exact hb) _,h.hb,h.hf⟩,lh ⟨by simp [World.setCell];omega,fun g hgl h1 h2 h3=>?_,?_⟩⟩
 ·have h1:=own_far hown hbx (by decide) 1 v'
  show World.ownsRow _ _ _ _ _ (s.left ++ [x]).length (i64c (s.left ++ [x]))
  rw [i64c_append,List.length_append]
  exact h1
 ·refine (Below.heap_setCell w' ⟨b,1,none⟩ v' g h1).trans ((hg.block g (by simp;omega) (fun e=>h3 e.symm)).trans (Below.heap_alloc w o g hgl))
 ·rcases hor with h1 | h1
  ·exact .inl h1
  ·exact .inr ⟨_,h1,by simp⟩
end
def RPost (ns:List Nd) (W:World) (b fl n:Nat) (F i:Nat) (s:DSt) (v:Value) (w:World) (e:Ending) (w':World):Prop :=
 e=.returned (.tuple #[])∧∃ v',VR W b fl n (vis ns F i s) v' w'∧KpV w w' b fl v v'
theorem from_any (B b fl:Nat) (po ko io no:Option Addr) (nP pc nK kc nI ic n nc:Nat) (cells keep entry:Int) (res:Bool) (rn:List RN) (W:World) (hN:RdNs W B no n rn) (hB:B≤W.heap.size) (hn:n≤4096) (hv:NextIn (nds rn)) :
  ∀ (F i:Nat) (s:DSt) (v:Value) (w:World),i<n→s.seen i=false→unS s.seen n≤F→s.left.length+unS s.seen n≤n→VR W b fl n s v w →
   Calls Tryz.prog 58 #[.pointer (some ⟨b,0,none⟩),.agg #[.slice po nP pc,.slice ko nK kc,.int .i64 cells,.slice io nI ic,.bool res,.int .i64 keep,.slice no n nc,.int .i64 entry],.int .i64 i] w (RPost (nds rn) W b fl n F i s v w):=by
 have HRN:=lh hN
 have HV:=lh hv
 have HLN:Hid ((nds rn).length=n):=lh (by rw [length_nds];exact hN.len)
 clear hN hv
 intro F
 induction F with
 | zero=>exact fun i s v w hi hs hu _ _=>absurd (unS_pos hi hs) (by omega)
 | succ F ih =>
  intro i s v w hi hs hu hc h
  have IH:=lh ih
  have H:=lh h
  have hum:=unS_mark hi hs
  have HU:Hid (unS (mkB s.seen i) n≤F):=lh (by omega)
  have HC:Hid (s.left.length+unS (mkB s.seen i) n+1≤n):=lh (by omega)
  clear ih h hs hu hc hum
  have hb0:Below w.heap.size w (w.alloc (.cells #[.slice po nP pc,.slice ko nK kc,.int .i64 cells,.slice io nI ic,.bool res,.int .i64 keep,.slice no n nc,.int .i64 entry] 35)):=(Below.refl _ _).alloc (Nat.le_refl _) _
  have HG0:=lh (Blk.new w 35 #[.slice po nP pc,.slice ko nK kc,.int .i64 cells,.slice io nI ic,.bool res,.int .i64 keep,.slice no n nc,.int .i64 entry])
  have K0:=lh (KpV.of_below hb0 b fl v)
  have HOWN:Hid (∀ g,v.ownBlock=some g→g<w.heap.size):=lh fun g hg=>(own_block_le H.out.own hg).2
  have HBL:Hid (b<w.heap.size∧fl<w.heap.size):=lh ⟨H.out.box.lt,H.out.row.lt⟩
  have H:=lh (H.out.on hb0)
  obtain ⟨w0,hw0⟩:∃ w0,w0=w.alloc (.cells #[.slice po nP pc,.slice ko nK kc,.int .i64 cells,.slice io nI ic,.bool res,.int .i64 keep,.slice no n nc,.int .i64 entry] 35):=⟨_,rfl⟩
  rw [← hw0] at HG0 K0 H hb0
  have HBW:=lh hb0
  clear hb0
  obtain ⟨Av,cv,hve⟩:=own_slice H.out.own
  have b0:w0.cell? ⟨b,0,none⟩=some (.slice (some ⟨fl,0,none⟩) n n):=H.out.box.cell 0
  have f1:w0.frozen? ⟨fl,i,none⟩=false:=H.out.row.frozen i
  have y1:w0.cell? ⟨fl,i,none⟩=some (.bool (s.seen i)):=by rw [H.out.row.cell,rowA_at _ hi]
  have hbf:b≠fl:=Blk.ne_ H.out.box H.out.row (by decide)
  have H1:=lh (H.out.mark i)
  have K1:=lh (KpV.mark w0 b fl i v (.bool true))
  obtain ⟨w1,hw1⟩:∃ w1,w1=w0.setCell ⟨fl,i,none⟩ (.bool true):=⟨_,rfl⟩
  rw [← hw1] at H1 K1
  have HG1:Hid (Blk w1 w.heap.size 35 #[.slice po nP pc,.slice ko nK kc,.int .i64 cells,.slice io nI ic,.bool res,.int .i64 keep,.slice no n nc,.int .i64 entry]):=lh (by rw [hw1];exact HG0.out.far (p:=⟨fl,i,none⟩) (by show w.heap.size≠fl;have:=HBL.out;omega) _)
  have c0:w1.cell? ⟨w.heap.size,6,none⟩=some (.slice no n nc):=HG1.out.cell 6
  obtain ⟨bn,on,nd,hno,hbn,HXI,HRN1,HWI,u0,u1,u2,u3,u4,u5,u6,u7,u8,u9,u10,u11⟩:=(HRN.out.below (H1.out.below.mono hB)).nd hi
  have HXN:Hid ((nds rn)[i]?=some nd.nd):=lh (by unfold nds;rw [List.getElem?_map,HXI.out];rfl)
  have hwz:=H1.out.below.size
  have hbnr:bn<w1.heap.size:=by omega
  have HNX:=lh (rnext_own nd.nd.op nd.nd.bop nd.nd.d nd.nd.e nd.nd.a nd.nd.b nd.nd.f nd.nd.cell nd.nd.imm nd.nd.args nd.nd.next nd.nd.els nd.ao nd.nd.args.length nd.ac w1 HWI.out.o0 HWI.out.o1)
  have HNO:=lh hno
  rw [hno] at c0 hw0 HG1 IH ⊢
  clear hno HG0
  obtain ⟨xs,hxs⟩:∃ xs,xs=nextsOf ⟨nd.nd.op,nd.nd.bop,nd.nd.d,nd.nd.e,nd.nd.a,nd.nd.b,nd.nd.f,nd.nd.cell,nd.nd.imm,nd.nd.args,nd.nd.next,nd.nd.els⟩:=⟨_,rfl⟩
  rw [← hxs] at HNX
  have HXS:Hid (xs=nxt (nds rn) i):=lh (by rw [nxt_at HXN.out];exact hxs)
  have HXI2:Hid (∀ x ∈ xs,0≤x∧x<(n:Int)):=lh (by
   rw [HXS.out,← HLN.out]
   exact fun x hx=>nxt_in HV.out hx)
  have hm2:xs.length≤2:=by rw [hxs];exact nexts_lenC _
  clear hxs
  go_enter Tryz.func58,Tryz.ntmps58
  go_upto_region 1 with fail
  rw [← hw0]
  clear hw0
  go_upto_region 2 with fail
  rw [← hw1]
  clear hw1 b0 f1 y1
  go_wp2_with (go_at_call 33;refine HNX.out.mono ?_;rintro e w2 ⟨A2,c2,rfl,ho2,hc2,hb2⟩;have HO2:=lh ho2;have H2:=lh (H1.out.on hb2);have K2:=lh ((K0.out.trans K1.out).trans (KpV.of_below hb2 b fl v));have HG2:=lh (HG1.out.below hb2 HG1.out.lt);have HS2:=lh hb2.size;clear hb2 ho2)
  clear u0 u1 u2 u3 u4 u5 u6 u7 u8 u9 u10 u11 hbnr c0
  obtain ⟨m,hm⟩:∃ m,m=xs.length:=⟨_,rfl⟩
  rw [← hm] at HO2 hm2 hc2 ⊢
  have HM:=lh hm
  have HKR:Hid (∀ wr vr,KpV w2 wr b fl v vr→wr.ownsRow w1.heap.size 3 1 (.slice A2 m c2) m (i64c xs)):=lh fun wr vr hk=>own_kept HO2.out fun g hg=>by
   have hl:=own_block_le HO2.out hg
   refine hk.block g hl.2 (fun e=>?_) (fun e=>?_) (fun e=>?_)
   ·have:=H1.out.box.lt;omega
   ·have:=H1.out.row.lt;omega
   ·have:=(own_block_le H1.out.own e).2;omega
  have HKG:Hid (∀ wr vr,KpV w2 wr b fl v vr→Blk wr w.heap.size 35 #[.slice po nP pc,.slice ko nK kc,.int .i64 cells,.slice io nI ic,.bool res,.int .i64 keep,.slice (some ⟨bn,on,none⟩) n nc,.int .i64 entry]):=lh fun wr vr hk=>(hk.block w.heap.size HG2.out.lt (by have:=HBL.out;omega) (by have:=HBL.out;omega) (fun e=>by have:=HOWN.out _ e;omega)).trans HG2.out
  clear hm HNX HRN1 K1
  go_loopw [21] (fun sj wr=>∃ (j:Nat) (vr:Value) (sr:DSt),j≤m∧sj=.int .i64 j∧Hid (sr=visL (nds rn) F (xs.take j) ⟨mkB s.seen i,s.left⟩)∧Hid (VR W b fl n sr vr wr)∧Hid (KpV w2 wr b fl v vr)) (fun sj _=>m-(intOf sj).toNat)
  case atStart=>exact ⟨0,v,_,by omega,rfl,lh rfl,H2,lh (KpV.refl _ _ _ _)⟩
  case round =>
   clear H2
   obtain ⟨j,vr,sr,hj,rfl,HS,HI,HK⟩:=hrel
   have HCN:Hid (unS sr.seen n≤F∧sr.left.length+unS sr.seen n+1≤n):=lh (by
    have h1:=visL_cnt HV.out (f:=F) (xs:=xs.take j) (s:=⟨mkB s.seen i,s.left⟩) (fun x hx=>by rw [HLN.out];exact HXI2.out x (List.mem_of_mem_take hx)) (by rw [HLN.out];exact HU.out)
    rw [← HS.out,HLN.out] at h1
    have h2:=HC.out
    have h3:=h1.2
    simp only at h3
    exact ⟨h1.1,by omega⟩)
   by_cases hjl:j<m
   ·obtain ⟨bx,ox,x,hxe,hbx,HXX,x1⟩:=(Reads.of_own (HKR.out wr vr HK.out)).int hjl
    obtain ⟨hx0,hx1⟩:=HXI2.out x (List.mem_of_getElem? HXX.out)
    obtain ⟨y,rfl⟩:∃ y:Nat,x=(y:Int):=⟨x.toNat,by omega⟩
    have hy:y<n:=by omega
    have r1:wr.cell? ⟨b,0,none⟩=some (.slice (some ⟨fl,0,none⟩) n n):=HI.out.box.cell 0
    have HGR:=lh (HKG.out wr vr HK.out)
    have r10:wr.cell? ⟨w.heap.size,0,none⟩=some (.slice po nP pc):=HGR.out.cell 0
    have r11:wr.cell? ⟨w.heap.size,1,none⟩=some (.slice ko nK kc):=HGR.out.cell 1
    have r12:wr.cell? ⟨w.heap.size,2,none⟩=some (.int .i64 cells):=HGR.out.cell 2
    have r13:wr.cell? ⟨w.heap.size,3,none⟩=some (.slice io nI ic):=HGR.out.cell 3
    have r14:wr.cell? ⟨w.heap.size,4,none⟩=some (.bool res):=HGR.out.cell 4
    have r15:wr.cell? ⟨w.heap.size,5,none⟩=some (.int .i64 keep):=HGR.out.cell 5
    have r16:wr.cell? ⟨w.heap.size,6,none⟩=some (.slice (some ⟨bn,on,none⟩) n nc):=HGR.out.cell 6
    have r17:wr.cell? ⟨w.heap.size,7,none⟩=some (.int .i64 entry):=HGR.out.cell 7
    have ry:wr.cell? ⟨fl,y,none⟩=some (.bool (sr.seen y)):=by rw [HI.out.row.cell,rowA_at _ hy]
    have HSN:Hid (visL (nds rn) F (xs.take (j+1)) ⟨mkB s.seen i,s.left⟩=visS (nds rn) F sr (y:Int)):=lh (by rw [take_at HXX.out,visL_snoc,← HS.out])
    have HXE:=lh hxe
    rw [hxe]
    clear hxe hx0 hx1 HXX
    rcases hsy:sr.seen y with _ | _
    ·have HY:=lh hsy
     have HIH:=lh (IH.out y sr vr wr hy hsy HCN.out.1 (by have:=HCN.out.2;omega) HI.out)
     rw [hsy] at ry
     clear hsy
     go_wp2_with (go_at_call 58;refine HIH.out.mono ?_;rintro e w3 ⟨rfl,v3,h3,k3⟩;have H3:=lh h3;have K3:=lh k3;clear h3 k3)
     go_roundw
     case rel =>
      refine ⟨j+1,v3,_,by omega,by go_num,lh ?_,H3,lh (HK.out.trans K3.out)⟩
      rw [HSN.out,visS_no (by rw [Int.toNat_natCast];exact HY.out),Int.toNat_natCast]
     case measure=>simp [intOf];omega
    ·have HY:=lh hsy
     rw [hsy] at ry
     clear hsy
     go_wp2
     go_roundw
     case rel =>
      refine ⟨j+1,vr,sr,by omega,by go_num,lh ?_,HI,HK⟩
      rw [HSN.out,visS_yes (by rw [Int.toNat_natCast];exact HY.out)]
     case measure=>simp [intOf];omega
   ·have hje:j=m:=by omega
    have HSA:Hid (sr=visL (nds rn) F (nxt (nds rn) i) ⟨mkB s.seen i,s.left⟩):=lh (by
     rw [HS.out,← HXS.out,List.take_of_length_le (by rw [← HM.out,hje];exact Nat.le_refl _)])
    have HLEN:Hid (sr.left.length≤4096):=lh (by have:=HCN.out.2;omega)
    obtain ⟨Ar,cr,hre⟩:=own_slice HI.out.own
    subst hre
    have r2:wr.cell? ⟨b,1,none⟩=some (.slice Ar sr.left.length cr):=HI.out.box.cell 1
    have hwrz:=HI.out.below.size
    clear hje hj
    go_wp2_with (at_builtin;refine app_int rfl (.tmp 42) (.tmp 44) rfl W.heap.size _ _ _ rfl (own_alloc HI.out.own _) (wr.heap.size+1) (some ⟨wr.heap.size,0,none⟩) 1 1 [.int .i64 i] rfl (one_reads wr _ _ 1 rfl) (ints_oneCell .i64 [(i:Int)]) (by have:=HLEN.out;omega) (by simp;omega) ?_;intro v4 w4 hown hgr hor;obtain ⟨A4,c4,rfl⟩:=own_slice hown;obtain ⟨fz4,⟨y4,yy4⟩,HV4,HK4⟩:=HI.out.push hown hgr hor;clear hown hgr hor)
    first | go_end0 | go_ret | (refine bodyPost_ret (v:=.tuple #[]) (by simp [results,Tryz.func58]) rfl ?_)
    refine ⟨rfl,_,?_,(K2.out.trans HK.out).trans HK4.out⟩
    rw [vis_succ,← HSA.out]
    exact HV4.out
end Go.Proofs.YtedmcfaghfgpoaaGreatDoor
