/-
  Texts of one seat, one behind the other: JSort, JMrg, JStb, OMath.
-/
import Derived.Test.YtedmcfaghfgpoaaGreatDoorMA3
import Derived.Test.YtedmcfaghfgpoaaGreatDoorMA1

set_option linter.unusedVariables false
set_option linter.unusedSimpArgs false
set_option maxRecDepth 100000
set_option maxHeartbeats 51200000
namespace Go.Proofs.YtedmcfaghfgpoaaGreatDoor
section
variable {α:Type} (ky:α→Int)
def sw (G:Nat→α) (i j:Nat):Nat→α:=upd (upd G i (G j)) j (G i)
theorem sw_at (G:Nat→α) (i j k:Nat):sw G i j k=if k=j then G i else if k=i then G j else G k:=rfl
structure Wi (lo hi:Nat) (G G':Nat→α):Prop where
 out:∀ k,k<lo∨hi≤k→G' k=G k
 inn:∀ k,lo≤k→k<hi→∃ q,lo≤q∧q<hi∧G' k=G q
theorem Wi.refl (lo hi:Nat) (G:Nat→α):Wi lo hi G G:=⟨fun _ _=>rfl,fun k h1 h2=>⟨k,h1,h2,rfl⟩⟩
theorem Wi.trans {lo hi:Nat} {G G1 G2:Nat→α} (h:Wi lo hi G G1) (k:Wi lo hi G1 G2):Wi lo hi G G2 :=
 ⟨fun q hq=>(k.out q hq).trans (h.out q hq),fun q h1 h2=>by
  obtain ⟨r,h3,h4,e⟩:=k.inn q h1 h2
  obtain ⟨s,h5,h6,e2⟩:=h.inn r h3 h4
  exact ⟨s,h5,h6,e.trans e2⟩⟩
theorem Wi.more {lo hi lo' hi':Nat} {G G':Nat→α} (h:Wi lo hi G G') (h1:lo'≤lo) (h2:hi≤hi'):Wi lo' hi' G G' :=
 ⟨fun k hk=>h.out k (by omega),fun k h3 h4=>by
  by_cases hk:lo≤k∧k<hi
  ·obtain ⟨q,h5,h6,e⟩:=h.inn k hk.1 hk.2
   exact ⟨q,by omega,by omega,e⟩
  ·exact ⟨k,h3,h4,h.out k (by omega)⟩⟩
theorem Wi.sw {lo hi i j:Nat} (G:Nat→α) (h1:lo≤i) (h2:i<hi) (h3:lo≤j) (h4:j<hi):Wi lo hi G (sw G i j) :=
 ⟨fun k hk=>by rw [sw_at,if_neg (by omega),if_neg (by omega)],fun k _ _=>by
  rw [sw_at]
  split
  ·exact ⟨i,h1,h2,rfl⟩
  ·split
   ·exact ⟨j,h3,h4,rfl⟩
   ·exact ⟨k,by assumption,by assumption,rfl⟩⟩
def Prm (m:Nat) (G G':Nat→α):Prop:=∃ π ρ:Nat→Nat,∀ k,k<m→π k<m∧ρ k<m∧π (ρ k)=k∧ρ (π k)=k∧G' k=G (π k)
theorem Prm.refl (m:Nat) (G:Nat→α):Prm m G G:=⟨id,id,fun k h=>⟨h,h,rfl,rfl,rfl⟩⟩
theorem Prm.trans {m:Nat} {G G1 G2:Nat→α} (h:Prm m G G1) (k:Prm m G1 G2):Prm m G G2:=by
 obtain ⟨π,ρ,hp⟩:=h
 obtain ⟨π',ρ',hq⟩:=k
 refine ⟨fun k=>π (π' k),fun k=>ρ' (ρ k),fun k hk=>?_⟩
 have h1:=hq k hk
 have h2:=hp (π' k) h1.1
 have h3:=hp k hk
 have h4:=hq (ρ k) h3.2.1
 refine ⟨h2.1,h4.2.1,?_,?_,h1.2.2.2.2.trans h2.2.2.2.2⟩
 ·show π (π' (ρ' (ρ k)))=k
  rw [h4.2.2.1,h3.2.2.1]
 ·show ρ' (ρ (π (π' k)))=k
  rw [h2.2.2.2.1,h1.2.2.2.1]
theorem Prm.sw {m i j:Nat} (G:Nat→α) (h1:i<m) (h2:j<m):Prm m G (sw G i j):=by
 have key:∀ k,(if (if k=j then i else if k=i then j else k)=j then i else if (if k=j then i else if k=i then j else k)=i then j else (if k=j then i else if k=i then j else k))=k:=by
  intro k
  by_cases e1:k=j
  ·rw [if_pos e1]
   by_cases e2:i=j
   ·rw [if_pos e2];omega
   ·rw [if_neg e2,if_pos rfl];omega
  ·rw [if_neg e1]
   by_cases e2:k=i
   ·rw [if_pos e2,if_pos rfl];omega
   ·rw [if_neg e2,if_neg e1,if_neg e2]
 have low:∀ k,k<m→(if k=j then i else if k=i then j else k)<m:=by
  intro k hk
  split
  ·exact h1
  ·split
   ·exact h2
   ·exact hk
 refine ⟨fun k=>if k=j then i else if k=i then j else k,fun k=>if k=j then i else if k=i then j else k,fun k hk=>⟨low k hk,low k hk,key k,key k,?_⟩⟩
 rw [sw_at]
 show _=G (if k=j then i else if k=i then j else k)
 split
 ·rfl
 ·split <;> rfl

def So (G:Nat→α) (lo hi:Nat):Prop:=∀ i j,lo≤i→i<j→j<hi→ky (G i)≤ky (G j)
theorem So.congr {G G':Nat→α} {lo hi:Nat} (h:So ky G lo hi) (he:∀ k,lo≤k→k<hi→G' k=G k):So ky G' lo hi:=fun i j h1 h2 h3=>by
 rw [he i h1 (by omega),he j (by omega) h3]
 exact h i j h1 h2 h3
theorem So.le {G:Nat→α} {lo hi:Nat} (h:So ky G lo hi) {i j:Nat} (h1:lo≤i) (h2:i≤j) (h3:j<hi):ky (G i)≤ky (G j):=by
 rcases Nat.lt_or_ge i j with h4 | h4
 ·exact h i j h1 h4 h3
 ·obtain rfl:i=j:=by omega
  exact Int.le_refl _
theorem So.join {G:Nat→α} {lo mid hi:Nat} (h1:So ky G lo mid) (h2:So ky G mid hi) (h3:∀ i j,lo≤i→i<mid→mid≤j→j<hi→ky (G i)≤ky (G j)):So ky G lo hi:=fun i j a b c=>by
 by_cases e:j<mid
 ·exact h1 i j a b e
 ·by_cases e2:i<mid
  ·exact h3 i j a e2 (by omega) c
  ·exact h2 i j (by omega) b c

def insJ (a:Nat):Nat→(Nat→α)→(Nat→α)
 | 0,G=>G
 | j+1,G=>if a<j+1∧ky (G (j+1))<ky (G j) then insJ a j (sw G (j+1) j) else G
def insN (a:Nat):Nat→(Nat→α)→(Nat→α)
 | 0,G=>G
 | n+1,G=>insJ ky a (a+1+n) (insN a n G)
def insS (a b:Nat) (G:Nat→α):Nat→α:=insN ky a (b-(a+1)) G
theorem insJ_prm (a m:Nat):∀ (j:Nat) (G:Nat→α),j<m→Prm m G (insJ ky a j G)
 | 0,G,_=>Prm.refl _ _
 | j+1,G,h=>by
  unfold insJ
  split
  ·exact (Prm.sw G h (by omega)).trans (insJ_prm a m j _ (by omega))
  ·exact Prm.refl _ _
theorem insN_prm (a m:Nat) (G:Nat→α):∀ n,a+n<m→Prm m G (insN ky a n G)
 | 0,_=>Prm.refl _ _
 | n+1,h=>(insN_prm a m G n (by omega)).trans (insJ_prm ky a m _ _ (by omega))
theorem insS_prm {a b m:Nat} (G:Nat→α) (hb:b≤m):Prm m G (insS ky a b G):=by
 unfold insS
 by_cases h:b≤a+1
 ·rw [show b-(a+1)=0 by omega];exact Prm.refl _ _
 ·exact insN_prm ky a m G _ (by omega)
theorem insJ_ok (a hi:Nat):∀ (j:Nat) (G:Nat→α),a≤j→j<hi→(∀ i k,a≤i→i<k→k<hi→i≠j→k≠j→ky (G i)≤ky (G k))→(∀ k,j<k→k<hi→ky (G j)≤ky (G k))→So ky (insJ ky a j G) a hi∧Wi a (j+1) G (insJ ky a j G)
 | 0,G,h0,h1,hA,hB=>by
  refine ⟨fun i k a1 a2 a3=>?_,Wi.refl _ _ _⟩
  unfold insJ
  by_cases e:i=0
  ·subst e;exact hB k a2 a3
  ·exact hA i k a1 a2 a3 e (by omega)
 | j+1,G,h0,h1,hA,hB=>by
  unfold insJ
  by_cases hc:a<j+1∧ky (G (j+1))<ky (G j)
  ·rw [if_pos hc]
   have hs:∀ k,sw G (j+1) j k=if k=j then G (j+1) else if k=j+1 then G j else G k:=fun k=>sw_at G (j+1) j k
   have IH:=insJ_ok a hi j (sw G (j+1) j) (by omega) (by omega) (fun i k a1 a2 a3 a4 a5=>by
    rw [hs i,hs k,if_neg a4,if_neg a5]
    by_cases e1:i=j+1
    ·rw [if_pos e1,if_neg (by omega)]
     exact hA j k (by omega) (by omega) a3 (by omega) (by omega)
    ·rw [if_neg e1]
     by_cases e2:k=j+1
     ·rw [if_pos e2]
      exact hA i j a1 (by omega) (by omega) e1 (by omega)
     ·rw [if_neg e2]
      exact hA i k a1 a2 a3 e1 e2) (fun k a1 a2=>by
    rw [hs j,hs k,if_pos rfl,if_neg (by omega)]
    by_cases e2:k=j+1
    ·rw [if_pos e2];exact Int.le_of_lt hc.2
    ·rw [if_neg e2];exact hB k (by omega) a2)
   exact ⟨IH.1,(Wi.sw G (by omega) (by omega) (by omega) (by omega)).trans (IH.2.more (Nat.le_refl _) (by omega))⟩
  ·rw [if_neg hc]
   refine ⟨fun i k a1 a2 a3=>?_,Wi.refl _ _ _⟩
   by_cases e1:i=j+1
   ·subst e1;exact hB k a2 a3
   ·by_cases e2:k=j+1
    ·subst e2
     have hlt:ky (G j)≤ky (G (j+1)):=by omega
     by_cases e3:i=j
     ·subst e3;exact hlt
     ·exact Int.le_trans (hA i j a1 (by omega) (by omega) e1 (by omega)) hlt
    ·exact hA i k a1 a2 a3 e1 e2
theorem insN_ok (a:Nat) (G:Nat→α):∀ n,So ky (insN ky a n G) a (a+1+n)∧Wi a (a+1+n) G (insN ky a n G)
 | 0=>⟨fun i j h1 h2 h3=>by omega,Wi.refl _ _ _⟩
 | n+1=>by
  obtain ⟨h1,h2⟩:=insN_ok a G n
  unfold insN
  have h:=insJ_ok ky a (a+1+(n+1)) (a+1+n) (insN ky a n G) (by omega) (by omega) (fun i k a1 a2 a3 a4 a5=>h1 i k a1 a2 (by omega)) (fun k a1 a2=>by omega)
  exact ⟨h.1,(h2.more (Nat.le_refl _) (by omega)).trans (h.2.more (Nat.le_refl _) (by omega))⟩
theorem insS_ok {a b:Nat} (G:Nat→α):So ky (insS ky a b G) a b∧Wi a b G (insS ky a b G):=by
 unfold insS
 by_cases h:b≤a+1
 ·rw [show b-(a+1)=0 by omega]
  exact ⟨fun i j h1 h2 h3=>by omega,Wi.refl _ _ _⟩
 ·have h1:=insN_ok ky a G (b-(a+1))
  rw [show a+1+(b-(a+1))=b by omega] at h1
  exact h1

def bsF (p:Nat→Bool):Nat→Nat→Nat→Nat
 | 0,i,_=>i
 | f+1,i,j=>if i<j then (if p ((i+j) / 2) then bsF p f ((i+j) / 2+1) j else bsF p f i ((i+j) / 2)) else i
theorem bs_end (p:Nat→Bool) (f:Nat) {i j:Nat} (h:j≤i):bsF p f i j=i:=by
 cases f with
 | zero=>rfl
 | succ f=>unfold bsF;rw [if_neg (by omega)]
theorem bs_edge (p:Nat→Bool):∀ (f i j:Nat),i≤j→j-i≤f→i≤bsF p f i j∧bsF p f i j≤j∧(bsF p f i j=i∨p (bsF p f i j-1)=true)∧(bsF p f i j=j∨p (bsF p f i j)=false)
 | 0,i,j,h1,h2=>by
  obtain rfl:i=j:=by omega
  exact ⟨Nat.le_refl _,Nat.le_refl _,.inl rfl,.inl rfl⟩
 | f+1,i,j,h1,h2=>by
  unfold bsF
  by_cases h:i<j
  ·rw [if_pos h]
   by_cases hp:p ((i+j) / 2)=true
   ·rw [if_pos hp]
    obtain ⟨a1,a2,a3,a4⟩:=bs_edge p f ((i+j) / 2+1) j (by omega) (by omega)
    refine ⟨by omega,a2,.inr ?_,a4⟩
    rcases a3 with e | e
    ·rw [e];exact hp
    ·exact e
   ·rw [if_neg hp]
    obtain ⟨a1,a2,a3,a4⟩:=bs_edge p f i ((i+j) / 2) (by omega) (by omega)
    refine ⟨a1,by omega,a3,.inr ?_⟩
    rcases a4 with e | e
    ·rw [e];exact Bool.eq_false_iff.2 hp
    ·exact e
  ·rw [if_neg h]
   exact ⟨Nat.le_refl _,h1,.inl rfl,.inl (by omega)⟩
def shU:Nat→Nat→(Nat→α)→(Nat→α)
 | 0,_,G=>G
 | n+1,a,G=>shU n (a+1) (sw G a (a+1))
theorem shU_at:∀ (n a:Nat) (G:Nat→α) (k:Nat),shU n a G k=if a≤k∧k<a+n then G (k+1) else if k=a+n then G a else G k
 | 0,a,G,k=>by
  unfold shU
  rw [if_neg (by omega)]
  split
  ·rename_i e;rw [e];rfl
  ·rfl
 | n+1,a,G,k=>by
  unfold shU
  rw [shU_at n (a+1),sw_at,sw_at,sw_at]
  by_cases h1:a+1≤k∧k<a+1+n
  ·rw [if_pos h1,if_neg (by omega),if_neg (by omega),if_pos (by omega)]
  ·rw [if_neg h1]
   by_cases h2:k=a+1+n
   ·rw [if_pos h2,if_pos rfl,if_neg (by omega),if_pos (by omega)]
   ·rw [if_neg h2]
    by_cases h3:k=a
    ·subst h3
     rw [if_neg (by omega),if_pos rfl,if_pos (by omega)]
    ·rw [if_neg (by omega),if_neg h3,if_neg (by omega),if_neg (by omega)]
def shD:Nat→Nat→(Nat→α)→(Nat→α)
 | 0,_,G=>G
 | n+1,m,G=>shD n (m-1) (sw G m (m-1))
theorem shD_at:∀ (n m:Nat) (G:Nat→α) (k:Nat),n≤m→shD n m G k=if m-n<k∧k≤m then G (k-1) else if k=m-n then G m else G k
 | 0,m,G,k,h=>by
  unfold shD
  rw [if_neg (by omega)]
  split
  ·rename_i e;rw [e];rfl
  ·rfl
 | n+1,m,G,k,h=>by
  unfold shD
  rw [shD_at n (m-1) _ _ (by omega),sw_at,sw_at,sw_at]
  by_cases h1:m-1-n<k∧k≤m-1
  ·rw [if_pos h1,if_neg (by omega),if_neg (by omega),if_pos (by omega)]
  ·rw [if_neg h1]
   by_cases h2:k=m-1-n
   ·rw [if_pos h2,if_pos rfl,if_neg (by omega),if_pos (by omega)]
   ·rw [if_neg h2]
    by_cases h3:k=m
    ·subst h3
     rw [if_neg (by omega),if_pos rfl,if_pos (by omega)]
    ·rw [if_neg (by omega),if_neg h3,if_neg (by omega),if_neg (by omega)]
def swR (a b:Nat):Nat→(Nat→α)→(Nat→α)
 | 0,G=>G
 | n+1,G=>sw (swR a b n G) (a+n) (b+n)
theorem swR_at (a b:Nat) (G:Nat→α):∀ n k,a+n≤b→swR a b n G k=if a≤k∧k<a+n then G (k-a+b) else if b≤k∧k<b+n then G (k-b+a) else G k
 | 0,k,h=>by unfold swR;rw [if_neg (by omega),if_neg (by omega)]
 | n+1,k,h=>by
  unfold swR
  rw [sw_at,swR_at a b G n (a+n) (by omega),swR_at a b G n (b+n) (by omega),swR_at a b G n k (by omega)]
  repeat' split
  all_goals first | rfl | (exfalso;omega) | (exact congrArg G (by omega))
theorem swR_prm (a b m:Nat) (G:Nat→α):∀ n,a+n≤m→b+n≤m→Prm m G (swR a b n G)
 | 0,_,_=>Prm.refl _ _
 | n+1,h1,h2=>(swR_prm a b m G n (by omega) (by omega)).trans (Prm.sw _ (by omega) (by omega))
def rotF (m:Nat):Nat→Nat→Nat→(Nat→α)→(Nat→α)
 | 0,_,_,G=>G
 | f+1,i,j,G=>if i=j then swR (m-i) m i G else if j<i then rotF m f (i-j) j (swR (m-i) m j G) else rotF m f i (j-i) (swR (m-i) (m+j-i) i G)
theorem rot_at (m:Nat):∀ (f i j:Nat) (G:Nat→α) (k:Nat),0<i→0<j→i≤m→i+j≤f→rotF m f i j G k=if m-i≤k∧k<m-i+j then G (k+i) else if m-i+j≤k∧k<m+j then G (k-j) else G k
 | 0,i,j,G,k,h1,h2,h3,h4=>by omega
 | f+1,i,j,G,k,h1,h2,h3,h4=>by
  unfold rotF
  by_cases e1:i=j
  ·rw [if_pos e1,swR_at _ _ _ _ _ (by omega)]
   subst e1
   repeat' split
   all_goals first | rfl | (exfalso;omega) | (exact congrArg G (by omega))
  ·rw [if_neg e1]
   by_cases e2:j<i
   ·rw [if_pos e2,rot_at m f (i-j) j _ _ (by omega) h2 (by omega) (by omega),swR_at _ _ _ _ _ (by omega),swR_at _ _ _ _ _ (by omega),swR_at _ _ _ _ _ (by omega)]
    repeat' split
    all_goals first | rfl | (exfalso;omega) | (exact congrArg G (by omega))
   ·rw [if_neg e2,rot_at m f i (j-i) _ _ h1 (by omega) h3 (by omega),swR_at _ _ _ _ _ (by omega),swR_at _ _ _ _ _ (by omega),swR_at _ _ _ _ _ (by omega)]
    repeat' split
    all_goals first | rfl | (exfalso;omega) | (exact congrArg G (by omega))
theorem rot_prm (m M:Nat):∀ (f i j:Nat) (G:Nat→α),i≤m→m+j≤M→Prm M G (rotF m f i j G)
 | 0,i,j,G,h1,h2=>Prm.refl _ _
 | f+1,i,j,G,h1,h2=>by
  unfold rotF
  split
  ·exact swR_prm _ _ _ _ _ (by omega) (by omega)
  ·split
   ·exact (swR_prm _ _ _ _ _ (by omega) (by omega)).trans (rot_prm m M f _ _ _ (by omega) (by omega))
   ·exact (swR_prm _ _ _ _ _ (by omega) (by omega)).trans (rot_prm m M f _ _ _ (by omega) (by omega))
theorem shU_prm (M:Nat):∀ (n a:Nat) (G:Nat→α),a+n<M→Prm M G (shU n a G)
 | 0,_,G,_=>Prm.refl _ _
 | n+1,a,G,h=>(Prm.sw G (by omega) (by omega)).trans (shU_prm M n (a+1) _ (by omega))
theorem shD_prm (M:Nat):∀ (n m:Nat) (G:Nat→α),m<M→Prm M G (shD n m G)
 | 0,_,G,_=>Prm.refl _ _
 | n+1,m,G,h=>(Prm.sw G (by omega) (by omega)).trans (shD_prm M n (m-1) _ (by omega))
end
section
variable {α:Type} (ky:α→Int)
def stM (G:Nat→α) (a m b:Nat):Nat :=
 if (a+b) / 2<m then bsF (fun c=>!decide (ky (G ((a+b) / 2+m-1-c))<ky (G c))) ((a+b) / 2-((a+b) / 2+m-b)) ((a+b) / 2+m-b) ((a+b) / 2)
 else bsF (fun c=>!decide (ky (G ((a+b) / 2+m-1-c))<ky (G c))) (m-a) a m
def symM:Nat→Nat→Nat→Nat→(Nat→α)→(Nat→α)
 | 0,_,_,_,G=>G
 | f+1,a,m,b,G =>
  if m-a=1 then shU (bsF (fun h=>decide (ky (G h)<ky (G a))) (b-m) m b-1-a) a G
  else if b-m=1 then shD (m-bsF (fun h=>!decide (ky (G m)<ky (G h))) (m-a) a m) m G
  else
   let mid:=(a+b) / 2
   let s:=stM ky G a m b
   let e:=mid+m-s
   let G1:=if s<m∧m<e then rotF m (e-s) (m-s) (e-m) G else G
   let G2:=if a<s∧s<mid then symM f a s mid G1 else G1
   if mid<e∧e<b then symM f mid e b G2 else G2
theorem stM_ok (G:Nat→α) {a m b:Nat} (h1:a<m) (h2:m<b):a≤stM ky G a m b∧stM ky G a m b≤m∧stM ky G a m b≤(a+b) / 2∧m≤(a+b) / 2+m-stM ky G a m b∧(a+b) / 2+m-stM ky G a m b≤b ∧
  (m<(a+b) / 2+m-stM ky G a m b→stM ky G a m b<m→ky (G ((a+b) / 2+m-stM ky G a m b-1))<ky (G (stM ky G a m b))) ∧
  (a<stM ky G a m b→(a+b) / 2+m-stM ky G a m b<b→ky (G (stM ky G a m b-1))≤ky (G ((a+b) / 2+m-stM ky G a m b))):=by
 unfold stM
 by_cases hm:(a+b) / 2<m
 ·rw [if_pos hm]
  obtain ⟨k1,k2,k3,k4⟩:=bs_edge (fun c=>!decide (ky (G ((a+b) / 2+m-1-c))<ky (G c))) ((a+b) / 2-((a+b) / 2+m-b)) ((a+b) / 2+m-b) ((a+b) / 2) (by omega) (Nat.le_refl _)
  revert k1 k2 k3 k4
  generalize bsF (fun c=>!decide (ky (G ((a+b) / 2+m-1-c))<ky (G c))) ((a+b) / 2-((a+b) / 2+m-b)) ((a+b) / 2+m-b) ((a+b) / 2)=s
  intro k1 k2 k3 k4
  refine ⟨by omega,by omega,by omega,by omega,by omega,fun c1 c2=>?_,fun c1 c2=>?_⟩
  ·rcases k4 with e | e
   ·omega
   ·simp only [Bool.not_eq_false',decide_eq_true_eq] at e
    rw [show (a+b) / 2+m-s-1=(a+b) / 2+m-1-s by omega]
    exact e
  ·rcases k3 with e | e
   ·omega
   ·simp only [Bool.not_eq_true',decide_eq_false_iff_not] at e
    rw [show (a+b) / 2+m-1-(s-1)=(a+b) / 2+m-s by omega] at e
    omega
 ·rw [if_neg hm]
  obtain ⟨k1,k2,k3,k4⟩:=bs_edge (fun c=>!decide (ky (G ((a+b) / 2+m-1-c))<ky (G c))) (m-a) a m (by omega) (Nat.le_refl _)
  revert k1 k2 k3 k4
  generalize bsF (fun c=>!decide (ky (G ((a+b) / 2+m-1-c))<ky (G c))) (m-a) a m=s
  intro k1 k2 k3 k4
  refine ⟨by omega,by omega,by omega,by omega,by omega,fun c1 c2=>?_,fun c1 c2=>?_⟩
  ·rcases k4 with e | e
   ·omega
   ·simp only [Bool.not_eq_false',decide_eq_true_eq] at e
    rw [show (a+b) / 2+m-s-1=(a+b) / 2+m-1-s by omega]
    exact e
  ·rcases k3 with e | e
   ·omega
   ·simp only [Bool.not_eq_true',decide_eq_false_iff_not] at e
    rw [show (a+b) / 2+m-1-(s-1)=(a+b) / 2+m-s by omega] at e
    omega
theorem symM_prm (M:Nat):∀ (f a m b:Nat) (G:Nat→α),a<m→m<b→b≤M→Prm M G (symM ky f a m b G)
 | 0,a,m,b,G,h1,h2,h3=>Prm.refl _ _
 | f+1,a,m,b,G,h1,h2,h3=>by
  unfold symM
  by_cases c1:m-a=1
  ·rw [if_pos c1]
   have:=bs_edge (fun h=>decide (ky (G h)<ky (G a))) (b-m) m b (by omega) (Nat.le_refl _)
   exact shU_prm M _ _ _ (by omega)
  ·rw [if_neg c1]
   by_cases c2:b-m=1
   ·rw [if_pos c2]
    exact shD_prm M _ _ _ (by omega)
   ·rw [if_neg c2]
    simp only
    obtain ⟨k1,k2,k3,k4,k5,_,_⟩:=stM_ok ky G h1 h2
    generalize stM ky G a m b=s at k1 k2 k3 k4 k5
    have g1:Prm M G (if s<m∧m<(a+b) / 2+m-s then rotF m ((a+b) / 2+m-s-s) (m-s) ((a+b) / 2+m-s-m) G else G):=by
     split
     ·exact rot_prm m M _ _ _ _ (by omega) (by omega)
     ·exact Prm.refl _ _
    generalize (if s<m∧m<(a+b) / 2+m-s then rotF m ((a+b) / 2+m-s-s) (m-s) ((a+b) / 2+m-s-m) G else G)=G1 at g1
    have g2:Prm M G1 (if a<s∧s<(a+b) / 2 then symM ky f a s ((a+b) / 2) G1 else G1):=by
     split
     ·exact symM_prm M f _ _ _ _ (by omega) (by omega) (by omega)
     ·exact Prm.refl _ _
    generalize (if a<s∧s<(a+b) / 2 then symM ky f a s ((a+b) / 2) G1 else G1)=G2 at g2
    refine g1.trans (g2.trans ?_)
    split
    ·exact symM_prm M f _ _ _ _ (by omega) (by omega) (by omega)
    ·exact Prm.refl _ _
theorem symM_ok:∀ (f a m b:Nat) (G:Nat→α),a<m→m<b→b-a≤f→So ky G a m→So ky G m b→So ky (symM ky f a m b G) a b∧Wi a b G (symM ky f a m b G)
 | 0,a,m,b,G,h1,h2,h3,hA,hB=>by omega
 | f+1,a,m,b,G,h1,h2,h3,hA,hB=>by
  unfold symM
  by_cases c1:m-a=1
  ·rw [if_pos c1]
   obtain rfl:m=a+1:=by omega
   obtain ⟨k1,k2,k3,k4⟩:=bs_edge (fun h=>decide (ky (G h)<ky (G a))) (b-(a+1)) (a+1) b (by omega) (Nat.le_refl _)
   generalize bsF (fun h=>decide (ky (G h)<ky (G a))) (b-(a+1)) (a+1) b=i at k1 k2 k3 k4
   have hat:=fun k=>shU_at (i-1-a) a G k
   have e3:a+1<i→ky (G (i-1))<ky (G a):=fun hh=>by
    rcases k3 with e | e
    ·omega
    ·simpa using e
   have e4:i<b→ky (G a)≤ky (G i):=fun hh=>by
    rcases k4 with e | e
    ·omega
    ·simpa using e
   refine ⟨fun x y p1 p2 p3=>?_,⟨fun k hk=>?_,fun k p1 p2=>?_⟩⟩
   ·rw [hat x,hat y]
    by_cases x1:x<i-1
    ·rw [if_pos (by omega)]
     by_cases y1:y<i-1
     ·rw [if_pos (by omega)]
      exact hB _ _ (by omega) (by omega) (by omega)
     ·rw [if_neg (by omega)]
      by_cases y2:y=i-1
      ·rw [if_pos (by omega)]
       exact Int.le_trans (So.le ky hB (i:=x+1) (j:=i-1) (by omega) (by omega) (by omega)) (Int.le_of_lt (e3 (by omega)))
      ·rw [if_neg (by omega)]
       exact hB _ _ (by omega) (by omega) (by omega)
    ·rw [if_neg (by omega)]
     by_cases x2:x=i-1
     ·rw [if_pos (by omega),if_neg (by omega),if_neg (by omega)]
      exact Int.le_trans (e4 (by omega)) (So.le ky hB (by omega) (by omega) (by omega))
     ·rw [if_neg (by omega),if_neg (by omega),if_neg (by omega)]
      exact hB _ _ (by omega) (by omega) (by omega)
   ·rw [hat k,if_neg (by omega)]
    split
    ·omega
    ·rfl
   ·rw [hat k]
    split
    ·exact ⟨k+1,by omega,by omega,rfl⟩
    ·split
     ·exact ⟨a,by omega,by omega,rfl⟩
     ·exact ⟨k,by omega,by omega,rfl⟩
  ·rw [if_neg c1]
   by_cases c2:b-m=1
   ·rw [if_pos c2]
    obtain rfl:b=m+1:=by omega
    obtain ⟨k1,k2,k3,k4⟩:=bs_edge (fun h=>!decide (ky (G m)<ky (G h))) (m-a) a m (by omega) (Nat.le_refl _)
    generalize bsF (fun h=>!decide (ky (G m)<ky (G h))) (m-a) a m=i at k1 k2 k3 k4
    have hat:=fun k=>shD_at (m-i) m G k (by omega)
    have e3:a<i→ky (G (i-1))≤ky (G m):=fun hh=>by
     rcases k3 with e | e
     ·omega
     ·simpa using e
    have e4:i<m→ky (G m)<ky (G i):=fun hh=>by
     rcases k4 with e | e
     ·omega
     ·simpa using e
    refine ⟨fun x y p1 p2 p3=>?_,⟨fun k hk=>?_,fun k p1 p2=>?_⟩⟩
    ·rw [hat x,hat y]
     by_cases x1:x<i
     ·rw [if_neg (by omega),if_neg (by omega)]
      by_cases y1:y<i
      ·rw [if_neg (by omega),if_neg (by omega)]
       exact hA _ _ (by omega) (by omega) (by omega)
      ·by_cases y2:y=i
       ·rw [if_neg (by omega),if_pos (by omega)]
        exact Int.le_trans (So.le ky hA (i:=x) (j:=i-1) (by omega) (by omega) (by omega)) (e3 (by omega))
       ·rw [if_pos (by omega)]
        exact hA _ _ (by omega) (by omega) (by omega)
     ·by_cases x2:x=i
      ·rw [if_neg (by omega),if_pos (by omega),if_pos (by omega)]
       exact Int.le_trans (Int.le_of_lt (e4 (by omega))) (So.le ky hA (by omega) (by omega) (by omega))
      ·rw [if_pos (by omega),if_pos (by omega)]
       exact hA _ _ (by omega) (by omega) (by omega)
    ·rw [hat k,if_neg (by omega)]
     split
     ·omega
     ·rfl
    ·rw [hat k]
     split
     ·exact ⟨k-1,by omega,by omega,rfl⟩
     ·split
      ·exact ⟨m,by omega,by omega,rfl⟩
      ·exact ⟨k,by omega,by omega,rfl⟩
   ·rw [if_neg c2]
    simp only
    obtain ⟨k1,k2,k3,k4,k5,k6,k7⟩:=stM_ok ky G h1 h2
    generalize stM ky G a m b=s at k1 k2 k3 k4 k5 k6 k7
    obtain ⟨mid,hmid⟩:∃ mid,mid=(a+b) / 2:=⟨_,rfl⟩
    have hm1:a<mid:=by omega
    have hm2:mid<b:=by omega
    have hm3:mid-a≤f:=by omega
    have hm4:b-mid≤f:=by omega
    rw [← hmid] at k3 k4 k5 k6 k7 ⊢
    clear hmid
    obtain ⟨e,he⟩:∃ e,e=mid+m-s:=⟨_,rfl⟩
    rw [← he] at k4 k5 k6 k7 ⊢
    have g1:∀ k,(if s<m∧m<e then rotF m (e-s) (m-s) (e-m) G else G) k=if s≤k∧k<mid then G (k+(m-s)) else if mid≤k∧k<e then G (k-(e-m)) else G k:=by
     intro k
     split
     ·rw [rot_at m (e-s) (m-s) (e-m) G k (by omega) (by omega) (by omega) (by omega)]
      repeat' split
      all_goals first | rfl | (exfalso;omega) | (exact congrArg G (by omega))
     ·repeat' split
      all_goals first | rfl | (exfalso;omega) | (exact congrArg G (by omega))
    generalize (if s<m∧m<e then rotF m (e-s) (m-s) (e-m) G else G)=G1 at g1
    have w1:Wi a b G G1:=⟨fun k hk=>by rw [g1,if_neg (by omega),if_neg (by omega)],fun k p1 p2=>by
     rw [g1]
     split
     ·exact ⟨k+(m-s),by omega,by omega,rfl⟩
     ·split
      ·exact ⟨k-(e-m),by omega,by omega,rfl⟩
      ·exact ⟨k,p1,p2,rfl⟩⟩
    have cross:∀ x y,a≤x→x<mid→mid≤y→y<b→ky (G1 x)≤ky (G1 y):=by
     intro x y p1 p2 p3 p4
     rw [g1 x,g1 y]
     by_cases x1:x<s
     ·rw [if_neg (by omega),if_neg (by omega),if_neg (by omega)]
      by_cases y1:y<e
      ·rw [if_pos (by omega)]
       exact hA _ _ (by omega) (by omega) (by omega)
      ·rw [if_neg (by omega)]
       exact Int.le_trans (So.le ky hA (i:=x) (j:=s-1) (by omega) (by omega) (by omega)) (Int.le_trans (k7 (by omega) (by omega)) (So.le ky hB (by omega) (by omega) (by omega)))
     ·rw [if_pos (by omega),if_neg (by omega)]
      by_cases y1:y<e
      ·rw [if_pos (by omega)]
       exact Int.le_trans (So.le ky hB (i:=x+(m-s)) (j:=e-1) (by omega) (by omega) (by omega)) (Int.le_trans (Int.le_of_lt (k6 (by omega) (by omega))) (So.le ky hA (by omega) (by omega) (by omega)))
      ·rw [if_neg (by omega)]
       exact So.le ky hB (by omega) (by omega) (by omega)
    have a1:So ky G1 a s:=fun x y p1 p2 p3=>by
     rw [g1 x,g1 y,if_neg (by omega),if_neg (by omega),if_neg (by omega),if_neg (by omega)]
     exact hA _ _ (by omega) (by omega) (by omega)
    have a2:So ky G1 s mid:=fun x y p1 p2 p3=>by
     rw [g1 x,g1 y,if_pos (by omega),if_pos (by omega)]
     exact hB _ _ (by omega) (by omega) (by omega)
    have a3:So ky G1 mid e:=fun x y p1 p2 p3=>by
     rw [g1 x,g1 y,if_neg (by omega),if_pos (by omega),if_neg (by omega),if_pos (by omega)]
     exact hA _ _ (by omega) (by omega) (by omega)
    have a4:So ky G1 e b:=fun x y p1 p2 p3=>by
     rw [g1 x,g1 y,if_neg (by omega),if_neg (by omega),if_neg (by omega),if_neg (by omega)]
     exact hB _ _ (by omega) (by omega) (by omega)
    have g2:So ky (if a<s∧s<mid then symM ky f a s mid G1 else G1) a mid∧Wi a mid G1 (if a<s∧s<mid then symM ky f a s mid G1 else G1):=by
     by_cases c:a<s∧s<mid
     ·rw [if_pos c]
      exact symM_ok f a s mid G1 c.1 c.2 hm3 a1 a2
     ·rw [if_neg c]
      refine ⟨?_,Wi.refl _ _ _⟩
      by_cases c':a<s
      ·obtain rfl:s=mid:=by omega
       exact a1
      ·obtain rfl:s=a:=by omega
       exact a2
    generalize (if a<s∧s<mid then symM ky f a s mid G1 else G1)=G2 at g2
    obtain ⟨b1,b2⟩:=g2
    have g3:So ky (if mid<e∧e<b then symM ky f mid e b G2 else G2) mid b∧Wi mid b G2 (if mid<e∧e<b then symM ky f mid e b G2 else G2):=by
     have a3':So ky G2 mid e:=So.congr ky a3 fun k p1 p2=>b2.out k (by omega)
     have a4':So ky G2 e b:=So.congr ky a4 fun k p1 p2=>b2.out k (by omega)
     by_cases c:mid<e∧e<b
     ·rw [if_pos c]
      exact symM_ok f mid e b G2 c.1 c.2 hm4 a3' a4'
     ·rw [if_neg c]
      refine ⟨?_,Wi.refl _ _ _⟩
      by_cases c':mid<e
      ·obtain rfl:e=b:=by omega
       exact a3'
      ·have:mid=e:=by omega
       rw [this]
       exact a4'
    generalize (if mid<e∧e<b then symM ky f mid e b G2 else G2)=G3 at g3
    obtain ⟨d1,d2⟩:=g3
    refine ⟨So.join ky (mid:=mid) (So.congr ky b1 fun k p1 p2=>d2.out k (by omega)) d1 fun x y p1 p2 p3 p4=>?_,w1.trans ((b2.more (Nat.le_refl _) (by omega)).trans (d2.more (by omega) (Nat.le_refl _)))⟩
    rw [d2.out x (by omega)]
    obtain ⟨q,q1,q2,q3⟩:=b2.inn x p1 p2
    obtain ⟨r,r1,r2,r3⟩:=d2.inn y p3 p4
    rw [q3,r3,b2.out r (by omega)]
    exact cross q r q1 q2 r1 r2
end
section
variable {α:Type} (ky:α→Int)
def stR (n:Nat):Nat→Nat→(Nat→α)→(Nat→α)
 | 0,_,G=>G
 | f+1,a,G=>if a+20≤n then stR n f (a+20) (insS ky a (a+20) G) else insS ky a n G
def mgR (n s:Nat):Nat→Nat→(Nat→α)→(Nat→α)
 | 0,_,G=>G
 | f+1,a,G=>if a+2*s≤n then mgR n s f (a+2*s) (symM ky (2*s) a (a+s) (a+2*s) G) else if a+s<n then symM ky (2*s) a (a+s) n G else G
def mgL (n:Nat):Nat→Nat→(Nat→α)→(Nat→α)
 | 0,_,G=>G
 | f+1,s,G=>if s<n then mgL n f (2*s) (mgR ky n s (n+1) 0 G) else G
def stb (n:Nat) (G:Nat→α):Nat→α:=mgL ky n n 20 (stR ky n (n+1) 0 G)
def Bks (n s a:Nat) (G:Nat→α):Prop:=∀ j,So ky G (a+j*s) (min (a+j*s+s) n)
theorem So.empty {G:Nat→α} {lo hi:Nat} (h:hi≤lo+1):So ky G lo hi:=fun i j h1 h2 h3=>by omega
theorem So.part {G:Nat→α} {lo hi lo' hi':Nat} (h:So ky G lo hi) (h1:lo≤lo') (h2:hi'≤hi):So ky G lo' hi':=fun i j a b c=>h i j (by omega) b (by omega)
theorem stR_ok (n:Nat):∀ (f a:Nat) (G:Nat→α),n-a<f→a≤n→Bks ky n 20 a (stR ky n f a G)∧Wi a n G (stR ky n f a G)∧Prm n G (stR ky n f a G)
 | 0,a,G,h,_=>by omega
 | f+1,a,G,h,h0=>by
  unfold stR
  by_cases c:a+20≤n
  ·rw [if_pos c]
   obtain ⟨h1,h2⟩:=insS_ok ky (a:=a) (b:=a+20) G
   obtain ⟨k1,k2,k3⟩:=stR_ok n f (a+20) (insS ky a (a+20) G) (by omega) (by omega)
   refine ⟨fun j=>?_,(h2.more (Nat.le_refl _) c).trans (k2.more (by omega) (Nat.le_refl _)),(insS_prm ky G c).trans k3⟩
   cases j with
   | zero =>
    rw [Nat.zero_mul,Nat.add_zero,show min (a+20) n=a+20 by omega]
    exact So.congr ky h1 fun k p1 p2=>k2.out k (by omega)
   | succ j =>
    have:=k1 j
    rw [show a+20+j*20=a+(j+1)*20 by omega] at this
    exact this
  ·rw [if_neg c]
   obtain ⟨h1,h2⟩:=insS_ok ky (a:=a) (b:=n) G
   refine ⟨fun j=>?_,h2,insS_prm ky G (Nat.le_refl _)⟩
   exact So.part ky h1 (by omega) (by omega)
theorem mgR_ok (n s:Nat) (hs:0<s):∀ (f a:Nat) (G:Nat→α),n-a<f→a≤n→Bks ky n s a G→Bks ky n (2*s) a (mgR ky n s f a G)∧Wi a n G (mgR ky n s f a G)∧Prm n G (mgR ky n s f a G)
 | 0,a,G,h,_,_=>by omega
 | f+1,a,G,h,h0,hB=>by
  have b0:=hB 0
  have b1:=hB 1
  rw [Nat.zero_mul,Nat.add_zero] at b0
  rw [Nat.one_mul] at b1
  unfold mgR
  by_cases c:a+2*s≤n
  ·rw [if_pos c]
   rw [show min (a+s) n=a+s by omega] at b0
   rw [show min (a+s+s) n=a+2*s by omega] at b1
   obtain ⟨h1,h2⟩:=symM_ok ky (2*s) a (a+s) (a+2*s) G (by omega) (by omega) (by omega) b0 b1
   have hp:=symM_prm ky n (2*s) a (a+s) (a+2*s) G (by omega) (by omega) c
   generalize symM ky (2*s) a (a+s) (a+2*s) G=G1 at h1 h2 hp
   obtain ⟨k1,k2,k3⟩:=mgR_ok n s hs f (a+2*s) G1 (by omega) (by omega) (fun j=>by
    have hj:=hB (j+2)
    rw [show a+(j+2)*s=a+2*s+j*s by rw [Nat.add_mul];omega] at hj
    exact So.congr ky hj fun k p1 p2=>h2.out k (by omega))
   refine ⟨fun j=>?_,(h2.more (Nat.le_refl _) c).trans (k2.more (by omega) (Nat.le_refl _)),hp.trans k3⟩
   cases j with
   | zero =>
    rw [Nat.zero_mul,Nat.add_zero,show min (a+2*s) n=a+2*s by omega]
    exact So.congr ky h1 fun k p1 p2=>k2.out k (by omega)
   | succ j =>
    have hj:=k1 j
    rw [show a+2*s+j*(2*s)=a+(j+1)*(2*s) by rw [Nat.add_mul];omega] at hj
    exact hj
  ·rw [if_neg c]
   have far:∀ j,0<j→n≤a+j*(2*s):=fun j hj=>by
    have:2*s≤j*(2*s):=Nat.le_mul_of_pos_left _ hj
    omega
   by_cases c2:a+s<n
   ·rw [if_pos c2]
    rw [show min (a+s) n=a+s by omega] at b0
    rw [show min (a+s+s) n=n by omega] at b1
    obtain ⟨h1,h2⟩:=symM_ok ky (2*s) a (a+s) n G (by omega) (by omega) (by omega) b0 b1
    refine ⟨fun j=>?_,h2,symM_prm ky n (2*s) a (a+s) n G (by omega) (by omega) (Nat.le_refl _)⟩
    cases j with
    | zero=>exact So.part ky h1 (by omega) (by omega)
    | succ j=>exact So.empty ky (by have:=far (j+1) (by omega);omega)
   ·rw [if_neg c2]
    refine ⟨fun j=>?_,Wi.refl _ _ _,Prm.refl _ _⟩
    cases j with
    | zero =>
     rw [Nat.zero_mul,Nat.add_zero]
     exact So.part ky b0 (by omega) (by omega)
    | succ j=>exact So.empty ky (by have:=far (j+1) (by omega);omega)
theorem mgL_ok (n:Nat):∀ (f s:Nat) (G:Nat→α),0<s→n-s≤f→Bks ky n s 0 G→So ky (mgL ky n f s G) 0 n∧Prm n G (mgL ky n f s G)
 | 0,s,G,h0,h,hB=>by
  have b0:=hB 0
  refine ⟨So.part ky b0 (by omega) (by omega),Prm.refl _ _⟩
 | f+1,s,G,h0,h,hB=>by
  unfold mgL
  by_cases c:s<n
  ·rw [if_pos c]
   obtain ⟨k1,k2,k3⟩:=mgR_ok ky n s h0 (n+1) 0 G (by omega) (by omega) hB
   obtain ⟨q1,q2⟩:=mgL_ok n f (2*s) _ (by omega) (by omega) k1
   exact ⟨q1,k3.trans q2⟩
  ·rw [if_neg c]
   have b0:=hB 0
   exact ⟨So.part ky b0 (by omega) (by omega),Prm.refl _ _⟩
theorem stb_ok (n:Nat) (G:Nat→α):So ky (stb ky n G) 0 n∧Prm n G (stb ky n G):=by
 unfold stb
 obtain ⟨k1,k2,k3⟩:=stR_ok ky n (n+1) 0 G (by omega) (by omega)
 obtain ⟨q1,q2⟩:=mgL_ok ky n n 20 _ (by omega) (by omega) k1
 exact ⟨q1,k3.trans q2⟩
end
structure DSt where
 seen:Nat→Bool
 left:List Int
def mkB (s:Nat→Bool) (i:Nat):Nat→Bool:=fun k=>if k=i then true else s k
theorem mkB_or (s:Nat→Bool) (i k:Nat):mkB s i k=(s k || decide (k=i)):=by
 unfold mkB
 by_cases h:k=i
 ·rw [if_pos h];simp [h]
 ·rw [if_neg h];simp [h]
def nxt (ns:List Nd) (i:Nat):List Int:=match ns[i]? with
 | some n=>nextsOf n
 | none=>[]
theorem nxt_at {ns:List Nd} {i:Nat} {n:Nd} (h:ns[i]?=some n):nxt ns i=nextsOf n:=by unfold nxt;rw [h]
theorem nxt_mem {ns:List Nd} {i:Nat} {x:Int} (h:x ∈ nxt ns i):∃ n,ns[i]?=some n∧x ∈ nextsOf n:=by
 unfold nxt at h
 rcases e:ns[i]? with _ | n
 ·rw [e] at h;cases h
 ·rw [e] at h;exact ⟨n,rfl,h⟩
theorem nxt_in {ns:List Nd} (hv:NextIn ns) {i:Nat} {x:Int} (h:x ∈ nxt ns i):0≤x∧x<ns.length:=by
 obtain ⟨n,h1,h2⟩:=nxt_mem h
 exact hv n (List.mem_of_getElem? h1) x h2
def vis (ns:List Nd):Nat→Nat→DSt→DSt
 | 0,_,s=>s
 | f+1,i,s =>
  let s2:=(nxt ns i).foldl (fun s x=>if s.seen x.toNat=true then s else vis ns f x.toNat s) ⟨mkB s.seen i,s.left⟩
  ⟨s2.seen,s2.left ++ [(i:Int)]⟩
def visS (ns:List Nd) (f:Nat) (s:DSt) (x:Int):DSt:=if s.seen x.toNat=true then s else vis ns f x.toNat s
def visL (ns:List Nd) (f:Nat) (xs:List Int) (s:DSt):DSt:=xs.foldl (visS ns f) s
theorem vis_succ (ns:List Nd) (f i:Nat) (s:DSt):vis ns (f+1) i s=⟨(visL ns f (nxt ns i) ⟨mkB s.seen i,s.left⟩).seen,(visL ns f (nxt ns i) ⟨mkB s.seen i,s.left⟩).left ++ [(i:Int)]⟩:=rfl
theorem visL_snoc (ns:List Nd) (f:Nat) (xs:List Int) (x:Int) (s:DSt):visL ns f (xs ++ [x]) s=visS ns f (visL ns f xs s) x:=by simp [visL]
theorem visS_yes {ns:List Nd} {f:Nat} {s:DSt} {x:Int} (h:s.seen x.toNat=true):visS ns f s x=s:=if_pos h
theorem visS_no {ns:List Nd} {f:Nat} {s:DSt} {x:Int} (h:s.seen x.toNat=false):visS ns f s x=vis ns f x.toNat s:=if_neg (by rw [h];decide)
def unS (s:Nat→Bool) (n:Nat):Nat:=(List.range n).countP fun i=>!s i
theorem unS_mark {s:Nat→Bool} {n i:Nat} (hi:i<n) (h:s i=false):unS s n=unS (mkB s i) n+1:=by
 unfold unS
 refine countP_one (fun k=>!mkB s i k) (fun k=>!s k) i n hi (by simp [mkB]) fun k=>?_
 rw [mkB_or]
 by_cases e:k=i
 ·subst e;simp [h]
 ·simp [e]
theorem countP_le_of {P Q:Nat→Bool} (h:∀ i,P i=true→Q i=true) (l:List Nat):l.countP P≤l.countP Q:=by
 induction l with
 | nil=>simp
 | cons a r ih =>
  rw [List.countP_cons,List.countP_cons]
  rcases hp:P a with _ | _
  ·have:=Nat.zero_le (if Q a=true then 1 else 0)
   simp only [Bool.false_eq_true,if_false]
   omega
  ·rw [h a hp]
   simp only [if_true]
   omega
theorem unS_mono {s t:Nat→Bool} (n:Nat) (h:∀ k,s k=true→t k=true):unS t n≤unS s n:=by
 unfold unS
 refine countP_le_of (fun i hi=>?_) _
 rcases e:s i with _ | _
 ·rfl
 ·rw [h i e] at hi;cases hi
theorem unS_pos {s:Nat→Bool} {n i:Nat} (hi:i<n) (h:s i=false):0<unS s n:=by
 rw [unS_mark hi h];omega
theorem unS_none (n:Nat):unS (fun _=>false) n=n:=by
 unfold unS
 rw [List.countP_eq_length.2 (fun a _=>by rfl)]
 simp
structure DLp (ns:List Nd) (s t:DSt) (xs:List Int) (l:List Int):Prop where
 mono:∀ k,s.seen k=true→t.seen k=true
 left:t.left=s.left ++ l
 nodup:l.Nodup
 mem:∀ k:Nat,(k:Int) ∈ l↔t.seen k=true∧s.seen k=false
 nat:∀ x ∈ l,∃ k:Nat,x=k∧k<ns.length
 clo:∀ k:Nat,(k:Int) ∈ l→∀ x ∈ nxt ns k,t.seen x.toNat=true
 all:∀ x ∈ xs,t.seen x.toNat=true
 pre:∀ x ∈ l,x ∈ xs∨∃ j:Nat,(j:Int) ∈ l∧(j:Int)≠x∧x ∈ nxt ns j
 cnt:l.length+unS t.seen ns.length=unS s.seen ns.length
theorem DLp.nil (ns:List Nd) (s:DSt):DLp ns s s [] [] :=
 ⟨fun _ h=>h,by simp,List.nodup_nil,(fun k=>⟨(fun h=>by cases h),(fun h=>by have h2:=h.2;rw [h.1] at h2;cases h2)⟩),(fun x h=>by cases h),(fun k h=>by cases h),(fun x h=>by cases h),(fun x h=>by cases h),by simp⟩
theorem DLp.join {ns:List Nd} {s t u:DSt} {xs ys l m:List Int} (h:DLp ns s t xs l) (k:DLp ns t u ys m):DLp ns s u (xs ++ ys) (l ++ m):=by
 refine ⟨fun i hi=>k.mono i (h.mono i hi),by rw [k.left,h.left,List.append_assoc],?_,fun i=>?_,fun x hx=>?_,fun i hi x hx=>?_,fun x hx=>?_,fun x hx=>?_,by rw [List.length_append];have h1:=h.cnt;have h2:=k.cnt;omega⟩
 ·refine List.nodup_append.2 ⟨h.nodup,k.nodup,fun a ha b hb e=>?_⟩
  subst e
  obtain ⟨i,rfl,_⟩:=h.nat a ha
  have h1:=((h.mem i).1 ha).1
  have h2:=((k.mem i).1 hb).2
  rw [h1] at h2
  cases h2
 ·rw [List.mem_append,h.mem i,k.mem i]
  constructor
  ·rintro (⟨h1,h2⟩ | ⟨h1,h2⟩)
   ·exact ⟨k.mono i h1,h2⟩
   ·refine ⟨h1,?_⟩
    rcases e:s.seen i with _ | _
    ·rfl
    ·rw [h.mono i e] at h2;cases h2
  ·rintro ⟨h1,h2⟩
   rcases e:t.seen i with _ | _
   ·exact .inr ⟨h1,rfl⟩
   ·exact .inl ⟨rfl,h2⟩
 ·rcases List.mem_append.1 hx with hx | hx
  ·exact h.nat x hx
  ·exact k.nat x hx
 ·rcases List.mem_append.1 hi with hi | hi
  ·exact k.mono _ (h.clo i hi x hx)
  ·exact k.clo i hi x hx
 ·rcases List.mem_append.1 hx with hx | hx
  ·exact k.mono _ (h.all x hx)
  ·exact k.all x hx
 ·rcases List.mem_append.1 hx with hx | hx
  ·rcases h.pre x hx with h1 | ⟨j,h1,h2,h3⟩
   ·exact .inl (List.mem_append_left _ h1)
   ·exact .inr ⟨j,List.mem_append_left _ h1,h2,h3⟩
  ·rcases k.pre x hx with h1 | ⟨j,h1,h2,h3⟩
   ·exact .inl (List.mem_append_right _ h1)
   ·exact .inr ⟨j,List.mem_append_right _ h1,h2,h3⟩
theorem DLp.seen {ns:List Nd} {s:DSt} {x:Int} (h:s.seen x.toNat=true):DLp ns s s [x] [] :=
 ⟨fun _ h=>h,by simp,List.nodup_nil,(fun k=>⟨(fun h=>by cases h),(fun h=>by have h2:=h.2;rw [h.1] at h2;cases h2)⟩),(fun x h=>by cases h),(fun k h=>by cases h),(fun y hy=>by rw [List.mem_singleton.1 hy];exact h),(fun x h=>by cases h),by simp⟩
theorem visL_ok {ns:List Nd} (hv:NextIn ns) {f:Nat} (hvis:∀ (i:Nat) (s:DSt),i<ns.length→s.seen i=false→unS s.seen ns.length≤f→∃ l,DLp ns s (vis ns f i s) [(i:Int)] l) :
  ∀ (xs:List Int) (s:DSt),(∀ x ∈ xs,0≤x∧x<(ns.length:Int))→unS s.seen ns.length≤f→∃ l,DLp ns s (visL ns f xs s) xs l
 | [],s,_,_=>⟨[],DLp.nil ns s⟩
 | x :: xs,s,hx,hu=>by
  obtain ⟨x0,x1⟩:=hx x (by simp)
  obtain ⟨k,rfl⟩:∃ k:Nat,x=(k:Int):=⟨x.toNat,by omega⟩
  have h1:∃ l,DLp ns s (visS ns f s (k:Int)) [(k:Int)] l:=by
   rcases e:s.seen k with _ | _
   ·rw [visS_no (by rw [Int.toNat_natCast];exact e),Int.toNat_natCast]
    exact hvis k s (by omega) e hu
   ·rw [visS_yes (by rw [Int.toNat_natCast];exact e)]
    exact ⟨[],DLp.seen (by rw [Int.toNat_natCast];exact e)⟩
  obtain ⟨l1,h1⟩:=h1
  obtain ⟨l2,h2⟩:=visL_ok hv hvis xs (visS ns f s (k:Int)) (fun y hy=>hx y (by simp [hy])) (Nat.le_trans (unS_mono _ h1.mono) hu)
  exact ⟨l1 ++ l2,h1.join h2⟩
theorem vis_ok {ns:List Nd} (hv:NextIn ns):∀ (f i:Nat) (s:DSt),i<ns.length→s.seen i=false→unS s.seen ns.length≤f→∃ l,DLp ns s (vis ns f i s) [(i:Int)] (l ++ [(i:Int)])
 | 0,i,s,hi,h,hu=>absurd (unS_pos hi h) (by omega)
 | f+1,i,s,hi,h,hu=>by
  have hm:=unS_mark hi h
  obtain ⟨l,hl⟩:=visL_ok hv (fun j t hj ht htu=>by
   obtain ⟨l,hl⟩:=vis_ok hv f j t hj ht htu
   exact ⟨_,hl⟩) (nxt ns i) ⟨mkB s.seen i,s.left⟩ (fun x hx=>nxt_in hv hx) (by show unS (mkB s.seen i) _≤f;omega)
  have hmi:∀ k,mkB s.seen i k=true↔s.seen k=true∨k=i:=fun k=>by rw [mkB_or];simp
  have hni:(i:Int) ∉ l:=fun hx=>by
   have h2:=((hl.mem i).1 hx).2
   rw [show (DSt.mk (mkB s.seen i) s.left).seen i=true from (hmi i).2 (.inr rfl)] at h2
   cases h2
  refine ⟨l,?_⟩
  rw [vis_succ]
  refine ⟨fun k hk=>hl.mono k ((hmi k).2 (.inl hk)),?_,?_,fun k=>?_,fun x hx=>?_,fun k hk x hx=>?_,fun x hx=>?_,fun x hx=>?_,?_⟩
  ·show (visL ns f (nxt ns i) ⟨mkB s.seen i,s.left⟩).left ++ [(i:Int)]=_
   rw [hl.left,List.append_assoc]
  ·refine List.nodup_append.2 ⟨hl.nodup,by simp,fun a ha b hb e=>?_⟩
   rw [List.mem_singleton.1 hb] at e
   subst e
   exact hni ha
  ·rw [List.mem_append,List.mem_singleton,hl.mem k]
   show _∧mkB s.seen i k=false∨_↔_
   constructor
   ·rintro (⟨h1,h2⟩ | h1)
    ·refine ⟨h1,?_⟩
     rcases e:s.seen k with _ | _
     ·rfl
     ·rw [(hmi k).2 (.inl e)] at h2;cases h2
    ·have:k=i:=by omega
     subst this
     exact ⟨hl.mono k ((hmi k).2 (.inr rfl)),h⟩
   ·rintro ⟨h1,h2⟩
    by_cases e:k=i
    ·exact .inr (by rw [e])
    ·refine .inl ⟨h1,?_⟩
     rw [mkB_or,h2]
     simp [e]
  ·rcases List.mem_append.1 hx with hx | hx
   ·exact hl.nat x hx
   ·exact ⟨i,List.mem_singleton.1 hx,hi⟩
  ·rcases List.mem_append.1 hk with hk | hk
   ·exact hl.clo k hk x hx
   ·have:k=i:=by have:=List.mem_singleton.1 hk;omega
    subst this
    exact hl.all x hx
  ·rw [List.mem_singleton.1 hx,Int.toNat_natCast]
   exact hl.mono i ((hmi i).2 (.inr rfl))
  ·rcases List.mem_append.1 hx with hx | hx
   ·refine .inr ?_
    rcases hl.pre x hx with h1 | ⟨j,h1,h2,h3⟩
    ·exact ⟨i,List.mem_append_right _ (by simp),fun e=>hni (by rw [e];exact hx),h1⟩
    ·exact ⟨j,List.mem_append_left _ h1,h2,h3⟩
   ·exact .inl hx
  ·have h1:l.length+unS (visL ns f (nxt ns i) ⟨mkB s.seen i,s.left⟩).seen ns.length=unS (mkB s.seen i) ns.length:=hl.cnt
   show (l ++ [(i:Int)]).length+unS (visL ns f (nxt ns i) ⟨mkB s.seen i,s.left⟩).seen ns.length=_
   rw [List.length_append,List.length_singleton]
   omega
theorem nodup_rev {l:List Int} (h:l.Nodup):l.reverse.Nodup:=by
 unfold List.Nodup at h ⊢
 exact (List.pairwise_reverse).2 (h.imp fun hab=>hab.symm)
def leftK (ns:List Nd) (e:Nat):List Int:=(vis ns ns.length e ⟨fun _=>false,[]⟩).left
def lineK (ns:List Nd) (e:Nat):List Int:=(leftK ns e).reverse
structure LineP (ns:List Nd) (e:Nat) (l:List Int):Prop where
 len:l.length≤ns.length
 nodup:l.Nodup
 nat:∀ x ∈ l,∃ k:Nat,x=k∧k<ns.length
 first:∃ r,l=(e:Int) :: r
 clo:∀ k:Nat,(k:Int) ∈ l→∀ x ∈ nxt ns k,x ∈ l
 pre:∀ x ∈ l,x≠e→∃ j:Nat,(j:Int) ∈ l∧(j:Int)≠x∧x ∈ nxt ns j
theorem lineK_ok {ns:List Nd} (hv:NextIn ns) {e:Nat} (he:e<ns.length):LineP ns e (lineK ns e):=by
 obtain ⟨l,h⟩:=vis_ok hv ns.length e ⟨fun _=>false,[]⟩ he rfl (by rw [unS_none];exact Nat.le_refl _)
 have hle:leftK ns e=l ++ [(e:Int)]:=by
  unfold leftK
  rw [h.left]
  rfl
 have hre:lineK ns e=(e:Int) :: l.reverse:=by
  unfold lineK
  rw [hle]
  simp
 have hm:∀ x,x ∈ lineK ns e↔x ∈ l ++ [(e:Int)]:=fun x=>by
  unfold lineK
  rw [List.mem_reverse,hle]
 refine ⟨?_,?_,fun x hx=>h.nat x ((hm x).1 hx),⟨_,hre⟩,fun k hk x hx=>?_,fun x hx hne=>?_⟩
 ·have h1:=h.cnt
  rw [show unS (DSt.mk (fun _=>false) []).seen ns.length=ns.length from unS_none _] at h1
  unfold lineK
  rw [hle,List.length_reverse]
  omega
 ·unfold lineK
  rw [hle]
  exact nodup_rev h.nodup
 ·have h1:=h.clo k ((hm _).1 hk) x hx
  obtain ⟨h0,_⟩:=nxt_in hv hx
  rw [hm,show x=((x.toNat:Nat):Int) by omega,h.mem]
  exact ⟨h1,rfl⟩
 ·rcases h.pre x ((hm x).1 hx) with h1 | ⟨j,h1,h2,h3⟩
  ·exact absurd (List.mem_singleton.1 h1) hne
  ·exact ⟨j,(hm _).2 h1,h2,h3⟩
end Go.Proofs.YtedmcfaghfgpoaaGreatDoor
