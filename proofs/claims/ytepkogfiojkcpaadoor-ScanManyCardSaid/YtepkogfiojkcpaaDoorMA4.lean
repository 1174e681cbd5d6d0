/-
  Texts of one seat, one behind the other: JMrg, JStb, OMath, OSpn, Set, New.
-/
import Derived.Deep.OwnRows
import Derived.Deep.RegionLaw
import Derived.StillTailTactics
import Derived.Test.YtepkogfiojkcpaaDoorMA3
import Derived.Test.YtepkogfiojkcpaaDoorMA1
import Derived.Test.YtepkogfiojkcpaaDoorMA2

set_option linter.unusedVariables false
set_option linter.unusedSimpArgs false
set_option maxRecDepth 100000
set_option maxHeartbeats 51200000
namespace Go.Proofs.YtepkogfiojkcpaaDoor
section
variable {α:Type} (ky:α→Int)
def stM (G:Nat→α) (a m b:Nat):Nat :=
 if (a+b) / 2<m then bsF (fun c=>!decide (ky (G ((a+b) / 2+m-1-c))<ky (G c))) ((a+b) / 2-((a+b) / 2+m-b)) ((a+b) / 2+m-b) ((a+b) / 2)
 else bsF (fun c=>!decide (ky (G ((a+b) / 2+m-1-c))<ky (G c))) (m-a) a m
def symM:Nat→Nat→Nat→Nat→(Nat→α)→(Nat→α)
 | 0,_,_,_,G=>G
 | f+1,a,m,b,G =>
  if m-a=1 then shU (bsF (fun h=>decide (ky (G h)<ky (G a))) (b-m) m b-1-a) a G
  else if b-m=1 then shD (m-bsF (fun h=>!decide (ky (G m)<ky (G h))) (m-a) a m) m G
  else
   let mid:=(a+b) / 2
   let s:=stM ky G a m b
   let e:=mid+m-s
   let G1:=if s<m∧m<e then rotF m (e-s) (m-s) (e-m) G else G
   let G2:=if a<s∧s<mid then symM f a s mid G1 else G1
   if mid<e∧e<b then symM f mid e b G2 else G2
theorem stM_ok (G:Nat→α) {a m b:Nat} (h1:a<m) (h2:m<b):a≤stM ky G a m b∧stM ky G a m b≤m∧stM ky G a m b≤(a+b) / 2∧m≤(a+b) / 2+m-stM ky G a m b∧(a+b) / 2+m-stM ky G a m b≤b ∧
  (m<(a+b) / 2+m-stM ky G a m b→stM ky G a m b<m→ky (G ((a+b) / 2+m-stM ky G a m b-1))<ky (G (stM ky G a m b))) ∧
  (a<stM ky G a m b→(a+b) / 2+m-stM ky G a m b<b→ky (G (stM ky G a m b-1))≤ky (G ((a+b) / 2+m-stM ky G a m b))):=by
 unfold stM
 by_cases hm:(a+b) / 2<m
 ·rw [if_pos hm]
  obtain ⟨k1,k2,k3,k4⟩:=bs_edge (fun c=>!decide (ky (G ((a+b) / 2+m-1-c))<ky (G c))) ((a+b) / 2-((a+b) / 2+m-b)) ((a+b) / 2+m-b) ((a+b) / 2) (by omega) (Nat.le_refl _)
  revert k1 k2 k3 k4
  generalize bsF (fun c=>!decide (ky (G ((a+b) / 2+m-1-c))<ky (G c))) ((a+b) / 2-((a+b) / 2+m-b)) ((a+b) / 2+m-b) ((a+b) / 2)=s
  intro k1 k2 k3 k4
  refine ⟨by omega,by omega,by omega,by omega,by omega,fun c1 c2=>?_,fun c1 c2=>?_⟩
  ·rcases k4 with e | e
   ·omega
   ·simp only [Bool.not_eq_false',decide_eq_true_eq] at e
    rw [show (a+b) / 2+m-s-1=(a+b) / 2+m-1-s by omega]
    exact e
  ·rcases k3 with e | e
   ·omega
   ·simp only [Bool.not_eq_true',decide_eq_false_iff_not] at e
    rw [show (a+b) / 2+m-1-(s-1)=(a+b) / 2+m-s by omega] at e
    omega
 ·rw [if_neg hm]
  obtain ⟨k1,k2,k3,k4⟩:=bs_edge (fun c=>!decide (ky (G ((a+b) / 2+m-1-c))<ky (G c))) (m-a) a m (by omega) (Nat.le_refl _)
  revert k1 k2 k3 k4
  generalize bsF (fun c=>!decide (ky (G ((a+b) / 2+m-1-c))<ky (G c))) (m-a) a m=s
  intro k1 k2 k3 k4
  refine ⟨by omega,by omega,by omega,by omega,by omega,fun c1 c2=>?_,fun c1 c2=>?_⟩
  ·rcases k4 with e | e
   ·omega
   ·simp only [Bool.not_eq_false',decide_eq_true_eq] at e
    rw [show (a+b) / 2+m-s-1=(a+b) / 2+m-1-s by omega]
    exact e
  ·rcases k3 with e | e
   ·omega
   ·simp only [Bool.not_eq_true',decide_eq_false_iff_not] at e
    rw [show (a+b) / 2+m-1-(s-1)=(a+b) / 2+m-s by omega] at e
    omega
theorem symM_prm (M:Nat):∀ (f a m b:Nat) (G:Nat→α),a<m→m<b→b≤M→Prm M G (symM ky f a m b G)
 | 0,a,m,b,G,h1,h2,h3=>Prm.refl _ _
 | f+1,a,m,b,G,h1,h2,h3=>by
  unfold symM
  by_cases c1:m-a=1
  ·rw [if_pos c1]
   have:=bs_edge (fun h=>decide (ky (G h)<ky (G a))) (b-m) m b (by omega) (Nat.le_refl _)
   exact shU_prm M _ _ _ (by omega)
  ·rw [if_neg c1]
   by_cases c2:b-m=1
   ·rw [if_pos c2]
    exact shD_prm M _ _ _ (by omega)
   ·rw [if_neg c2]
    simp only
    obtain ⟨k1,k2,k3,k4,k5,_,_⟩:=stM_ok ky G h1 h2
    generalize stM ky G a m b=s at k1 k2 k3 k4 k5
    have g1:Prm M G (if s<m∧m<(a+b) / 2+m-s then rotF m ((a+b) / 2+m-s-s) (m-s) ((a+b) / 2+m-s-m) G else G):=by
     split
     ·exact rot_prm m M _ _ _ _ (by omega) (by omega)
     ·exact Prm.refl _ _
    generalize (if s<m∧m<(a+b) / 2+m-s then rotF m ((a+b) / 2+m-s-s) (m-s) ((a+b) / 2+m-s-m) G else G)=G1 at g1
    have g2:Prm M G1 (if a<s∧s<(a+b) / 2 then symM ky f a s ((a+b) / 2) G1 else G1):=by
     split
     ·exact symM_prm M f _ _ _ _ (by omega) (by omega) (by omega)
     ·exact Prm.refl _ _
    generalize (if a<s∧s<(a+b) / 2 then symM ky f a s ((a+b) / 2) G1 else G1)=G2 at g2
    refine g1.trans (g2.trans ?_)
    split
    ·exact symM_prm M f _ _ _ _ (by omega) (by omega) (by omega)
    ·exact Prm.refl _ _
theorem symM_ok:∀ (f a m b:Nat) (G:Nat→α),a<m→m<b→b-a≤f→So ky G a m→So ky G m b→So ky (symM ky f a m b G) a b∧Wi a b G (symM ky f a m b G)
 | 0,a,m,b,G,h1,h2,h3,hA,hB=>by omega
 | f+1,a,m,b,G,h1,h2,h3,hA,hB=>by
  unfold symM
  by_cases c1:m-a=1
  ·rw [if_pos c1]
   obtain rfl:m=a+1:=by omega
   obtain ⟨k1,k2,k3,k4⟩:=bs_edge (fun h=>decide (ky (G h)<ky (G a))) (b-(a+1)) (a+1) b (by omega) (Nat.le_refl _)
   generalize bsF (fun h=>decide (ky (G h)<ky (G a))) (b-(a+1)) (a+1) b=i at k1 k2 k3 k4
   have hat:=fun k=>shU_at (i-1-a) a G k
   have e3:a+1<i→ky (G (i-1))<ky (G a):=fun hh=>by
    rcases k3 with e | e
    ·omega
    ·simpa using e
   have e4:i<b→ky (G a)≤ky (G i):=fun hh=>by
    rcases k4 with e | e
    ·omega
    ·simpa using e
   refine ⟨fun x y p1 p2 p3=>?_,⟨fun k hk=>?_,fun k p1 p2=>?_⟩⟩
   ·rw [hat x,hat y]
    by_cases x1:x<i-1
    ·rw [if_pos (by omega)]
     by_cases y1:y<i-1
     ·rw [if_pos (by omega)]
      exact hB _ _ (by omega) (by omega) (by omega)
     ·rw [if_neg (by omega)]
      by_cases y2:y=i-1
      ·rw [if_pos (by omega)]
       exact Int.le_trans (So.le ky hB (i:=x+1) (j:=i-1) (by omega) (by omega) (by omega)) (Int.le_of_lt (e3 (by omega)))
      ·rw [if_neg (by omega)]
       exact hB _ _ (by omega) (by omega) (by omega)
    ·rw [if_neg (by omega)]
     by_cases x2:x=i-1
     ·rw [if_pos (by omega),if_neg (by omega),if_neg (by omega)]
      exact Int.le_trans (e4 (by omega)) (So.le ky hB (by omega) (by omega) (by omega))
     ·rw [if_neg (by omega),if_neg (by omega),if_neg (by omega)]
      exact hB _ _ (by omega) (by omega) (by omega)
   ·rw [hat k,if_neg (by omega)]
    split
    ·omega
    ·rfl
   ·rw [hat k]
    split
    ·exact ⟨k+1,by omega,by omega,rfl⟩
    ·split
     ·exact ⟨a,by omega,by omega,rfl⟩
     ·exact ⟨k,by omega,by omega,rfl⟩
  ·rw [if_neg c1]
   by_cases c2:b-m=1
   ·rw [if_pos c2]
    obtain rfl:b=m+1:=by omega
    obtain ⟨k1,k2,k3,k4⟩:=bs_edge (fun h=>!decide (ky (G m)<ky (G h))) (m-a) a m (by omega) (Nat.le_refl _)
    generalize bsF (fun h=>!decide (ky (G m)<ky (G h))) (m-a) a m=i at k1 k2 k3 k4
    have hat:=fun k=>shD_at (m-i) m G k (by omega)
    have e3:a<i→ky (G (i-1))≤ky (G m):=fun hh=>by
     rcases k3 with e | e
     ·omega
     ·simpa using e
    have e4:i<m→ky (G m)<ky (G i):=fun hh=>by
     rcases k4 with e | e
     ·omega
     ·simpa using e
    refine ⟨fun x y p1 p2 p3=>?_,⟨fun k hk=>?_,fun k p1 p2=>?_⟩⟩
    ·rw [hat x,hat y]
     by_cases x1:x<i
     ·rw [if_neg (by omega),if_neg (by omega)]
      by_cases y1:y<i
      ·rw [if_neg (by omega),if_neg (by omega)]
       exact hA _ _ (by omega) (by omega) (by omega)
      ·by_cases y2:y=i
       ·rw [if_neg (by omega),if_pos (by omega)]
        exact Int.le_trans (So.le ky hA (i:=x) (j:=i-1) (by omega) (by omega) (by omega)) (e3 (by omega))
       ·rw [if_pos (by omega)]
        exact hA _ _ (by omega) (by omega) (by omega)
     ·by_cases x2:x=i
      ·rw [if_neg (by omega),if_pos (by omega),if_pos (by omega)]
       exact Int.le_trans (Int.le_of_lt (e4 (by omega))) (So.le ky hA (by omega) (by omega) (by omega))
      ·rw [if_pos (by omega),if_pos (by omega)]
       exact hA _ _ (by omega) (by omega) (by omega)
    ·rw [hat k,if_neg (by omega)]
     split
     ·omega
     ·rfl
    ·rw [hat k]
     split
     ·exact ⟨k-1,by omega,by omega,rfl⟩
     ·split
      ·exact ⟨m,by omega,by omega,rfl⟩
      ·exact ⟨k,by omega,by omega,rfl⟩
   ·rw [if_neg c2]
    simp only
    obtain ⟨k1,k2,k3,k4,k5,k6,k7⟩:=stM_ok ky G h1 h2
    generalize stM ky G a m b=s at k1 k2 k3 k4 k5 k6 k7
    obtain ⟨mid,hmid⟩:∃ mid,mid=(a+b) / 2:=⟨_,rfl⟩
    have hm1:a<mid:=by omega
    have hm2:mid<b:=by omega
    have hm3:mid-a≤f:=by omega
    have hm4:b-mid≤f:=by omega
    rw [← hmid] at k3 k4 k5 k6 k7 ⊢
    clear hmid
    obtain ⟨e,he⟩:∃ e,e=mid+m-s:=⟨_,rfl⟩
    rw [← he] at k4 k5 k6 k7 ⊢
    have g1:∀ k,(if s<m∧m<e then rotF m (e-s) (m-s) (e-m) G else G) k=if s≤k∧k<mid then G (k+(m-s)) else if mid≤k∧k<e then G (k-(e-m)) else G k:=by
     intro k
     split
     ·rw [rot_at m (e-s) (m-s) (e-m) G k (by omega) (by omega) (by omega) (by omega)]
      repeat' split
      all_goals first | rfl | (exfalso;omega) | (exact congrArg G (by omega))
     ·repeat' split
      all_goals first | rfl | (exfalso;omega) | (exact congrArg G (by omega))
    generalize (if s<m∧m<e then rotF m (e-s) (m-s) (e-m) G else G)=G1 at g1
    have w1:Wi a b G G1:=⟨fun k hk=>by rw [g1,if_neg (by omega),if_neg (by omega)],fun k p1 p2=>by
     rw [g1]
     split
     ·exact ⟨k+(m-s),by omega,by omega,rfl⟩
     ·split
      ·exact ⟨k-(e-m),by omega,by omega,rfl⟩
      ·exact ⟨k,p1,p2,rfl⟩⟩
    have cross:∀ x y,a≤x→x<mid→mid≤y→y<b→ky (G1 x)≤ky (G1 y):=by
     intro x y p1 p2 p3 p4
     rw [g1 x,g1 y]
     by_cases x1:x<s
     ·rw [if_neg (by omega),if_neg (by omega),if_neg (by omega)]
      by_cases y1:y<e
      ·rw [if_pos (by omega)]
       exact hA _ _ (by omega) (by omega) (by omega)
      ·rw [if_neg (by omega)]
       exact Int.le_trans (So.le ky hA (i:=x) (j:=s-1) (by omega) (by omega) (by omega)) (Int.le_trans (k7 (by omega) (by omega)) (So.le ky hB (by omega) (by omega) (by omega)))
     ·rw [if_pos (by omega),if_neg (by omega)]
      by_cases y1:y<e
      ·rw [if_pos (by omega)]
       exact Int.le_trans (So.le ky hB (i:=x+(m-s)) (j:=e-1) (by omega) (by omega) (by omega)) (Int.le_trans (Int.le_of_lt (k6 (by omega) (by omega))) (So.le ky hA (by omega) (by omega) (by omega)))
      ·rw [if_neg (by omega)]
       exact So.le ky hB (by omega) (by omega) (by omega)
    have a1:So ky G1 a s:=fun x y p1 p2 p3=>by
     rw [g1 x,g1 y,if_neg (by omega),if_neg (by omega),if_neg (by omega),if_neg (by omega)]
     exact hA _ _ (by omega) (by omega) (by omega)
    have a2:So ky G1 s mid:=fun x y p1 p2 p3=>by
     rw [g1 x,g1 y,if_pos (by omega),if_pos (by omega)]
     exact hB _ _ (by omega) (by omega) (by omega)
    have a3:So ky G1 mid e:=fun x y p1 p2 p3=>by
     rw [g1 x,g1 y,if_neg (by omega),if_pos (by omega),if_neg (by omega),if_pos (by omega)]
     exact hA _ _ (by omega) (by omega) (by omega)
    have a4:So ky G1 e b:=fun x y p1 p2 p3=>by
     rw [g1 x,g1 y,if_neg (by omega),if_neg (by omega),if_neg (by omega),if_neg (by omega)]
     exact hB _ _ (by omega) (by omega) (by omega)
    have g2:So ky (if a<s∧s<mid then symM ky f a s mid G1 else G1) a mid∧Wi a mid G1 (if a<s∧s<mid then symM ky f a s mid G1 else G1):=by
     by_cases c:a<s∧s<mid
     ·rw [if_pos c]
      exact symM_ok f a s mid G1 c.1 c.2 hm3 a1 a2
     ·rw [if_neg c]
      refine ⟨?_,Wi.refl _ _ _⟩
      by_cases c':a<s
      ·obtain rfl:s=mid:=by omega
       exact a1
      ·obtain rfl:s=a:=by omega
       exact a2
    generalize (if a<s∧s<mid then symM ky f a s mid G1 else G1)=G2 at g2
    obtain ⟨b1,b2⟩:=g2
    have g3:So ky (if mid<e∧e<b then symM ky f mid e b G2 else G2) mid b∧Wi mid b G2 (if mid<e∧e<b then symM ky f mid e b G2 else G2):=by
     have a3':So ky G2 mid e:=So.congr ky a3 fun k p1 p2=>b2.out k (by omega)
     have a4':So ky G2 e b:=So.congr ky a4 fun k p1 p2=>b2.out k (by omega)
     by_cases c:mid<e∧e<b
     ·rw [if_pos c]
      exact symM_ok f mid e b G2 c.1 c.2 hm4 a3' a4'
     ·rw [if_neg c]
      refine ⟨?_,Wi.refl _ _ _⟩
      by_cases c':mid<e
      ·obtain rfl:e=b:=by omega
       exact a3'
      ·have:mid=e:=by omega
       rw [this]
       exact a4'
    generalize (if mid<e∧e<b then symM ky f mid e b G2 else G2)=G3 at g3
    obtain ⟨d1,d2⟩:=g3
    refine ⟨So.join ky (mid:=mid) (So.congr ky b1 fun k p1 p2=>d2.out k (by omega)) d1 fun x y p1 p2 p3 p4=>?_,w1.trans ((b2.more (Nat.le_refl _) (by omega)).trans (d2.more (by omega) (Nat.le_refl _)))⟩
    rw [d2.out x (by omega)]
    obtain ⟨q,q1,q2,q3⟩:=b2.inn x p1 p2
    obtain ⟨r,r1,r2,r3⟩:=d2.inn y p3 p4
    rw [q3,r3,b2.out r (by omega)]
    exact cross q r q1 q2 r1 r2
end
section
variable {α:Type} (ky:α→Int)
def stR (n:Nat):Nat→Nat→(Nat→α)→(Nat→α)
 | 0,_,G=>G
 | f+1,a,G=>if a+20≤n then stR n f (a+20) (insS ky a (a+20) G) else insS ky a n G
def mgR (n s:Nat):Nat→Nat→(Nat→α)→(Nat→α)
 | 0,_,G=>G
 | f+1,a,G=>if a+2*s≤n then mgR n s f (a+2*s) (symM ky (2*s) a (a+s) (a+2*s) G) else if a+s<n then symM ky (2*s) a (a+s) n G else G
def mgL (n:Nat):Nat→Nat→(Nat→α)→(Nat→α)
 | 0,_,G=>G
 | f+1,s,G=>if s<n then mgL n f (2*s) (mgR ky n s (n+1) 0 G) else G
def stb (n:Nat) (G:Nat→α):Nat→α:=mgL ky n n 20 (stR ky n (n+1) 0 G)
def Bks (n s a:Nat) (G:Nat→α):Prop:=∀ j,So ky G (a+j*s) (min (a+j*s+s) n)
theorem So.empty {G:Nat→α} {lo hi:Nat} (h:hi≤lo+1):So ky G lo hi:=fun i j h1 h2 h3=>by omega
theorem So.part {G:Nat→α} {lo hi lo' hi':Nat} (h:So ky G lo hi) (h1:lo≤lo') (h2:hi'≤hi):So ky G lo' hi':=fun i j a b c=>h i j (by omega) b (by omega)
theorem stR_ok (n:Nat):∀ (f a:Nat) (G:Nat→α),n-a<f→a≤n→Bks ky n 20 a (stR ky n f a G)∧Wi a n G (stR ky n f a G)∧Prm n G (stR ky n f a G)
 | 0,a,G,h,_=>by omega
 | f+1,a,G,h,h0=>by
  unfold stR
  by_cases c:a+20≤n
  ·rw [if_pos c]
   obtain ⟨h1,h2⟩:=insS_ok ky (a:=a) (b:=a+20) G
   obtain ⟨k1,k2,k3⟩:=stR_ok n f (a+20) (insS ky a (a+20) G) (by omega) (by omega)
   refine ⟨fun j=>?_,(h2.more (Nat.le_refl _) c).trans (k2.more (by omega) (Nat.le_refl _)),(insS_prm ky G c).trans k3⟩
   cases j with
   | zero =>
    rw [Nat.zero_mul,Nat.add_zero,show min (a+20) n=a+20 by omega]
    exact So.congr ky h1 fun k p1 p2=>k2.out k (by omega)
   | succ j =>
    have:=k1 j
    rw [show a+20+j*20=a+(j+1)*20 by omega] at this
    exact this
  ·rw [if_neg c]
   obtain ⟨h1,h2⟩:=insS_ok ky (a:=a) (b:=n) G
   refine ⟨fun j=>?_,h2,insS_prm ky G (Nat.le_refl _)⟩
   exact So.part ky h1 (by omega) (by omega)
theorem mgR_ok (n s:Nat) (hs:0<s):∀ (f a:Nat) (G:Nat→α),n-a<f→a≤n→Bks ky n s a G→Bks ky n (2*s) a (mgR ky n s f a G)∧Wi a n G (mgR ky n s f a G)∧Prm n G (mgR ky n s f a G)
 | 0,a,G,h,_,_=>by omega
 | f+1,a,G,h,h0,hB=>by
  have b0:=hB 0
  have b1:=hB 1
  rw [Nat.zero_mul,Nat.add_zero] at b0
  rw [Nat.one_mul] at b1
  unfold mgR
  by_cases c:a+2*s≤n
  ·rw [if_pos c]
   rw [show min (a+s) n=a+s by omega] at b0
   rw [show min (a+s+s) n=a+2*s by omega] at b1
   obtain ⟨h1,h2⟩:=symM_ok ky (2*s) a (a+s) (a+2*s) G (by omega) (by omega) (by omega) b0 b1
   have hp:=symM_prm ky n (2*s) a (a+s) (a+2*s) G (by omega) (by omega) c
   generalize symM ky (2*s) a (a+s) (a+2*s) G=G1 at h1 h2 hp
   obtain ⟨k1,k2,k3⟩:=mgR_ok n s hs f (a+2*s) G1 (by omega) (by omega) (fun j=>by
    have hj:=hB (j+2)
    rw [show a+(j+2)*s=a+2*s+j*s by rw [Nat.add_mul];omega] at hj
    exact So.congr ky hj fun k p1 p2=>h2.out k (by omega))
   refine ⟨fun j=>?_,(h2.more (Nat.le_refl _) c).trans (k2.more (by omega) (Nat.le_refl _)),hp.trans k3⟩
   cases j with
   | zero =>
    rw [Nat.zero_mul,Nat.add_zero,show min (a+2*s) n=a+2*s by omega]
    exact So.congr ky h1 fun k p1 p2=>k2.out k (by omega)
   | succ j =>
    have hj:=k1 j
    rw [show a+2*s+j*(2*s)=a+(j+1)*(2*s) by rw [Nat.add_mul];omega] at hj
    exact hj
  ·rw [if_neg c]
   have far:∀ j,0<j→n≤a+j*(2*s):=fun j hj=>by
    have:2*s≤j*(2*s):=Nat.le_mul_of_pos_left _ hj
    omega
   by_cases c2:a+s<n
   ·rw [if_pos c2]
    rw [show min (a+s) n=a+s by omega] at b0
    rw [show min (a+s+s) n=n by omega] at b1
    obtain ⟨h1,h2⟩:=symM_ok ky (2*s) a (a+s) n G (by omega) (by omega) (by omega) b0 b1
    refine ⟨fun j=>?_,h2,symM_prm ky n (2*s) a (a+s) n G (by omega) (by omega) (Nat.le_refl _)⟩
    cases j with
    | zero=>exact So.part ky h1 (by omega) (by omega)
    | succ j=>exact So.empty ky (by have:=far (j+1) (by omega);omega)
   ·rw [if_neg c2]
    refine ⟨fun j=>?_,Wi.refl _ _ _,Prm.refl _ _⟩
    cases j with
    | zero =>
     rw [Nat.zero_mul,Nat.add_zero]
     exact So.part ky b0 (by omega) (by omega)
    | succ j=>exact So.empty ky (by have:=far (j+1) (by omega);omega)
theorem mgL_ok (n:Nat):∀ (f s:Nat) (G:Nat→α),0<s→n-s≤f→Bks ky n s 0 G→So ky (mgL ky n f s G) 0 n∧Prm n G (mgL ky n f s G)
 | 0,s,G,h0,h,hB=>by
  have b0:=hB 0
  refine ⟨So.part ky b0 (by omega) (by omega),Prm.refl _ _⟩
 | f+1,s,G,h0,h,hB=>by
  unfold mgL
  by_cases c:s<n
  ·rw [if_pos c]
   obtain ⟨k1,k2,k3⟩:=mgR_ok ky n s h0 (n+1) 0 G (by omega) (by omega) hB
   obtain ⟨q1,q2⟩:=mgL_ok n f (2*s) _ (by omega) (by omega) k1
   exact ⟨q1,k3.trans q2⟩
  ·rw [if_neg c]
   have b0:=hB 0
   exact ⟨So.part ky b0 (by omega) (by omega),Prm.refl _ _⟩
theorem stb_ok (n:Nat) (G:Nat→α):So ky (stb ky n G) 0 n∧Prm n G (stb ky n G):=by
 unfold stb
 obtain ⟨k1,k2,k3⟩:=stR_ok ky n (n+1) 0 G (by omega) (by omega)
 obtain ⟨q1,q2⟩:=mgL_ok ky n n 20 _ (by omega) (by omega) k1
 exact ⟨q1,k3.trans q2⟩
end
structure DSt where
 seen:Nat→Bool
 left:List Int
def mkB (s:Nat→Bool) (i:Nat):Nat→Bool:=fun k=>if k=i then true else s k
theorem mkB_or (s:Nat→Bool) (i k:Nat):mkB s i k=(s k || decide (k=i)):=by
 unfold mkB
 by_cases h:k=i
 ·rw [if_pos h];simp [h]
 ·rw [if_neg h];simp [h]
def nxt (ns:List Nd) (i:Nat):List Int:=match ns[i]? with
 | some n=>nextsOf n
 | none=>[]
theorem nxt_at {ns:List Nd} {i:Nat} {n:Nd} (h:ns[i]?=some n):nxt ns i=nextsOf n:=by unfold nxt;rw [h]
theorem nxt_mem {ns:List Nd} {i:Nat} {x:Int} (h:x ∈ nxt ns i):∃ n,ns[i]?=some n∧x ∈ nextsOf n:=by
 unfold nxt at h
 rcases e:ns[i]? with _ | n
 ·rw [e] at h;cases h
 ·rw [e] at h;exact ⟨n,rfl,h⟩
theorem nxt_in {ns:List Nd} (hv:NextIn ns) {i:Nat} {x:Int} (h:x ∈ nxt ns i):0≤x∧x<ns.length:=by
 obtain ⟨n,h1,h2⟩:=nxt_mem h
 exact hv n (List.mem_of_getElem? h1) x h2
def vis (ns:List Nd):Nat→Nat→DSt→DSt
 | 0,_,s=>s
 | f+1,i,s =>
  let s2:=(nxt ns i).foldl (fun s x=>if s.seen x.toNat=true then s else vis ns f x.toNat s) ⟨mkB s.seen i,s.left⟩
  ⟨s2.seen,s2.left ++ [(i:Int)]⟩
def visS (ns:List Nd) (f:Nat) (s:DSt) (x:Int):DSt:=if s.seen x.toNat=true then s else vis ns f x.toNat s
def visL (ns:List Nd) (f:Nat) (xs:List Int) (s:DSt):DSt:=xs.foldl (visS ns f) s
theorem vis_succ (ns:List Nd) (f i:Nat) (s:DSt):vis ns (f+1) i s=⟨(visL ns f (nxt ns i) ⟨mkB s.seen i,s.left⟩).seen,(visL ns f (nxt ns i) ⟨mkB s.seen i,s.left⟩).left ++ [(i:Int)]⟩:=rfl
theorem visL_snoc (ns:List Nd) (f:Nat) (xs:List Int) (x:Int) (s:DSt):visL ns f (xs ++ [x]) s=visS ns f (visL ns f xs s) x:=by simp [visL]
theorem visS_yes {ns:List Nd} {f:Nat} {s:DSt} {x:Int} (h:s.seen x.toNat=true):visS ns f s x=s:=if_pos h
theorem visS_no {ns:List Nd} {f:Nat} {s:DSt} {x:Int} (h:s.seen x.toNat=false):visS ns f s x=vis ns f x.toNat s:=if_neg (by rw [h];decide)
def unS (s:Nat→Bool) (n:Nat):Nat:=(List.range n).countP fun i=>!s i
theorem unS_mark {s:Nat→Bool} {n i:Nat} (hi:i<n) (h:s i=false):unS s n=unS (mkB s i) n+1:=by
 unfold unS
 refine countP_one (fun k=>!mkB s i k) (fun k=>!s k) i n hi (by simp [mkB]) fun k=>?_
 rw [mkB_or]
 by_cases e:k=i
 ·subst e;simp [h]
 ·simp [e]
theorem countP_le_of {P Q:Nat→Bool} (h:∀ i,P i=true→Q i=true) (l:List Nat):l.countP P≤l.countP Q:=by
 induction l with
 | nil=>simp
 | cons a r ih =>
  rw [List.countP_cons,List.countP_cons]
  rcases hp:P a with _ | _
  ·have:=Nat.zero_le (if Q a=true then 1 else 0)
   simp only [Bool.false_eq_true,if_false]
   omega
  ·rw [h a hp]
   simp only [if_true]
   omega
theorem unS_mono {s t:Nat→Bool} (n:Nat) (h:∀ k,s k=true→t k=true):unS t n≤unS s n:=by
 unfold unS
 refine countP_le_of (fun i hi=>?_) _
 rcases e:s i with _ | _
 ·rfl
 ·rw [h i e] at hi;cases hi
theorem unS_pos {s:Nat→Bool} {n i:Nat} (hi:i<n) (h:s i=false):0<unS s n:=by
 rw [unS_mark hi h];omega
theorem unS_none (n:Nat):unS (fun _=>false) n=n:=by
 unfold unS
 rw [List.countP_eq_length.2 (fun a _=>by rfl)]
 simp
structure DLp (ns:List Nd) (s t:DSt) (xs:List Int) (l:List Int):Prop where
 mono:∀ k,s.seen k=true→t.seen k=true
 left:t.left=s.left ++ l
 nodup:l.Nodup
 mem:∀ k:Nat,(k:Int) ∈ l↔t.seen k=true∧s.seen k=false
 nat:∀ x ∈ l,∃ k:Nat,x=k∧k<ns.length
 clo:∀ k:Nat,(k:Int) ∈ l→∀ x ∈ nxt ns k,t.seen x.toNat=true
 all:∀ x ∈ xs,t.seen x.toNat=true
 pre:∀ x ∈ l,x ∈ xs∨∃ j:Nat,(j:Int) ∈ l∧(j:Int)≠x∧x ∈ nxt ns j
 cnt:l.length+unS t.seen ns.length=unS s.seen ns.length
theorem DLp.nil (ns:List Nd) (s:DSt):DLp ns s s [] [] :=
 ⟨fun _ h=>h,by simp,List.nodup_nil,(fun k=>⟨(fun h=>by cases h),(fun h=>by have h2:=h.2;rw [h.1] at h2;cases h2)⟩),(fun x h=>by cases h),(fun k h=>by cases h),(fun x h=>by cases h),(fun x h=>by cases h),by simp⟩
theorem DLp.join {ns:List Nd} {s t u:DSt} {xs ys l m:List Int} (h:DLp ns s t xs l) (k:DLp ns t u ys m):DLp ns s u (xs ++ ys) (l ++ m):=by
 refine ⟨fun i hi=>k.mono i (h.mono i hi),by rw [k.left,h.left,List.append_assoc],?_,fun i=>?_,fun x hx=>?_,fun i hi x hx=>?_,fun x hx=>?_,fun x hx=>?_,by rw [List.length_append];have h1:=h.cnt;have h2:=k.cnt;omega⟩
 ·refine List.nodup_append.2 ⟨h.nodup,k.nodup,fun a ha b hb e=>?_⟩
  subst e
  obtain ⟨i,rfl,_⟩:=h.nat a ha
  have h1:=((h.mem i).1 ha).1
  have h2:=((k.mem i).1 hb).2
  rw [h1] at h2
  cases h2
 ·rw [List.mem_append,h.mem i,k.mem i]
  constructor
  ·rintro (⟨h1,h2⟩ | ⟨h1,h2⟩)
   ·exact ⟨k.mono i h1,h2⟩
   ·refine ⟨h1,?_⟩
    rcases e:s.seen i with _ | _
    ·rfl
    ·rw [h.mono i e] at h2;cases h2
  ·rintro ⟨h1,h2⟩
   rcases e:t.seen i with _ | _
   ·exact .inr ⟨h1,rfl⟩
   ·exact .inl ⟨rfl,h2⟩
 ·rcases List.mem_append.1 hx with hx | hx
  ·exact h.nat x hx
  ·exact k.nat x hx
 ·rcases List.mem_append.1 hi with hi | hi
  ·exact k.mono _ (h.clo i hi x hx)
  ·exact k.clo i hi x hx
 ·rcases List.mem_append.1 hx with hx | hx
  ·exact k.mono _ (h.all x hx)
  ·exact k.all x hx
 ·rcases List.mem_append.1 hx with hx | hx
  ·rcases h.pre x hx with h1 | ⟨j,h1,h2,h3⟩
   ·exact .inl (List.mem_append_left _ h1)
   ·exact .inr ⟨j,List.mem_append_left _ h1,h2,h3⟩
  ·rcases k.pre x hx with h1 | ⟨j,h1,h2,h3⟩
   ·exact .inl (List.mem_append_right _ h1)
   ·exact .inr ⟨j,List.mem_append_right _ h1,h2,h3⟩
theorem DLp.seen {ns:List Nd} {s:DSt} {x:Int} (h:s.seen x.toNat=true):DLp ns s s [x] [] :=
 ⟨fun _ h=>h,by simp,List.nodup_nil,(fun k=>⟨(fun h=>by cases h),(fun h=>by have h2:=h.2;rw [h.1] at h2;cases h2)⟩),(fun x h=>by cases h),(fun k h=>by cases h),(fun y hy=>by rw [List.mem_singleton.1 hy];exact h),(fun x h=>by cases h),by simp⟩
theorem visL_ok {ns:List Nd} (hv:NextIn ns) {f:Nat} (hvis:∀ (i:Nat) (s:DSt),i<ns.length→s.seen i=false→unS s.seen ns.length≤f→∃ l,DLp ns s (vis ns f i s) [(i:Int)] l) :
  ∀ (xs:List Int) (s:DSt),(∀ x ∈ xs,0≤x∧x<(ns.length:Int))→unS s.seen ns.length≤f→∃ l,DLp ns s (visL ns f xs s) xs l
 | [],s,_,_=>⟨[],DLp.nil ns s⟩
 | x :: xs,s,hx,hu=>by
  obtain ⟨x0,x1⟩:=hx x (by simp)
  obtain ⟨k,rfl⟩:∃ k:Nat,x=(k:Int):=⟨x.toNat,by omega⟩
  have h1:∃ l,DLp ns s (visS ns f s (k:Int)) [(k:Int)] l:=by
   rcases e:s.seen k with _ | _
   ·rw [visS_no (by rw [Int.toNat_natCast];exact e),Int.toNat_natCast]
    exact hvis k s (by omega) e hu
   ·rw [visS_yes (by rw [Int.toNat_natCast];exact e)]
    exact ⟨[],DLp.seen (by rw [Int.toNat_natCast];exact e)⟩
  obtain ⟨l1,h1⟩:=h1
  obtain ⟨l2,h2⟩:=visL_ok hv hvis xs (visS ns f s (k:Int)) (fun y hy=>hx y (by simp [hy])) (Nat.le_trans (unS_mono _ h1.mono) hu)
  exact ⟨l1 ++ l2,h1.join h2⟩
theorem vis_ok {ns:List Nd} (hv:NextIn ns):∀ (f i:Nat) (s:DSt),i<ns.length→s.seen i=false→unS s.seen ns.length≤f→∃ l,DLp ns s (vis ns f i s) [(i:Int)] (l ++ [(i:Int)])
 | 0,i,s,hi,h,hu=>absurd (unS_pos hi h) (by omega)
 | f+1,i,s,hi,h,hu=>by
  have hm:=unS_mark hi h
  obtain ⟨l,hl⟩:=visL_ok hv (fun j t hj ht htu=>by
   obtain ⟨l,hl⟩:=vis_ok hv f j t hj ht htu
   exact ⟨_,hl⟩) (nxt ns i) ⟨mkB s.seen i,s.left⟩ (fun x hx=>nxt_in hv hx) (by show unS (mkB s.seen i) _≤f;omega)
  have hmi:∀ k,mkB s.seen i k=true↔s.seen k=true∨k=i:=fun k=>by rw [mkB_or];simp
  have hni:(i:Int) ∉ l:=fun hx=>by
   have h2:=((hl.mem i).1 hx).2
   rw [show (DSt.mk (mkB s.seen i) s.left).seen i=true from (hmi i).2 (.inr rfl)] at h2
   cases h2
  refine ⟨l,?_⟩
  rw [vis_succ]
  refine ⟨fun k hk=>hl.mono k ((hmi k).2 (.inl hk)),?_,?_,fun k=>?_,fun x hx=>?_,fun k hk x hx=>?_,fun x hx=>?_,fun x hx=>?_,?_⟩
  ·show (visL ns f (nxt ns i) ⟨mkB s.seen i,s.left⟩).left ++ [(i:Int)]=_
   rw [hl.left,List.append_assoc]
  ·refine List.nodup_append.2 ⟨hl.nodup,by simp,fun a ha b hb e=>?_⟩
   rw [List.mem_singleton.1 hb] at e
   subst e
   exact hni ha
  ·rw [List.mem_append,List.mem_singleton,hl.mem k]
   show _∧mkB s.seen i k=false∨_↔_
   constructor
   ·rintro (⟨h1,h2⟩ | h1)
    ·refine ⟨h1,?_⟩
     rcases e:s.seen k with _ | _
     ·rfl
     ·rw [(hmi k).2 (.inl e)] at h2;cases h2
    ·have:k=i:=by omega
     subst this
     exact ⟨hl.mono k ((hmi k).2 (.inr rfl)),h⟩
   ·rintro ⟨h1,h2⟩
    by_cases e:k=i
    ·exact .inr (by rw [e])
    ·refine .inl ⟨h1,?_⟩
     rw [mkB_or,h2]
     simp [e]
  ·rcases List.mem_append.1 hx with hx | hx
   ·exact hl.nat x hx
   ·exact ⟨i,List.mem_singleton.1 hx,hi⟩
  ·rcases List.mem_append.1 hk with hk | hk
   ·exact hl.clo k hk x hx
   ·have:k=i:=by have:=List.mem_singleton.1 hk;omega
    subst this
    exact hl.all x hx
  ·rw [List.mem_singleton.1 hx,Int.toNat_natCast]
   exact hl.mono i ((hmi i).2 (.inr rfl))
  ·rcases List.mem_append.1 hx with hx | hx
   ·refine .inr ?_
    rcases hl.pre x hx with h1 | ⟨j,h1,h2,h3⟩
    ·exact ⟨i,List.mem_append_right _ (by simp),fun e=>hni (by rw [e];exact hx),h1⟩
    ·exact ⟨j,List.mem_append_left _ h1,h2,h3⟩
   ·exact .inl hx
  ·have h1:l.length+unS (visL ns f (nxt ns i) ⟨mkB s.seen i,s.left⟩).seen ns.length=unS (mkB s.seen i) ns.length:=hl.cnt
   show (l ++ [(i:Int)]).length+unS (visL ns f (nxt ns i) ⟨mkB s.seen i,s.left⟩).seen ns.length=_
   rw [List.length_append,List.length_singleton]
   omega
theorem nodup_rev {l:List Int} (h:l.Nodup):l.reverse.Nodup:=by
 unfold List.Nodup at h ⊢
 exact (List.pairwise_reverse).2 (h.imp fun hab=>hab.symm)
def leftK (ns:List Nd) (e:Nat):List Int:=(vis ns ns.length e ⟨fun _=>false,[]⟩).left
def lineK (ns:List Nd) (e:Nat):List Int:=(leftK ns e).reverse
structure LineP (ns:List Nd) (e:Nat) (l:List Int):Prop where
 len:l.length≤ns.length
 nodup:l.Nodup
 nat:∀ x ∈ l,∃ k:Nat,x=k∧k<ns.length
 first:∃ r,l=(e:Int) :: r
 clo:∀ k:Nat,(k:Int) ∈ l→∀ x ∈ nxt ns k,x ∈ l
 pre:∀ x ∈ l,x≠e→∃ j:Nat,(j:Int) ∈ l∧(j:Int)≠x∧x ∈ nxt ns j
theorem lineK_ok {ns:List Nd} (hv:NextIn ns) {e:Nat} (he:e<ns.length):LineP ns e (lineK ns e):=by
 obtain ⟨l,h⟩:=vis_ok hv ns.length e ⟨fun _=>false,[]⟩ he rfl (by rw [unS_none];exact Nat.le_refl _)
 have hle:leftK ns e=l ++ [(e:Int)]:=by
  unfold leftK
  rw [h.left]
  rfl
 have hre:lineK ns e=(e:Int) :: l.reverse:=by
  unfold lineK
  rw [hle]
  simp
 have hm:∀ x,x ∈ lineK ns e↔x ∈ l ++ [(e:Int)]:=fun x=>by
  unfold lineK
  rw [List.mem_reverse,hle]
 refine ⟨?_,?_,fun x hx=>h.nat x ((hm x).1 hx),⟨_,hre⟩,fun k hk x hx=>?_,fun x hx hne=>?_⟩
 ·have h1:=h.cnt
  rw [show unS (DSt.mk (fun _=>false) []).seen ns.length=ns.length from unS_none _] at h1
  unfold lineK
  rw [hle,List.length_reverse]
  omega
 ·unfold lineK
  rw [hle]
  exact nodup_rev h.nodup
 ·have h1:=h.clo k ((hm _).1 hk) x hx
  obtain ⟨h0,_⟩:=nxt_in hv hx
  rw [hm,show x=((x.toNat:Nat):Int) by omega,h.mem]
  exact ⟨h1,rfl⟩
 ·rcases h.pre x ((hm x).1 hx) with h1 | ⟨j,h1,h2,h3⟩
  ·exact absurd (List.mem_singleton.1 h1) hne
  ·exact ⟨j,(hm _).2 h1,h2,h3⟩
structure Iv where
 p:Int
 f:Int
 t:Int
 h:Bool
instance:DecidableEq Iv:=fun x y=>decidable_of_iff (x.p=y.p∧x.f=y.f∧x.t=y.t∧x.h=y.h)
 ⟨fun h=>by cases x;cases y;simp only [Iv.mk.injEq];exact h,fun h=>by subst h;exact ⟨rfl,rfl,rfl,rfl⟩⟩
def atL (l:List Int) (k:Nat):Nat:=(l.getD k 0).toNat
def WorkN (ns:List Nd) (p:Int) (i:Nat):Prop:=Live ns p i∨∃ n,ns[i]?=some n∧p ∈ writesOf n
def WorkP (ns:List Nd) (ps l:List Int) (p:Int) (k:Nat):Prop:=WorkN ns p (atL l k)∨(k=0∧p ∈ ps)
def HeldN (ns:List Nd) (p:Int) (i:Nat):Prop:=∃ n,ns[i]?=some n∧(n.op=11∨n.op=13)∧LiveO ns p i∧p ∉ writesOf n
theorem HeldN.work {ns:List Nd} {p:Int} {i:Nat} (h:HeldN ns p i):WorkN ns p i:=by
 obtain ⟨n,h1,_,⟨n2,h2,j,h3,h4⟩,h5⟩:=h
 rw [h1] at h2
 injection h2 with h2
 subst h2
 exact .inl (.next h1 h5 h3 h4)
open Classical in
noncomputable def ivK (ns:List Nd) (ps l:List Int) (p:Int):Nat→Iv
 | 0=>⟨p,-1,0,false⟩
 | k+1 =>
  let s:=ivK ns ps l p k
  if WorkP ns ps l p k then ⟨p,if s.f<0 then (k:Int) else s.f,k,s.h || decide (HeldN ns p (atL l k))⟩ else s
theorem ivK_p (ns:List Nd) (ps l:List Int) (p:Int):∀ k,(ivK ns ps l p k).p=p
 | 0=>rfl
 | k+1=>by
  rw [ivK]
  split
  ·rfl
  ·exact ivK_p ns ps l p k
theorem ivK_no {ns:List Nd} {ps l:List Int} {p:Int} {k:Nat} (h:¬ WorkP ns ps l p k):ivK ns ps l p (k+1)=ivK ns ps l p k:=by
 rw [ivK]
 rw [if_neg h]
open Classical in
theorem ivK_yes {ns:List Nd} {ps l:List Int} {p:Int} {k:Nat} (h:WorkP ns ps l p k):ivK ns ps l p (k+1)=⟨p,if (ivK ns ps l p k).f<0 then (k:Int) else (ivK ns ps l p k).f,k,(ivK ns ps l p k).h || decide (HeldN ns p (atL l k))⟩:=by
 rw [ivK]
 rw [if_pos h]
theorem ivK_ok (ns:List Nd) (ps l:List Int) (p:Int):∀ k,((ivK ns ps l p k).f=-1∧∀ j,j<k→¬ WorkP ns ps l p j)∨(0≤(ivK ns ps l p k).f∧(ivK ns ps l p k).f≤(ivK ns ps l p k).t∧(ivK ns ps l p k).t<k∧∀ j:Nat,j<k→WorkP ns ps l p j→(ivK ns ps l p k).f≤j∧(j:Int)≤(ivK ns ps l p k).t)
 | 0=>.inl ⟨rfl,fun j hj=>absurd hj (by omega)⟩
 | k+1=>by
  by_cases hw:WorkP ns ps l p k
  ·right
   rw [ivK_yes hw]
   simp only
   rcases ivK_ok ns ps l p k with ⟨h1,h2⟩ | ⟨h1,h2,h3,h4⟩
   ·rw [h1,if_pos (by decide)]
    refine ⟨by omega,by omega,by omega,fun j hj hwj=>?_⟩
    by_cases e:j=k
    ·omega
    ·exact absurd hwj (h2 j (by omega))
   ·rw [if_neg (by omega)]
    refine ⟨h1,by omega,by omega,fun j hj hwj=>?_⟩
    by_cases e:j=k
    ·omega
    ·have:=h4 j (by omega) hwj
     omega
  ·rw [ivK_no hw]
   rcases ivK_ok ns ps l p k with ⟨h1,h2⟩ | ⟨h1,h2,h3,h4⟩
   ·refine .inl ⟨h1,fun j hj=>?_⟩
    by_cases e:j=k
    ·subst e;exact hw
    ·exact h2 j (by omega)
   ·refine .inr ⟨h1,h2,by omega,fun j hj hwj=>?_⟩
    by_cases e:j=k
    ·subst e;exact absurd hwj hw
    ·exact h4 j (by omega) hwj
theorem ivK_le (ns:List Nd) (ps l:List Int) (p:Int) (k:Nat):-1≤(ivK ns ps l p k).f∧(ivK ns ps l p k).f≤k∧0≤(ivK ns ps l p k).t∧(ivK ns ps l p k).t≤k:=by
 induction k with
 | zero =>
  rw [show ivK ns ps l p 0=⟨p,-1,0,false⟩ from rfl]
  exact ⟨by show (-1:Int)≤-1;decide,by show (-1:Int)≤((0:Nat):Int);decide,Int.le_refl _,Int.le_refl _⟩
 | succ k ih =>
  by_cases hw:WorkP ns ps l p k
  ·rw [ivK_yes hw]
   simp only
   split <;> omega
  ·rw [ivK_no hw]
   omega
noncomputable def spansL (ns:List Nd) (ps l:List Int) (m:Nat):List Iv:=((List.range m).map fun p:Nat=>ivK ns ps l (p:Int) l.length).filter fun s=>decide (0≤s.f)
theorem spansL_mem {ns:List Nd} {ps l:List Int} {m:Nat} {s:Iv}:s ∈ spansL ns ps l m↔∃ p:Nat,p<m∧s=ivK ns ps l (p:Int) l.length∧0≤s.f:=by
 unfold spansL
 rw [List.mem_filter,List.mem_map]
 constructor
 ·rintro ⟨⟨p,hp,rfl⟩,h2⟩
  exact ⟨p,List.mem_range.1 hp,rfl,of_decide_eq_true h2⟩
 ·rintro ⟨p,hp,rfl,h2⟩
  exact ⟨⟨p,List.mem_range.2 hp,rfl⟩,decide_eq_true h2⟩
theorem spansL_succ (ns:List Nd) (ps l:List Int) (j:Nat):spansL ns ps l (j+1)=spansL ns ps l j ++ (if 0≤(ivK ns ps l (j:Int) l.length).f then [ivK ns ps l (j:Int) l.length] else []):=by
 unfold spansL
 rw [List.range_succ,List.map_append,List.filter_append]
 congr 1
 rw [List.map_singleton]
 by_cases h:0≤(ivK ns ps l (j:Int) l.length).f
 ·rw [if_pos h,List.filter_cons_of_pos (by simpa using h),List.filter_nil]
 ·rw [if_neg h,List.filter_cons_of_neg (by simpa using h),List.filter_nil]
theorem spansL_len (ns:List Nd) (ps l:List Int) (m:Nat):(spansL ns ps l m).length≤m:=by
 unfold spansL
 have:=List.length_filter_le (fun s:Iv=>decide (0≤s.f)) ((List.range m).map fun p:Nat=>ivK ns ps l (p:Int) l.length)
 simpa using this
noncomputable def ivC (ns:List Nd) (ps l:List Int) (p:Int) (k:Nat):Iv:=let s:=ivK ns ps l p k;if s.f<0∧p ∈ ps then ⟨p,0,s.t,s.h⟩ else s
def recI (k:Nat) (s:Iv):Iv:=⟨s.p,if s.f=-1 then (k:Int) else s.f,k,s.h⟩
theorem recI_twice (k:Nat) (s:Iv):recI k (recI k s)=recI k s:=by
 unfold recI
 simp only
 by_cases h:s.f=-1
 ·rw [if_pos h,if_neg (by omega)]
 ·rw [if_neg h,if_neg h]
def recL (k:Nat) (xs:List Int) (g:Nat→Iv):Nat→Iv:=fun p=>if (p:Int) ∈ xs then recI k (g p) else g p
theorem recL_nil (k:Nat) (g:Nat→Iv):recL k [] g=g:=by
 funext p
 unfold recL
 rw [if_neg (by simp)]
theorem recL_snoc (k:Nat) (xs:List Int) (x:Nat) (g:Nat→Iv):recL k (xs ++ [(x:Int)]) g=fun p=>if p=x then recI k (recL k xs g p) else recL k xs g p:=by
 funext p
 unfold recL
 by_cases e:p=x
 ·subst e
  rw [if_pos rfl,if_pos (by simp)]
  by_cases h:(p:Int) ∈ xs
  ·rw [if_pos h,recI_twice]
  ·rw [if_neg h]
 ·rw [if_neg e]
  by_cases h:(p:Int) ∈ xs
  ·rw [if_pos h,if_pos (by simp [h])]
  ·rw [if_neg h,if_neg (by
    intro h2
    rcases List.mem_append.1 h2 with h2 | h2
    ·exact h h2
    ·have:=List.mem_singleton.1 h2
     omega)]
def helL (xs ws:List Int) (g:Nat→Iv):Nat→Iv:=fun p=>if (p:Int) ∈ xs∧(p:Int) ∉ ws then ⟨(g p).p,(g p).f,(g p).t,true⟩ else g p
theorem helL_nil (ws:List Int) (g:Nat→Iv):helL [] ws g=g:=by
 funext p
 unfold helL
 rw [if_neg (by simp)]
theorem helL_skip {xs ws:List Int} {x:Nat} {g:Nat→Iv} (h:(x:Int) ∈ ws):helL (xs ++ [(x:Int)]) ws g=helL xs ws g:=by
 funext p
 unfold helL
 by_cases e:(p:Int) ∈ xs∧(p:Int) ∉ ws
 ·rw [if_pos e,if_pos ⟨by simp [e.1],e.2⟩]
 ·rw [if_neg e,if_neg (by
   rintro ⟨h1,h2⟩
   rcases List.mem_append.1 h1 with h1 | h1
   ·exact e ⟨h1,h2⟩
   ·rw [List.mem_singleton.1 h1] at h2
    exact h2 h)]
theorem helL_add {xs ws:List Int} {x:Nat} {g:Nat→Iv} (h:(x:Int) ∉ ws):helL (xs ++ [(x:Int)]) ws g=fun p=>if p=x then ⟨(helL xs ws g p).p,(helL xs ws g p).f,(helL xs ws g p).t,true⟩ else helL xs ws g p:=by
 funext p
 unfold helL
 by_cases e:p=x
 ·subst e
  rw [if_pos rfl,if_pos ⟨by simp,h⟩]
  by_cases h1:(p:Int) ∈ xs∧(p:Int) ∉ ws
  ·rw [if_pos h1]
  ·rw [if_neg h1]
 ·rw [if_neg e]
  by_cases h1:(p:Int) ∈ xs∧(p:Int) ∉ ws
  ·rw [if_pos h1,if_pos ⟨by simp [h1.1],h1.2⟩]
  ·rw [if_neg h1,if_neg (by
    rintro ⟨h2,h3⟩
    rcases List.mem_append.1 h2 with h2 | h2
    ·exact h1 ⟨h2,h3⟩
    ·have:=List.mem_singleton.1 h2
     omega)]
open Classical in
theorem ivC_step {ns:List Nd} {ps l:List Int} {k:Nat} {n:Nd} {la lo:List Int} {m:Nat} (hn:ns[atL l k]?=some n) (hk:k<l.length)
  (hla:∀ p:Nat,p<m→((p:Int) ∈ la↔Live ns p (atL l k))) (hlo:∀ p:Nat,p<m→((p:Int) ∈ lo↔LiveO ns p (atL l k))) (p:Nat) (hp:p<m) :
  (if n.op=11∨n.op=13 then helL lo (writesOf n) (recL k (writesOf n) (recL k la fun p=>ivC ns ps l p k)) p else recL k (writesOf n) (recL k la fun p=>ivC ns ps l p k) p)=ivC ns ps l p (k+1):=by
 have hW:WorkN ns (p:Int) (atL l k)↔(p:Int) ∈ la∨(p:Int) ∈ writesOf n:=by
  unfold WorkN
  rw [hla p hp]
  constructor
  ·rintro (h | ⟨n2,h1,h2⟩)
   ·exact .inl h
   ·rw [hn] at h1
    injection h1 with h1
    subst h1
    exact .inr h2
  ·rintro (h | h)
   ·exact .inl h
   ·exact .inr ⟨n,hn,h⟩
 have hH:HeldN ns (p:Int) (atL l k)↔(n.op=11∨n.op=13)∧(p:Int) ∈ lo∧(p:Int) ∉ writesOf n:=by
  unfold HeldN
  rw [hlo p hp]
  constructor
  ·rintro ⟨n2,h1,h2,h3,h4⟩
   rw [hn] at h1
   injection h1 with h1
   subst h1
   exact ⟨h2,h3,h4⟩
  ·rintro ⟨h2,h3,h4⟩
   exact ⟨n,hn,h2,h3,h4⟩
 have hR:recL k (writesOf n) (recL k la fun p=>ivC ns ps l p k) p=if WorkN ns (p:Int) (atL l k) then recI k (ivC ns ps l p k) else ivC ns ps l p k:=by
  unfold recL
  by_cases h1:(p:Int) ∈ la
  ·rw [if_pos (hW.2 (.inl h1)),if_pos h1]
   by_cases h2:(p:Int) ∈ writesOf n
   ·rw [if_pos h2,recI_twice]
   ·rw [if_neg h2]
  ·rw [if_neg h1]
   by_cases h2:(p:Int) ∈ writesOf n
   ·rw [if_pos h2,if_pos (hW.2 (.inr h2))]
   ·rw [if_neg h2,if_neg (fun h=>by rcases hW.1 h with h | h;exact h1 h;exact h2 h)]
 have hC:∀ j,(ivK ns ps l (p:Int) j).f<0→(ivK ns ps l (p:Int) j).f=-1:=fun j hj=>by have:=(ivK_le ns ps l (p:Int) j).1;omega
 have hfin:(if WorkN ns (p:Int) (atL l k) then (⟨(p:Int),(recI k (ivC ns ps l p k)).f,k,(ivC ns ps l p k).h || decide ((n.op=11∨n.op=13)∧(p:Int) ∈ lo∧(p:Int) ∉ writesOf n)⟩:Iv) else ivC ns ps l p k)=ivC ns ps l p (k+1):=by
  have hdec:decide (HeldN ns (p:Int) (atL l k))=decide ((n.op=11∨n.op=13)∧(p:Int) ∈ lo∧(p:Int) ∉ writesOf n):=by
   exact Bool.eq_iff_iff.2 (by rw [decide_eq_true_iff,decide_eq_true_iff];exact hH)
  by_cases hw:WorkN ns (p:Int) (atL l k)
  ·rw [if_pos hw]
   unfold ivC
   simp only
   rw [ivK_yes (.inl hw)]
   simp only
   by_cases h0:(ivK ns ps l (p:Int) k).f<0
   ·have h1:=hC k h0
    by_cases hpp:(p:Int) ∈ ps
    ·rw [if_pos ⟨h0,hpp⟩,if_pos h0,if_neg (by rintro ⟨h2,_⟩;omega)]
     unfold recI
     simp only
     have hk0:k=0:=by
      rcases Nat.eq_zero_or_pos k with h | h
      ·exact h
      ·exfalso
       rcases ivK_ok ns ps l (p:Int) k with ⟨_,h2⟩ | ⟨h2,_⟩
       ·exact h2 0 h (.inr ⟨rfl,hpp⟩)
       ·omega
     subst hk0
     rw [← hdec]
     rfl
    ·rw [if_neg (fun h=>hpp h.2),if_pos h0,if_neg (fun h=>hpp h.2)]
     unfold recI
     simp only
     rw [h1,if_pos rfl,← hdec]
   ·rw [if_neg (fun h=>h0 h.1),if_neg h0,if_neg (fun h=>h0 h.1)]
    unfold recI
    simp only
    rw [if_neg (by omega),← hdec]
  ·rw [if_neg hw]
   have hnh:¬ HeldN ns (p:Int) (atL l k):=fun h=>hw h.work
   unfold ivC
   simp only
   by_cases hz:k=0∧(p:Int) ∈ ps
   ·obtain ⟨rfl,hpp⟩:=hz
    rw [ivK_yes (.inr ⟨rfl,hpp⟩)]
    rw [show (ivK ns ps l (p:Int) 0)=⟨p,-1,0,false⟩ from rfl]
    simp only
    rw [if_pos ⟨by decide,hpp⟩]
    simp [hnh]
   ·have hnw:¬ WorkP ns ps l (p:Int) k:=by
     rintro (h | h)
     ·exact hw h
     ·exact hz h
    rw [ivK_no hnw]
 rw [← hfin]
 have hp':(ivC ns ps l (p:Int) k).p=p:=by
  unfold ivC
  simp only
  split
  ·rfl
  ·exact ivK_p _ _ _ _ _
 by_cases hop:n.op=11∨n.op=13
 ·rw [if_pos hop]
  unfold helL
  by_cases h1:(p:Int) ∈ lo∧(p:Int) ∉ writesOf n
  ·have hw:WorkN ns (p:Int) (atL l k):=(hH.2 ⟨hop,h1⟩).work
   rw [if_pos h1,hR,if_pos hw,if_pos hw,decide_eq_true ⟨hop,h1⟩,Bool.or_true]
   unfold recI
   rw [hp']
  ·rw [if_neg h1,hR]
   by_cases hw:WorkN ns (p:Int) (atL l k)
   ·rw [if_pos hw,if_pos hw,decide_eq_false (fun h=>h1 h.2),Bool.or_false]
    unfold recI
    rw [hp']
   ·rw [if_neg hw,if_neg hw]
 ·rw [if_neg hop,hR]
  by_cases hw:WorkN ns (p:Int) (atL l k)
  ·rw [if_pos hw,if_pos hw,decide_eq_false (fun h=>hop h.1),Bool.or_false]
   unfold recI
   rw [hp']
  ·rw [if_neg hw,if_neg hw]
theorem ivC_end {ns:List Nd} {ps l:List Int} {p:Int} (h:0<l.length):ivC ns ps l p l.length=ivK ns ps l p l.length:=by
 unfold ivC
 simp only
 rw [if_neg]
 rintro ⟨h1,h2⟩
 rcases ivK_ok ns ps l p l.length with ⟨_,h3⟩ | ⟨h3,_⟩
 ·exact h3 0 h (.inr ⟨rfl,h2⟩)
 ·omega
theorem ivC_start (ns:List Nd) (ps l:List Int) (p:Nat):ivC ns ps l p 0=recL 0 ps (fun p=>⟨p,-1,0,false⟩) p:=by
 unfold ivC recL recI
 simp only
 rw [show (ivK ns ps l (p:Int) 0)=⟨p,-1,0,false⟩ from rfl]
 simp only
 by_cases h:(p:Int) ∈ ps
 ·rw [if_pos ⟨by decide,h⟩,if_pos h]
  rfl
 ·rw [if_neg (fun h2=>h h2.2),if_neg h]
open Go.ChangeShapes Go.WideShapes Go.ChangeAt Go.RowKit
theorem wrap_u64_eq (n:Int):IntKind.u64.wrap n=n % 18446744073709551616:=IntKind.wrap_u64 n
theorem pow_lt64 {c:Nat} (h:c<64):(2:Nat) ^ c<18446744073709551616:=Nat.pow_lt_pow_right (by decide) h
theorem pow_int (c:Nat):(2:Int) ^ c=((2 ^ c:Nat):Int):=by rw [Int.natCast_pow];rfl
theorem wrap_small {x:Nat} (h:x<18446744073709551616):IntKind.u64.wrap (x:Int)=(x:Int):=by
 rw [wrap_u64_eq]
 omega
theorem bit_wrap {c:Nat} (h:c<64):IntKind.u64.wrap ((2:Int) ^ c)=((2 ^ c:Nat):Int):=by
 rw [pow_int]
 exact wrap_small (pow_lt64 h)
theorem bit_any (i:Int) (c:Nat) (hc:i.tmod 64=(c:Int)) (h:c<64) (w:World):Calls Tryd.prog 89 #[.int .i64 i] w fun e w'=>e=.returned (.int .u64 ((2 ^ c:Nat):Int))∧w'=w:=by
 have hb:=bit_wrap h
 have hm:min c 64=c:=Nat.min_eq_left (by omega)
 have g0:decide ((c:Int)<0)=false:=by simp
 go_enter Tryd.func89,Tryd.ntmps89
 go_wp2
 go_ret
 refine ⟨?_,rfl⟩
 simp [hm]
 try exact hb.trans (pow_int c).symm
theorem takes_yes (p:Nat) (i n:Int) (w:World) (h0:w.cell? ⟨p,0,none⟩=some (.int .i64 n)) (h1:0≤i) (h2:i<n):Calls Tryd.prog 87 #[.pointer (some ⟨p,0,none⟩),.int .i64 i] w fun e w'=>e=.returned (.bool true)∧w'=w:=by
 have g0:decide (i≥0)=true:=by simpa using h1
 have g1:decide (0≤i)=true:=by simpa using h1
 have g2:decide (i<n)=true:=by simpa using h2
 clear h1 h2
 go_enter Tryd.func87,Tryd.ntmps87
 go_wp2
 go_ret
 exact ⟨rfl,rfl⟩
theorem info_u64':(Tryd.prog.info? 26).map (fun i=>(i.zero,i.size,i.bytes))=some (some (.int .u64 0),1,8):=by kernel_rfl
def newW (w:World) (m q:Nat):World:=(w.alloc (.cells (madeCells #[.int .u64 0] q) 26)).alloc (.cells #[.int .i64 m,.slice (some ⟨w.heap.size,0,none⟩) q q] 149)
theorem new_any (n:Int) (m q:Nat) (h1:-5000≤n) (h2:n≤5000) (hm:(m:Int)=if n<0 then 0 else n) (hq:q=(m+63) / 64) (w:World):Calls Tryd.prog 79 #[.int .i64 n] w fun e w'=>e=.returned (.pointer (some ⟨w.heap.size+1,0,none⟩))∧w'=newW w m q:=by
 have hmk:∀ W:World,(Instr.makeSlice 25 (.int .i64 q) (.int .i64 q)).run Tryd.prog W=.ok (.slice (some ⟨W.heap.size,0,none⟩) q q) (W.alloc (.cells (madeCells #[.int .u64 0] q) 26)):=fun W=>run_make_row' _ _ _ 8 Tryd.underlying25 info_u64' rfl .i64 .i64 q (by omega) (by omega) W
 by_cases hn:n<0
 ·rw [if_pos hn] at hm
  have h0:m=0:=by omega
  subst h0
  have h3:q=0:=by omega
  subst h3
  have hmk0:∀ W:World,(Instr.makeSlice 25 (.int .i64 0) (.int .i64 0)).run Tryd.prog W=.ok (.slice (some ⟨W.heap.size,0,none⟩) 0 0) (W.alloc (.cells (madeCells #[.int .u64 0] 0) 26)):=hmk
  clear hm hq hmk
  go_enter Tryd.func79,Tryd.ntmps79
  go_wp2
  go_ret
  exact ⟨rfl,rfl⟩
 ·rw [if_neg hn] at hm
  subst hm
  have gq:((m:Int)+64-1) / 64=(q:Int):=by omega
  clear hq hn
  go_enter Tryd.func79,Tryd.ntmps79
  go_wp2
  go_ret
  exact ⟨rfl,rfl⟩
theorem i64_wrap_small {k:Nat} (h:k≤1000000):IntKind.i64.wrap (k:Int)=(k:Int):=by
 rw [IntKind.wrap_i64]
 omega
theorem has_at (p b m q j c k:Nat) (v:Int) (r:Bool) (w:World) (h0:w.cell? ⟨p,0,none⟩=some (.int .i64 m)) (h1:w.cell? ⟨p,1,none⟩=some (.slice (some ⟨b,0,none⟩) q q)) (h2:w.cell? ⟨b,k,none⟩=some (.int .u64 v))
  (hm:m≤5000) (hj:j<m) (hc:c=j % 64) (hk:k=j / 64) (hkq:k<q) (hr:(bits BinOp.and IntKind.u64 v ((2 ^ c:Nat):Int) != 0)=r) :
  Calls Tryd.prog 88 #[.pointer (some ⟨p,0,none⟩),.int .i64 j] w fun e w'=>e=.returned (.bool r)∧∃ nq,w'=w.drewN nq:=by
 have hb:=Lib.hid (show ((j:Int).tmod 64=(c:Int)) by rw [Int.tmod_eq_emod_of_nonneg (by omega)];omega)
 have HJ:=Lib.hid hj
 have gk:(j:Int) / 64=(k:Int):=by omega
 have gw:IntKind.i64.wrap (k:Int)=(k:Int):=i64_wrap_small (by omega)
 obtain ⟨B,hB⟩:∃ B:Int,B=((2 ^ c:Nat):Int):=⟨_,rfl⟩
 rw [← hB] at hr
 have HBIT:=Lib.hid (fun W=>bit_any j c hb.out (by omega) W)
 rw [← hB] at HBIT
 clear hc hk hj hB
 go_enter Tryd.func88,Tryd.ntmps88
 go_wp2
 go_quiet (first
  | (go_at_call 87;exact Calls.quiet_of_same (takes_yes p j m _ h0 (Int.natCast_nonneg _) (by have:=HJ.out;omega)))
  | (go_at_call 89;exact Calls.quiet_of_same (HBIT.out _)))
 go_wp2
 go_ret
 exact ⟨rfl,nq,rfl⟩
end Go.Proofs.YtepkogfiojkcpaaDoor
