/-
  Texts of one seat, one behind the other: JRot, JSyA, JSyB, JSyC, JSta, JMem.
-/
import Derived.Deep.DeepCutAuto
import Derived.Test.YtedmcfaghfgpoaaGreatDoorMA15

set_option linter.unusedVariables false
set_option linter.unusedSimpArgs false
set_option maxRecDepth 100000
set_option maxHeartbeats 51200000
namespace Go.Proofs.YtedmcfaghfgpoaaGreatDoor
open Go.ChangeShapes Go.WideShapes Go.ChangeAt Go.RowKit Go.Sort
theorem rotate_any (R n c a m b:Nat) (G:Nat→Iv) (fv:Value) (w:World) (h:Blk w R 56 (ivA c G)) (h1:a<m) (h2:m<b) (hb:b≤n) (hn:n≤c) (hc:c≤5000) :
  Calls Tryz.prog 91 #[.slice (some ⟨R,0,none⟩) n c,.int .i64 a,.int .i64 m,.int .i64 b,fv] w fun e w'=>e=.returned (.tuple #[])∧SrI w R c (rotF m (b-a) (m-a) (b-m) G) w':=by
 obtain ⟨T,hT⟩:∃ T,T=rotF m (b-a) (m-a) (b-m) G:=⟨_,rfl⟩
 have HT:=Lib.hid hT
 have H0:=Lib.hid (SrI.start h)
 obtain ⟨i0,hi0⟩:∃ i,i=m-a:=⟨_,rfl⟩
 obtain ⟨j0,hj0⟩:∃ j,j=b-m:=⟨_,rfl⟩
 have e1:(m:Int)-a=i0:=by omega
 have e2:(b:Int)-m=j0:=by omega
 have HI0:Hid (0<i0∧i0≤m∧0<j0∧m+j0≤n∧rotF m (b-a) i0 j0 G=T∧i0+j0≤b-a):=Lib.hid ⟨by omega,by omega,by omega,by omega,by rw [hT,hi0,hj0],by omega⟩
 rw [← hT]
 have hi5:i0≤5000:=by omega
 have hj5:j0≤5000:=by omega
 have hm5:m≤5000:=by omega
 clear h hT hi0 hj0 h1 h2 hb
 go_enter Tryz.func91,Tryz.ntmps91
 go_wp2
 clear e1 e2
 go_loopw [10,11] (fun s t wr=>∃ (i j f:Nat) (F:Nat→Iv),i≤5000∧j≤5000∧s=.int .i64 i∧t=.int .i64 j∧Hid (0<i∧i≤m∧0<j∧m+j≤n∧rotF m f i j F=T∧i+j≤f)∧Hid (SrI w R c F wr)) (fun s t _=>(intOf s).toNat+(intOf t).toNat)
 case atStart=>exact ⟨i0,j0,_,G,hi5,hj5,rfl,rfl,HI0,H0⟩
 case round =>
  clear HI0 H0 hi5 hj5
  obtain ⟨i,j,f,F,hi5,hj5,rfl,rfl,HR,HI⟩:=hrel
  obtain ⟨k1,k2,k3,k4,k5,k6⟩:=HR.out
  obtain ⟨f,rfl⟩:∃ f',f=f'+1:=⟨f-1,by omega⟩
  obtain ⟨p,hp⟩:∃ p,p=m-i:=⟨_,rfl⟩
  have hpi:(m:Int)-i=p:=by omega
  unfold rotF at k5
  by_cases e1:i=j
  ·subst e1
   rw [if_pos rfl] at k5
   have HW:=Lib.hid ((swapR_any R n c p m i F fv wr HI.out.row (by omega) (by omega) hn hc))
   have HK:=Lib.hid k5
   have HP:=Lib.hid hp
   clear k1 k2 k3 k4 k5 k6 hp HR
   go_wp2_with (go_at_call 104;refine HW.out.mono ?_;rintro e w2 ⟨rfl,hs⟩;have HS:=Lib.hid hs;clear hs)
   first | go_end0 | go_ret
   exact ⟨rfl,by rw [← HK.out,← HP.out];exact HI.out.then_ HS.out⟩
  ·rw [if_neg e1] at k5
   have g1:((i:Int) == (j:Int))=false:=by simp;omega
   have g2:((i:Int) != (j:Int))=true:=by simp;omega
   by_cases e2:j<i
   ·rw [if_pos e2] at k5
    have HW:=Lib.hid ((swapR_any R n c p m j F fv wr HI.out.row (by omega) (by omega) hn hc))
    have HK:Hid (0<i-j∧i-j≤m∧0<j∧m+j≤n∧rotF m f (i-j) j (swR p m j F)=T∧i-j+j≤f):=Lib.hid ⟨by omega,by omega,by omega,by omega,by rw [hp];exact k5,by omega⟩
    obtain ⟨d,hd⟩:∃ d,d=i-j:=⟨_,rfl⟩
    have hdi:(i:Int)-j=d:=by omega
    rw [← hd] at HK
    have HD:=Lib.hid hd
    have hd5:d≤5000:=by omega
    have HLT:=Lib.hid e2
    have HJ:=Lib.hid k3
    clear k1 k2 k3 k4 k5 k6 hp HR hd
    go_wp2_with (go_at_call 104;refine HW.out.mono ?_;rintro e w2 ⟨rfl,hs⟩;have HS:=Lib.hid hs;clear hs)
    go_roundw
    case rel=>exact ⟨d,j,f,_,hd5,hj5,by go_num,by go_num,HK,Lib.hid (HI.out.then_ HS.out)⟩
    case measure=>have h1:=HD.out;have h2:=HLT.out;have h3:=HJ.out;simp [intOf];omega
   ·rw [if_neg e2] at k5
    obtain ⟨q,hq⟩:∃ q,q=m+j-i:=⟨_,rfl⟩
    have hqi:(m:Int)+j-i=q:=by omega
    have HW:=Lib.hid ((swapR_any R n c p q i F fv wr HI.out.row (by omega) (by omega) hn hc))
    have HK:Hid (0<i∧i≤m∧0<j-i∧m+(j-i)≤n∧rotF m f i (j-i) (swR p q i F)=T∧i+(j-i)≤f):=Lib.hid ⟨by omega,by omega,by omega,by omega,by rw [hp,hq];exact k5,by omega⟩
    obtain ⟨d,hd⟩:∃ d,d=j-i:=⟨_,rfl⟩
    have hdi:(j:Int)-i=d:=by omega
    rw [← hd] at HK
    have HD:=Lib.hid hd
    have hd5:d≤5000:=by omega
    have HLT:Hid (i<j):=Lib.hid (by omega)
    have HJ:=Lib.hid k1
    clear k1 k2 k3 k4 k5 k6 hp HR hd hq
    go_wp2_with (go_at_call 104;refine HW.out.mono ?_;rintro e w2 ⟨rfl,hs⟩;have HS:=Lib.hid hs;clear hs)
    go_roundw
    case rel=>exact ⟨i,d,f,_,hi5,hd5,by go_num,by go_num,HK,Lib.hid (HI.out.then_ HS.out)⟩
    case measure=>have h1:=HD.out;have h2:=HLT.out;have h3:=HJ.out;simp [intOf];omega
theorem SrI.two {w wr : World} {R n c x y : Nat} {F : Nat → Iv} (h : SrI w R c F wr) (hB : BdF n F) (hx : x < n) (hy : y < n) (hn : n ≤ c) :
    (∀ n' os', (grow (wr.drewN n') os').cell? ⟨R, x * 4, none⟩ = some (.int .i64 (F x).p)) ∧ (∀ n' os', (grow (wr.drewN n') os').cell? ⟨R, x * 4 + 1, none⟩ = some (.int .i64 (F x).f)) ∧ (∀ n' os', (grow (wr.drewN n') os').cell? ⟨R, x * 4 + 2, none⟩ = some (.int .i64 (F x).t)) ∧ (∀ n' os', (grow (wr.drewN n') os').cell? ⟨R, x * 4 + 3, none⟩ = some (.bool (F x).h)) ∧
    (∀ n' os', (grow (wr.drewN n') os').cell? ⟨R, y * 4, none⟩ = some (.int .i64 (F y).p)) ∧ (∀ n' os', (grow (wr.drewN n') os').cell? ⟨R, y * 4 + 1, none⟩ = some (.int .i64 (F y).f)) ∧ (∀ n' os', (grow (wr.drewN n') os').cell? ⟨R, y * 4 + 2, none⟩ = some (.int .i64 (F y).t)) ∧ (∀ n' os', (grow (wr.drewN n') os').cell? ⟨R, y * 4 + 3, none⟩ = some (.bool (F y).h)) ∧
    Hid (∀ n' os', Calls Tryz.prog 26 #[.agg #[.int .i64 (F x).p, .int .i64 (F x).f, .int .i64 (F x).t, .bool (F x).h], .agg #[.int .i64 (F y).p, .int .i64 (F y).f, .int .i64 (F y).t, .bool (F y).h]] (grow (wr.drewN n') os') fun e w' => e = .returned (.int .i64 ((F x).f - (F y).f)) ∧ ∃ q os'', w' = grow ((grow (wr.drewN n') os').drewN q) os'') :=
  ⟨fun n' os' => ((h.grown n' os').cells (show x < c by omega)).1, fun n' os' => ((h.grown n' os').cells (show x < c by omega)).2.1, fun n' os' => ((h.grown n' os').cells (show x < c by omega)).2.2.1, fun n' os' => ((h.grown n' os').cells (show x < c by omega)).2.2.2.1,
   fun n' os' => ((h.grown n' os').cells (show y < c by omega)).1, fun n' os' => ((h.grown n' os').cells (show y < c by omega)).2.1, fun n' os' => ((h.grown n' os').cells (show y < c by omega)).2.2.1, fun n' os' => ((h.grown n' os').cells (show y < c by omega)).2.2.2.1,
   Lib.hid fun n' os' => cmp_any _ _ (hB x hx) (hB y hy) _⟩
theorem symA_any (R n c a b:Nat) (G:Nat→Iv) (w:World) (h:Blk w R 56 (ivA c G)) (hB:BdF n G) (h2:a+1<b) (hb:b≤n) (hn:n≤c) (hc:c≤5000) :
  Calls Tryz.prog 75 #[.slice (some ⟨R,0,none⟩) n c,.int .i64 a,.int .i64 (a+1:Nat),.int .i64 b,.func (.func 26) #[] #[]] w fun e w'=>e=.returned (.tuple #[])∧SrI w R c (shU (bsF (fun h=>decide (kyF (G h)<kyF (G a))) (b-(a+1)) (a+1) b-1-a) a G) w':=by
 obtain ⟨t,ht⟩:∃ t,t=bsF (fun h=>decide (kyF (G h)<kyF (G a))) (b-(a+1)) (a+1) b:=⟨_,rfl⟩
 have HT:=Lib.hid ht
 have H0:=Lib.hid (SrI.start h)
 have HB:=Lib.hid hB
 have mixed:Tryz.prog.follows .mixedOrders=true:=by kernel_rfl
 rw [← ht]
 obtain ⟨m,hm⟩:∃ m,m=a+1:=⟨_,rfl⟩
 have hma:(m:Int)-a=1:=by omega
 have ham:a<m:=by omega
 have hmb:m<b:=by omega
 have HM:=Lib.hid hm
 rw [← hm] at ht ⊢
 obtain ⟨T,hTT⟩:∃ T,T=shU (t-1-a) a G:=⟨_,rfl⟩
 have HTT:=Lib.hid hTT
 rw [← hTT]
 clear hTT
 have HT2:Hid (bsF (fun h=>decide (kyF (G h)<kyF (G a))) (b-m) m b=t):=Lib.hid ht.symm
 clear h hB ht hm h2
 go_enter Tryz.func75,Tryz.ntmps75
 go_wp2
 go_loopw [10,11] (fun s u wr=>∃ i j f:Nat,m≤i∧i≤j∧j≤b∧s=.int .i64 i∧u=.int .i64 j∧Hid (j-i≤f∧bsF (fun h=>decide (kyF (G h)<kyF (G a))) f i j=t)∧Hid (SrI w R c G wr)) (fun s u _=>(intOf u).toNat-(intOf s).toNat)
 case atStart=>exact ⟨m,b,b-m,by omega,by omega,by omega,rfl,rfl,Lib.hid ⟨Nat.le_refl _,HT2.out⟩,H0⟩
 case round =>
  clear H0 HT2
  obtain ⟨i,j,f,hi,hij,hj,rfl,rfl,HR,HI⟩:=hrel
  by_cases hlt:i<j
  ·obtain ⟨q,hq⟩:∃ q,q=(i+j) / 2:=⟨_,rfl⟩
   have hqi:((i:Int)+j) / 2=q:=by omega
   obtain ⟨f,rfl⟩:∃ f',f=f'+1:=⟨f-1,by have:=HR.out.1;omega⟩
   have hqn:q<n:=by omega
   have han:a<n:=by omega
   have hbs:=HR.out
   unfold bsF at hbs
   rw [if_pos hlt,← hq] at hbs
   obtain ⟨l0,l1,l2,l3,m0,m1,m2,m3,HCM⟩:=HI.out.two HB.out hqn han hn
   obtain ⟨z,hz⟩:∃ z,z=(G q).f-(G a).f:=⟨_,rfl⟩
   rw [← hz] at HCM
   obtain ⟨X,hX⟩:∃ X,X=G q:=⟨_,rfl⟩
   obtain ⟨Y,hY⟩:∃ Y,Y=G a:=⟨_,rfl⟩
   rw [← hX] at l0 l1 l2 l3 HCM hz
   rw [← hY] at m0 m1 m2 m3 HCM hz
   by_cases hlv:X.f<Y.f
   ·have gz:decide (z<0)=true:=decide_eq_true (by omega)
    have HK:Hid (j-(q+1)≤f∧bsF (fun h=>decide (kyF (G h)<kyF (G a))) f (q+1) j=t):=Lib.hid ⟨by omega,by
     have h2:=hbs.2
     rw [if_pos (by rw [decide_eq_true_eq];show (G q).f<(G a).f;rw [← hX,← hY];exact hlv)] at h2
     exact h2⟩
    have HQ:Hid (i≤q∧q<j):=Lib.hid ⟨by omega,by omega⟩
    clear hbs hz hX hY hlv hq HR
    go_wp2_with fail
    go_quiet_grown (first | (go_at_call 26;refine Calls.grown_of (HCM.out _ _)))
    go_wp2
    go_roundw
    case rel=>exact ⟨q+1,j,f,by have:=HQ.out;omega,by have:=HQ.out;omega,hj,by go_num,rfl,HK,Lib.hid (HI.out.grown nq osq)⟩
    case measure=>have:=HQ.out;simp [intOf];omega
   ·have gz:decide (z<0)=false:=decide_eq_false (by omega)
    have HK:Hid (q-i≤f∧bsF (fun h=>decide (kyF (G h)<kyF (G a))) f i q=t):=Lib.hid ⟨by omega,by
     have h2:=hbs.2
     rw [if_neg (by rw [decide_eq_true_eq];show ¬ (G q).f<(G a).f;rw [← hX,← hY];exact hlv)] at h2
     exact h2⟩
    have HQ:Hid (i≤q∧q<j):=Lib.hid ⟨by omega,by omega⟩
    clear hbs hz hX hY hlv hq HR
    go_wp2_with fail
    go_quiet_grown (first | (go_at_call 26;refine Calls.grown_of (HCM.out _ _)))
    go_wp2
    go_roundw
    case rel=>exact ⟨i,q,f,hi,by have:=HQ.out;omega,by have:=HQ.out;omega,rfl,by go_num,HK,Lib.hid (HI.out.grown nq osq)⟩
    case measure=>have:=HQ.out;simp [intOf];omega
  ·obtain rfl:i=j:=by omega
   have hit:i=t:=by have h2:=HR.out.2;rw [bs_end _ _ (Nat.le_refl _)] at h2;exact h2
   obtain ⟨e,he⟩:∃ e,e=i-1:=⟨_,rfl⟩
   have hei:(i:Int)-1=e:=by omega
   have hae:a≤e:=by have:=HM.out;omega
   have HSI:Hid (shU (e-a) a G=T):=Lib.hid (by rw [HTT.out,← hit,he])
   have hen:e<n:=by omega
   clear he HR HT hit
   go_wp2
   obtain ⟨wo,rfl⟩:∃ wo:World,wo=wr:=⟨_,rfl⟩
   go_loopw [13] (fun s wr=>∃ (k:Nat) (F:Nat→Iv),a≤k∧k≤e∧s=.int .i64 k∧Hid (SrI w R c F wr)∧Hid (shU (e-k) k F=T)) (fun s _=>e-(intOf s).toNat)
   case atStart=>exact ⟨a,G,by omega,hae,rfl,HI,HSI⟩
   case round =>
    clear HI HSI
    obtain ⟨k,F,hak,hke,rfl,HI,HS⟩:=hrel
    by_cases hlt2:k<e
    ·obtain ⟨q,hq⟩:∃ q,q=k+1:=⟨_,rfl⟩
     have hqi:(k:Int)+1=q:=by omega
     have hkn:k<n:=by omega
     have hqn:q<n:=by omega
     have hne1:¬ k=q:=by omega
     have hne2:¬ q=k:=by omega
     obtain ⟨z0,z1,z2,z3,f0,f1,f2,f3⟩:=HI.out.cells (show k<c by omega)
     obtain ⟨y0,y1,y2,y3,g0,g1,g2,g3⟩:=HI.out.cells (show q<c by omega)
     have HS2:=Lib.hid (HI.out.swap k q)
     unfold setIv at HS2
     have HSN:Hid (shU (e-q) q (sw F k q)=T):=Lib.hid (by
      rw [← HS.out,show e-k=(e-q)+1 by omega,hq]
      rfl)
     have HQ:=Lib.hid hq
     clear hq
     go_wp2
     go_region
     go_wp2
     go_roundw
     case rel=>exact ⟨q,_,by have:=HQ.out;omega,by have:=HQ.out;omega,by go_num,HS2,HSN⟩
     case measure=>have:=HQ.out;simp [intOf];omega
    ·obtain rfl:k=e:=by omega
     have HF:Hid (T=F):=Lib.hid (by rw [← HS.out,Nat.sub_self];rfl)
     go_wp2
     first | go_end0 | go_ret | (refine bodyPost_ret (v:=.tuple #[]) (by simp [results,Tryz.func75]) rfl ?_)
     exact ⟨rfl,by rw [HF.out];exact HI.out⟩
theorem symB_any (R n c a m b:Nat) (G:Nat→Iv) (w:World) (h:Blk w R 56 (ivA c G)) (hB:BdF n G) (h1:a+1<m) (h2:m+1=b) (hb:b≤n) (hn:n≤c) (hc:c≤5000) :
  Calls Tryz.prog 75 #[.slice (some ⟨R,0,none⟩) n c,.int .i64 a,.int .i64 m,.int .i64 b,.func (.func 26) #[] #[]] w fun e w'=>e=.returned (.tuple #[])∧SrI w R c (shD (m-bsF (fun h=>!decide (kyF (G m)<kyF (G h))) (m-a) a m) m G) w':=by
 obtain ⟨t,ht⟩:∃ t,t=bsF (fun h=>!decide (kyF (G m)<kyF (G h))) (m-a) a m:=⟨_,rfl⟩
 have H0:=Lib.hid (SrI.start h)
 have HB:=Lib.hid hB
 have mixed:Tryz.prog.follows .mixedOrders=true:=by kernel_rfl
 rw [← ht]
 obtain ⟨T,hTT⟩:∃ T,T=shD (m-t) m G:=⟨_,rfl⟩
 have HTT:=Lib.hid hTT
 rw [← hTT]
 obtain ⟨d,hd⟩:∃ d,d=m-a:=⟨_,rfl⟩
 have hma:(m:Int)-a=d:=by omega
 have gd:((d:Int) == 1)=false:=by simp;omega
 have hbm:(b:Int)-m=1:=by omega
 have ham:a<m:=by omega
 have hmn:m<n:=by omega
 have HT2:Hid (bsF (fun h=>!decide (kyF (G m)<kyF (G h))) (m-a) a m=t):=Lib.hid ht.symm
 clear h hB ht hTT h1 h2 hd
 go_enter Tryz.func75,Tryz.ntmps75
 go_wp2
 go_loopw [14,15] (fun s u wr=>∃ i j f:Nat,a≤i∧i≤j∧j≤m∧s=.int .i64 i∧u=.int .i64 j∧Hid (j-i≤f∧bsF (fun h=>!decide (kyF (G m)<kyF (G h))) f i j=t)∧Hid (SrI w R c G wr)) (fun s u _=>(intOf u).toNat-(intOf s).toNat)
 case atStart=>exact ⟨a,m,m-a,by omega,by omega,by omega,rfl,rfl,Lib.hid ⟨Nat.le_refl _,HT2.out⟩,H0⟩
 case round =>
  clear H0 HT2
  obtain ⟨i,j,f,hi,hij,hj,rfl,rfl,HR,HI⟩:=hrel
  by_cases hlt:i<j
  ·obtain ⟨q,hq⟩:∃ q,q=(i+j) / 2:=⟨_,rfl⟩
   have hqi:((i:Int)+j) / 2=q:=by omega
   obtain ⟨f,rfl⟩:∃ f',f=f'+1:=⟨f-1,by have:=HR.out.1;omega⟩
   have hqn:q<n:=by omega
   have hbs:=HR.out
   unfold bsF at hbs
   rw [if_pos hlt,← hq] at hbs
   obtain ⟨l0,l1,l2,l3,m0,m1,m2,m3,HCM⟩:=HI.out.two HB.out hmn hqn hn
   obtain ⟨z,hz⟩:∃ z,z=(G m).f-(G q).f:=⟨_,rfl⟩
   rw [← hz] at HCM
   obtain ⟨X,hX⟩:∃ X,X=G m:=⟨_,rfl⟩
   obtain ⟨Y,hY⟩:∃ Y,Y=G q:=⟨_,rfl⟩
   rw [← hX] at l0 l1 l2 l3 HCM hz
   rw [← hY] at m0 m1 m2 m3 HCM hz
   by_cases hlv:X.f<Y.f
   ·have gz:decide (z<0)=true:=decide_eq_true (by omega)
    have HK:Hid (q-i≤f∧bsF (fun h=>!decide (kyF (G m)<kyF (G h))) f i q=t):=Lib.hid ⟨by omega,by
     have h2:=hbs.2
     rw [if_neg (by rw [Bool.not_eq_true',decide_eq_false_iff_not,Decidable.not_not];show (G m).f<(G q).f;rw [← hX,← hY];exact hlv)] at h2
     exact h2⟩
    have HQ:Hid (i≤q∧q<j):=Lib.hid ⟨by omega,by omega⟩
    clear hbs hz hX hY hlv hq HR
    go_wp2_with fail
    go_quiet_grown (first | (go_at_call 26;refine Calls.grown_of (HCM.out _ _)))
    go_wp2
    go_roundw
    case rel=>exact ⟨i,q,f,hi,by have:=HQ.out;omega,by have:=HQ.out;omega,rfl,by go_num,HK,Lib.hid (HI.out.grown nq osq)⟩
    case measure=>have:=HQ.out;simp [intOf];omega
   ·have gz:decide (z<0)=false:=decide_eq_false (by omega)
    have HK:Hid (j-(q+1)≤f∧bsF (fun h=>!decide (kyF (G m)<kyF (G h))) f (q+1) j=t):=Lib.hid ⟨by omega,by
     have h2:=hbs.2
     rw [if_pos (by rw [Bool.not_eq_true',decide_eq_false_iff_not];show ¬ (G m).f<(G q).f;rw [← hX,← hY];exact hlv)] at h2
     exact h2⟩
    have HQ:Hid (i≤q∧q<j):=Lib.hid ⟨by omega,by omega⟩
    clear hbs hz hX hY hlv hq HR
    go_wp2_with fail
    go_quiet_grown (first | (go_at_call 26;refine Calls.grown_of (HCM.out _ _)))
    go_wp2
    go_roundw
    case rel=>exact ⟨q+1,j,f,by have:=HQ.out;omega,by have:=HQ.out;omega,hj,by go_num,rfl,HK,Lib.hid (HI.out.grown nq osq)⟩
    case measure=>have:=HQ.out;simp [intOf];omega
  ·obtain rfl:i=j:=by omega
   have hit:i=t:=by have h2:=HR.out.2;rw [bs_end _ _ (Nat.le_refl _)] at h2;exact h2
   have HSI:Hid (shD (m-i) m G=T):=Lib.hid (by rw [HTT.out,← hit])
   clear HR hit
   go_wp2
   obtain ⟨wo,rfl⟩:∃ wo:World,wo=wr:=⟨_,rfl⟩
   go_loopw [17] (fun s wr=>∃ (k:Nat) (F:Nat→Iv),i≤k∧k≤m∧s=.int .i64 k∧Hid (SrI w R c F wr)∧Hid (shD (k-i) k F=T)) (fun s _=>(intOf s).toNat)
   case atStart=>exact ⟨m,G,by omega,by omega,rfl,HI,HSI⟩
   case round =>
    clear HI HSI
    obtain ⟨k,F,hik,hkm,rfl,HI,HS⟩:=hrel
    by_cases hlt2:i<k
    ·obtain ⟨q,hq⟩:∃ q,q=k-1:=⟨_,rfl⟩
     have hqi:(k:Int)-1=q:=by omega
     have hkn:k<n:=by omega
     have hqn:q<n:=by omega
     have hne1:¬ k=q:=by omega
     have hne2:¬ q=k:=by omega
     obtain ⟨z0,z1,z2,z3,f0,f1,f2,f3⟩:=HI.out.cells (show k<c by omega)
     obtain ⟨y0,y1,y2,y3,g0,g1,g2,g3⟩:=HI.out.cells (show q<c by omega)
     have HS2:=Lib.hid (HI.out.swap k q)
     unfold setIv at HS2
     have HSN:Hid (shD (q-i) q (sw F k q)=T):=Lib.hid (by
      rw [← HS.out,show k-i=(q-i)+1 by omega,hq]
      rfl)
     have HQ:=Lib.hid hq
     clear hq
     go_wp2
     go_region
     go_wp2
     go_roundw
     case rel=>exact ⟨q,_,by have:=HQ.out;omega,by have:=HQ.out;omega,by go_num,HS2,HSN⟩
     case measure=>have:=HQ.out;simp [intOf];omega
    ·obtain rfl:i=k:=by omega
     have HF:Hid (T=F):=Lib.hid (by rw [← HS.out,Nat.sub_self];rfl)
     go_wp2
     first | go_end0 | go_ret | (refine bodyPost_ret (v:=.tuple #[]) (by simp [results,Tryz.func75]) rfl ?_)
     exact ⟨rfl,by rw [HF.out];exact HI.out⟩
def SymOK (R n c f:Nat):Prop:=∀ (a m b:Nat) (G:Nat→Iv) (w:World),Blk w R 56 (ivA c G)→BdF n G→a<m→m<b→b≤n→b-a≤f →
  Calls Tryz.prog 75 #[.slice (some ⟨R,0,none⟩) n c,.int .i64 a,.int .i64 m,.int .i64 b,.func (.func 26) #[] #[]] w fun e w'=>e=.returned (.tuple #[])∧SrI w R c (symM kyF f a m b G) w'
theorem stM_form (G:Nat→Iv) {a m b:Nat} (h1:a<m) (h2:m<b):∃ i0 j0 f0,stM kyF G a m b=bsF (fun c=>!decide (kyF (G ((a+b) / 2+m-1-c))<kyF (G c))) f0 i0 j0∧j0-i0≤f0∧i0≤j0∧j0≤b∧(∀ q,i0≤q→q<j0→q≤(a+b) / 2+m-1∧(a+b) / 2+m-1-q<b) ∧
  (((a+b) / 2<m∧i0=(a+b) / 2+m-b∧b≤(a+b) / 2+m∧j0=(a+b) / 2)∨(¬ (a+b) / 2<m∧i0=a∧j0=m)):=by
 unfold stM
 by_cases hm:(a+b) / 2<m
 ·rw [if_pos hm]
  exact ⟨_,_,_,rfl,Nat.le_refl _,by omega,by omega,fun q h3 h4=>by omega,.inl ⟨hm,rfl,by omega,rfl⟩⟩
 ·rw [if_neg hm]
  exact ⟨_,_,_,rfl,Nat.le_refl _,by omega,by omega,fun q h3 h4=>by omega,.inr ⟨hm,rfl,rfl⟩⟩
theorem symC_any (R n c f:Nat) (hn:n≤c) (hc:c≤5000) (IH:SymOK R n c f) (a m b:Nat) (G:Nat→Iv) (w:World) (h:Blk w R 56 (ivA c G)) (hB:BdF n G) (h1:a+1<m) (h2:m+1<b) (hb:b≤n) (hf:b-a≤f+1) :
  Calls Tryz.prog 75 #[.slice (some ⟨R,0,none⟩) n c,.int .i64 a,.int .i64 m,.int .i64 b,.func (.func 26) #[] #[]] w fun e w'=>e=.returned (.tuple #[])∧SrI w R c (symM kyF (f+1) a m b G) w':=by
 have hok:=stM_ok kyF G (show a<m by omega) (show m<b by omega)
 obtain ⟨i0,j0,f0,hst,hf0,hij0,hj0b,hpq,hcase⟩:=stM_form G (show a<m by omega) (show m<b by omega)
 obtain ⟨s,hs⟩:∃ s,s=stM kyF G a m b:=⟨_,rfl⟩
 obtain ⟨mid,hmid⟩:∃ mid,mid=(a+b) / 2:=⟨_,rfl⟩
 rw [← hs] at hst
 rw [← hs,← hmid] at hok
 rw [← hmid] at hst hpq hcase
 obtain ⟨e,he⟩:∃ e,e=mid+m-s:=⟨_,rfl⟩
 rw [← he] at hok
 obtain ⟨k1,k2,k3,k4,k5,_,_⟩:=hok
 obtain ⟨G1,hG1⟩:∃ x,x=(if s<m∧m<e then rotF m (e-s) (m-s) (e-m) G else G):=⟨_,rfl⟩
 obtain ⟨G2,hG2⟩:∃ x,x=(if a<s∧s<mid then symM kyF f a s mid G1 else G1):=⟨_,rfl⟩
 obtain ⟨G3,hG3⟩:∃ x,x=(if mid<e∧e<b then symM kyF f mid e b G2 else G2):=⟨_,rfl⟩
 have hfin:symM kyF (f+1) a m b G=G3:=by
  unfold symM
  rw [if_neg (by omega),if_neg (by omega)]
  simp only
  rw [← hs,← hmid,← he,← hG1,← hG2,← hG3]
 rw [hfin]
 have HB1:Hid (BdF n G1):=Lib.hid (by
  rw [hG1]
  split
  ·exact hB.prm (m:=n) (rot_prm m n (e-s) (m-s) (e-m) G (by omega) (by omega))
  ·exact hB)
 have HB2:Hid (BdF n G2):=Lib.hid (by
  rw [hG2]
  split
  ·exact HB1.out.prm (m:=n) (symM_prm kyF n f a s mid G1 (by omega) (by omega) (by omega))
  ·exact HB1.out)
 have HG1:=Lib.hid hG1
 have HG2:=Lib.hid hG2
 have HG3:=Lib.hid hG3
 have HST:=Lib.hid hst
 have HPQ:=Lib.hid hpq
 have H0:=Lib.hid (SrI.start h)
 have HB:=Lib.hid hB
 have HIH:Hid (SymOK R n c f):=Lib.hid IH
 have mixed:Tryz.prog.follows .mixedOrders=true:=by kernel_rfl
 obtain ⟨d1,hd1⟩:∃ d,d=m-a:=⟨_,rfl⟩
 have hma:(m:Int)-a=d1:=by omega
 have gd1:((d1:Int) == 1)=false:=by simp;omega
 obtain ⟨d2,hd2⟩:∃ d,d=b-m:=⟨_,rfl⟩
 have hbm:(b:Int)-m=d2:=by omega
 have gd2:((d2:Int) == 1)=false:=by simp;omega
 obtain ⟨nn,hnn⟩:∃ d,d=mid+m:=⟨_,rfl⟩
 obtain ⟨pp,hpp⟩:∃ d,d=nn-1:=⟨_,rfl⟩
 have hab:((a:Int)+b) / 2=mid:=by omega
 have hmm:(mid:Int)+m=nn:=by omega
 have hne:(nn:Int)-s=e:=by omega
 have hnp:(nn:Int)-1=pp:=by omega
 have ha5:a≤5000:=by omega
 have hb5:b≤5000:=by omega
 have hm5:m≤5000:=by omega
 have hn5:nn≤10000:=by omega
 have HF1:Hid (mid-a≤f∧b-mid≤f∧a<mid∧mid<b):=Lib.hid ⟨by omega,by omega,by omega,by omega⟩
 have HK:Hid (a≤s∧s≤m∧s≤mid∧m≤e∧e≤b):=Lib.hid ⟨k1,k2,k3,k4,k5⟩
 have HPP:Hid (pp=mid+m-1):=Lib.hid (by omega)
 have hj5:j0≤5000:=by omega
 have HCS:Hid ((mid<m∧(nn:Int)-b=i0∧j0=mid)∨(¬ mid<m∧i0=a∧j0=m)):=Lib.hid (by
  rcases hcase with ⟨c1,c2,c3,c4⟩ | ⟨c1,c2,c3⟩
  ·exact .inl ⟨c1,by omega,c4⟩
  ·exact .inr ⟨c1,c2,c3⟩)
 clear h hB hst hs hmid he hG1 hG2 hG3 hfin hpq hcase hd1 hd2 hnn hpp IH h1 h2 k1 k2 k3 k4 k5
 go_enter Tryz.func75,Tryz.ntmps75
 go_upto_if 140 with fail
 go_cut [20,21] (fun s20 s21 wx=>s20=.int .i64 i0∧s21=.int .i64 j0∧wx=w)
 case first =>
  rcases HCS.out with ⟨c1,c2,c3⟩ | ⟨c1,c2,c3⟩
  ·have HC3:=Lib.hid c3
   clear c3 hj5
   go_wp2
   go_meet
   exact ⟨rfl,by rw [HC3.out],rfl⟩
  ·have HC3:=Lib.hid c3
   have HC2:=Lib.hid c2
   clear c3 c2 hj5
   go_wp2
   go_meet
   exact ⟨by rw [HC2.out],by rw [HC3.out],rfl⟩
 case rest =>
  obtain ⟨rfl,rfl,rfl⟩:=hcut
  obtain ⟨w0,rfl⟩:∃ w0,w0=wc:=⟨_,rfl⟩
  go_wp2
  go_loopw [20,21] (fun u v wr=>∃ i j f:Nat,i0≤i∧i≤j∧j≤j0∧u=.int .i64 i∧v=.int .i64 j∧Hid (j-i≤f∧bsF (fun c=>!decide (kyF (G (mid+m-1-c))<kyF (G c))) f i j=s)∧Hid (SrI w0 R c G wr)) (fun u v _=>(intOf v).toNat-(intOf u).toNat)
  case atStart=>exact ⟨i0,j0,f0,by omega,by omega,by omega,rfl,rfl,Lib.hid ⟨hf0,HST.out.symm⟩,H0⟩
  case round =>
   clear H0
   obtain ⟨i,j,f',hi,hij,hj,rfl,rfl,HR,HI⟩:=hrel
   by_cases hlt:i<j
   ·obtain ⟨q,hq⟩:∃ q,q=(i+j) / 2:=⟨_,rfl⟩
    have hqi:((i:Int)+j) / 2=q:=by omega
    obtain ⟨f',rfl⟩:∃ f2,f'=f2+1:=⟨f'-1,by have:=HR.out.1;omega⟩
    have hpqq:=HPQ.out q (by omega) (by omega)
    rw [← HPP.out] at hpqq
    obtain ⟨x,hx⟩:∃ x,x=pp-q:=⟨_,rfl⟩
    have hpx:(pp:Int)-q=x:=by omega
    have hqn:q<n:=by omega
    have hxn:x<n:=by omega
    have hx5:x≤5000:=by omega
    have hwx:IntKind.i64.wrap (x:Int)=(x:Int):=by rw [IntKind.wrap_i64];omega
    have hbs:=HR.out
    unfold bsF at hbs
    rw [if_pos hlt,← hq,← HPP.out,← hx] at hbs
    obtain ⟨l0,l1,l2,l3,m0,m1,m2,m3,HCM⟩:=HI.out.two HB.out hxn hqn hn
    obtain ⟨z,hz⟩:∃ z,z=(G x).f-(G q).f:=⟨_,rfl⟩
    rw [← hz] at HCM
    obtain ⟨X,hX⟩:∃ X,X=G x:=⟨_,rfl⟩
    obtain ⟨Y,hY⟩:∃ Y,Y=G q:=⟨_,rfl⟩
    rw [← hX] at l0 l1 l2 l3 HCM hz
    rw [← hY] at m0 m1 m2 m3 HCM hz
    by_cases hlv:X.f<Y.f
    ·have gz:decide (z<0)=true:=decide_eq_true (by omega)
     have HKK:Hid (q-i≤f'∧bsF (fun c=>!decide (kyF (G (mid+m-1-c))<kyF (G c))) f' i q=s):=Lib.hid ⟨by omega,by
      have h2:=hbs.2
      rw [if_neg (by rw [Bool.not_eq_true',decide_eq_false_iff_not,Decidable.not_not];show (G x).f<(G q).f;rw [← hX,← hY];exact hlv),HPP.out] at h2
      exact h2⟩
     have HQ:Hid (i≤q∧q<j):=Lib.hid ⟨by omega,by omega⟩
     clear hbs hz hX hY hlv hq HR hx hpqq
     as_aux_lemma =>
      go_wp2_with fail
      go_quiet_grown (first | (go_at_call 26;refine Calls.grown_of (HCM.out _ _)))
      go_wp2
      go_roundw
      case rel=>exact ⟨i,q,f',hi,by have:=HQ.out;omega,by have:=HQ.out;omega,rfl,by go_num,HKK,Lib.hid (HI.out.grown nq osq)⟩
      case measure=>have:=HQ.out;simp [intOf];omega
    ·have gz:decide (z<0)=false:=decide_eq_false (by omega)
     have HKK:Hid (j-(q+1)≤f'∧bsF (fun c=>!decide (kyF (G (mid+m-1-c))<kyF (G c))) f' (q+1) j=s):=Lib.hid ⟨by omega,by
      have h2:=hbs.2
      rw [if_pos (by rw [Bool.not_eq_true',decide_eq_false_iff_not];show ¬ (G x).f<(G q).f;rw [← hX,← hY];exact hlv),HPP.out] at h2
      exact h2⟩
     have HQ:Hid (i≤q∧q<j):=Lib.hid ⟨by omega,by omega⟩
     clear hbs hz hX hY hlv hq HR hx hpqq
     as_aux_lemma =>
      go_wp2_with fail
      go_quiet_grown (first | (go_at_call 26;refine Calls.grown_of (HCM.out _ _)))
      go_wp2
      go_roundw
      case rel=>exact ⟨q+1,j,f',by have:=HQ.out;omega,by have:=HQ.out;omega,hj,by go_num,rfl,HKK,Lib.hid (HI.out.grown nq osq)⟩
      case measure=>have:=HQ.out;simp [intOf];omega
   ·obtain rfl:i=j:=by omega
    obtain rfl:i=s:=by have h2:=HR.out.2;rw [bs_end _ _ (Nat.le_refl _)] at h2;exact h2
    clear HR HST HPQ HCS hi hij hj hlt
    obtain ⟨W9,rfl⟩:∃ W9,W9=wr:=⟨_,rfl⟩
    as_aux_lemma =>
     go_upto_region 39 with fail
     go_cut [185] (fun t wx=>t=.bool (decide (i<m∧m<e))∧wx=W9)
     case first =>
      as_aux_lemma =>
       by_cases c1:i<m
       ·by_cases c2:m<e
        ·go_wp2
         go_meet
         exact ⟨by rw [decide_eq_true (show i<m∧m<e from ⟨c1,c2⟩)],rfl⟩
        ·go_wp2
         go_meet
         exact ⟨by rw [decide_eq_false (show ¬ (i<m∧m<e) from fun hh=>c2 hh.2)],rfl⟩
       ·go_wp2
        go_meet
        exact ⟨by rw [decide_eq_false (show ¬ (i<m∧m<e) from fun hh=>c1 hh.1)],rfl⟩
     case rest =>
      obtain ⟨rfl,rfl⟩:=hcut
      obtain ⟨y1,hy1⟩:∃ y,y=decide (i<m∧m<e):=⟨_,rfl⟩
      rw [← hy1]
      have HY1:=Lib.hid hy1
      clear hy1
      as_aux_lemma =>
       go_upto_if 185 with fail
       go_cut [] (fun wx=>Hid (SrI w0 R c G1 wx))
       case first =>
        as_aux_lemma =>
         have hR1:=HG1.out
         cases y1 with
         | true =>
          have c12:=of_decide_eq_true HY1.out.symm
          rw [if_pos c12] at hR1
          have HC:=Lib.hid (rotate_any R n c i m e G (.func (.func 26) #[] #[]) _ HI.out.row c12.1 c12.2 (by have:=HK.out;omega) hn hc)
          rw [← hR1] at HC
          clear hR1 c12
          go_wp2_with (go_at_call 91;refine HC.out.mono ?_;rintro e w2 ⟨rfl,hs⟩;have HS:=Lib.hid hs;clear hs)
          go_meet
          exact Lib.hid (HI.out.then_ HS.out)
         | false =>
          rw [if_neg (of_decide_eq_false HY1.out.symm)] at hR1
          have HR1:=Lib.hid hR1
          clear hR1
          go_wp2
          go_meet
          exact Lib.hid (by rw [HR1.out];exact HI.out)
       case rest =>
        clear HI HG1
        have HI:Hid (SrI w0 R c G1 wc):=hcut
        clear hcut HY1 y1
        obtain ⟨W8,rfl⟩:∃ W8,W8=wc:=⟨_,rfl⟩
        as_aux_lemma =>
         go_upto_region 41 with fail
         go_cut [199] (fun t wx=>t=.bool (decide (a<i∧i<mid))∧wx=W8)
         case first =>
          as_aux_lemma =>
           by_cases c1:a<i
           ·by_cases c2:i<mid
            ·go_wp2
             go_meet
             exact ⟨by rw [decide_eq_true (show a<i∧i<mid from ⟨c1,c2⟩)],rfl⟩
            ·go_wp2
             go_meet
             exact ⟨by rw [decide_eq_false (show ¬ (a<i∧i<mid) from fun hh=>c2 hh.2)],rfl⟩
           ·go_wp2
            go_meet
            exact ⟨by rw [decide_eq_false (show ¬ (a<i∧i<mid) from fun hh=>c1 hh.1)],rfl⟩
         case rest =>
          obtain ⟨rfl,rfl⟩:=hcut
          obtain ⟨y1,hy1⟩:∃ y,y=decide (a<i∧i<mid):=⟨_,rfl⟩
          rw [← hy1]
          have HY1:=Lib.hid hy1
          clear hy1
          as_aux_lemma =>
           go_upto_if 199 with fail
           go_cut [] (fun wx=>Hid (SrI w0 R c G2 wx))
           case first =>
            as_aux_lemma =>
             have hR1:=HG2.out
             cases y1 with
             | true =>
              have c12:=of_decide_eq_true HY1.out.symm
              rw [if_pos c12] at hR1
              have HC:=Lib.hid (HIH.out a i mid G1 _ HI.out.row HB1.out c12.1 c12.2 (by have:=HF1.out;omega) HF1.out.1)
              rw [← hR1] at HC
              clear hR1 c12
              go_wp2_with (go_at_call 75;refine HC.out.mono ?_;rintro e w2 ⟨rfl,hs⟩;have HS:=Lib.hid hs;clear hs)
              go_meet
              exact Lib.hid (HI.out.then_ HS.out)
             | false =>
              rw [if_neg (of_decide_eq_false HY1.out.symm)] at hR1
              have HR1:=Lib.hid hR1
              clear hR1
              go_wp2
              go_meet
              exact Lib.hid (by rw [HR1.out];exact HI.out)
           case rest =>
            clear HI HG2
            have HI:Hid (SrI w0 R c G2 wc):=hcut
            clear hcut HY1 y1
            as_aux_lemma =>
             have hR1:=HG3.out
             by_cases c1:mid<e
             ·by_cases c2:e<b
              ·rw [if_pos ⟨c1,c2⟩] at hR1
               have HC:=Lib.hid (HIH.out mid e b G2 _ HI.out.row HB2.out c1 c2 hb HF1.out.2.1)
               rw [← hR1] at HC
               clear hR1
               go_wp2_with (go_at_call 75;refine HC.out.mono ?_;rintro e w2 ⟨rfl,hs⟩;have HS:=Lib.hid hs;clear hs)
               first | go_end0 | go_ret
               exact ⟨rfl,HI.out.then_ HS.out⟩
              ·rw [if_neg (fun hh=>c2 hh.2)] at hR1
               have HR1:=Lib.hid hR1
               clear hR1
               go_wp2
               first | go_end0 | go_ret
               exact ⟨rfl,by rw [HR1.out];exact HI.out⟩
             ·rw [if_neg (fun hh=>c1 hh.1)] at hR1
              have HR1:=Lib.hid hR1
              clear hR1
              go_wp2
              first | go_end0 | go_ret
              exact ⟨rfl,by rw [HR1.out];exact HI.out⟩
theorem symM_any (R n c:Nat) (hn:n≤c) (hc:c≤5000):∀ f,SymOK R n c f
 | 0=>fun a m b G w h hB h1 h2 hb hf=>by omega
 | f+1=>fun a m b G w h hB h1 h2 hb hf=>by
  by_cases c1:m-a=1
  ·obtain rfl:m=a+1:=by omega
   have:=symA_any R n c a b G w h hB h2 hb hn hc
   unfold symM
   rw [if_pos c1]
   exact this
  ·by_cases c2:b-m=1
   ·have:=symB_any R n c a m b G w h hB (by omega) (by omega) hb hn hc
    unfold symM
    rw [if_neg c1,if_pos c2]
    exact this
   ·exact symC_any R n c f hn hc (symM_any R n c hn hc f) a m b G w h hB (by omega) (by omega) hb hf
theorem stable_any (R n c:Nat) (G:Nat→Iv) (w:World) (h:Blk w R 56 (ivA c G)) (hB:BdF n G) (hn:n≤c) (hc:c≤5000) :
  Calls Tryz.prog 51 #[.slice (some ⟨R,0,none⟩) n c,.int .i64 n,.func (.func 26) #[] #[]] w fun e w'=>e=.returned (.tuple #[])∧SrI w R c (stb kyF n G) w':=by
 obtain ⟨T1,hT1⟩:∃ T,T=stR kyF n (n+1) 0 G:=⟨_,rfl⟩
 obtain ⟨T,hT⟩:∃ T,T=mgL kyF n n 20 T1:=⟨_,rfl⟩
 rw [show stb kyF n G=T by rw [hT,hT1];rfl]
 have HT1:=Lib.hid hT1
 have HT:=Lib.hid hT
 have H0:=Lib.hid (SrI.start h)
 have HB:=Lib.hid hB
 clear h hB hT1 hT
 go_enter Tryz.func51,Tryz.ntmps51
 go_wp2
 go_loopw [7,8] (fun s u wr=>∃ (a b f:Nat) (F:Nat→Iv),a≤n∧b≤6000∧s=.int .i64 a∧u=.int .i64 b∧Hid (b=a+20∧stR kyF n f a F=T1∧n-a<f)∧Hid (SrI w R c F wr)∧Hid (BdF n F)) (fun s _ _=>n-(intOf s).toNat)
 case atStart=>exact ⟨0,20,n+1,G,Nat.zero_le _,by omega,rfl,rfl,Lib.hid ⟨rfl,HT1.out.symm,by omega⟩,H0,HB⟩
 case round =>
  clear H0 HB
  obtain ⟨a,b,f,F,ha,hb6,rfl,rfl,HR,HI,HB⟩:=hrel
  obtain ⟨k1,k2,k3⟩:=HR.out
  obtain ⟨f,rfl⟩:∃ f',f=f'+1:=⟨f-1,by omega⟩
  unfold stR at k2
  by_cases hlt:b≤n
  ·rw [if_pos (by omega),← k1] at k2
   have HC:=Lib.hid (insert_any R n c a b F wr HI.out.row HB.out hlt hn hc (by omega))
   obtain ⟨b2,hb2⟩:∃ b2,b2=b+20:=⟨_,rfl⟩
   have hbi:(b:Int)+20=b2:=by omega
   have HK:Hid (b2=b+20∧stR kyF n f b (insS kyF a b F)=T1∧n-b<f):=Lib.hid ⟨hb2,k2,by omega⟩
   have HBF:Hid (BdF n (insS kyF a b F)):=Lib.hid (HB.out.prm (m:=n) (insS_prm kyF F hlt))
   have HAB:Hid (a<b∧b2≤6000):=Lib.hid ⟨by omega,by omega⟩
   clear k1 k2 k3 hb2 HR
   go_wp2_with (go_at_call 74;refine HC.out.mono ?_;rintro e w2 ⟨rfl,hs⟩;have HS:=Lib.hid hs;clear hs)
   go_roundw
   case rel=>exact ⟨b,b2,f,_,hlt,HAB.out.2,rfl,by go_num,HK,Lib.hid (HI.out.then_ HS.out),HBF⟩
   case measure=>have:=HAB.out;simp [intOf];omega
  ·rw [if_neg (by omega)] at k2
   have HC:=Lib.hid (insert_any R n c a n F wr HI.out.row HB.out (Nat.le_refl _) hn hc (by omega))
   rw [k2] at HC
   have HBF:Hid (BdF n T1):=Lib.hid (by rw [← k2];exact HB.out.prm (m:=n) (insS_prm kyF F (Nat.le_refl _)))
   clear k1 k2 k3 HR
   go_wp2_with (go_at_call 74;refine HC.out.mono ?_;rintro e w2 ⟨rfl,hs⟩;have HS:=Lib.hid hs;clear hs)
   have HI2:Hid (SrI w R c T1 w2):=Lib.hid (HI.out.then_ HS.out)
   clear HS HC HI HB
   go_loopw [6] (fun s wr=>∃ (z f:Nat) (F:Nat→Iv),z≤10000∧s=.int .i64 z∧Hid (0<z∧mgL kyF n f z F=T∧n-z≤f)∧Hid (SrI w R c F wr)∧Hid (BdF n F)) (fun s _=>n-(intOf s).toNat)
   case atStart=>exact ⟨20,n,T1,by omega,rfl,Lib.hid ⟨by omega,HT.out.symm,by omega⟩,HI2,HBF⟩
   case round =>
    clear HI2 HBF HT HT1
    obtain ⟨z,f,F,hz1,rfl,HR,HI,HB⟩:=hrel
    obtain ⟨k1,k2,k3⟩:=HR.out
    by_cases hzn:z<n
    ·obtain ⟨f,rfl⟩:∃ f',f=f'+1:=⟨f-1,by omega⟩
     unfold mgL at k2
     rw [if_pos hzn] at k2
     obtain ⟨U,hU⟩:∃ U,U=mgR kyF n z (n+1) 0 F:=⟨_,rfl⟩
     rw [← hU] at k2
     obtain ⟨z2,hz2⟩:∃ z2,z2=2*z:=⟨_,rfl⟩
     have hzi:(2:Int)*z=z2:=by omega
     have hzj:(z:Int)*2=z2:=by omega
     rw [← hz2] at k2
     have HU:=Lib.hid hU
     have HK:Hid (0<z2∧mgL kyF n f z2 U=T∧n-z2≤f):=Lib.hid ⟨by omega,k2,by omega⟩
     have HZ2:=Lib.hid hz2
     have hz25:z2≤10000:=by omega
     have HZ0:=Lib.hid k1
     clear k1 k2 k3 hU hz2 HR
     go_wp2
     obtain ⟨wo,rfl⟩:∃ wo:World,wo=wr:=⟨_,rfl⟩
     go_loopw [7,8] (fun s u wr=>∃ (a b f:Nat) (F:Nat→Iv),a≤n∧b≤20000∧s=.int .i64 a∧u=.int .i64 b∧Hid (b=a+z2∧mgR kyF n z f a F=U∧n-a<f)∧Hid (SrI w R c F wr)∧Hid (BdF n F)) (fun s _ _=>n-(intOf s).toNat)
     case atStart=>exact ⟨0,z2,n+1,F,Nat.zero_le _,by omega,rfl,rfl,Lib.hid ⟨by omega,HU.out.symm,by omega⟩,HI,HB⟩
     case round =>
      clear HI HB
      obtain ⟨a,b,f3,F3,ha,hb6,rfl,rfl,HR,HI,HB⟩:=hrel
      obtain ⟨k1,k2,k3⟩:=HR.out
      obtain ⟨f3,rfl⟩:∃ f',f3=f'+1:=⟨f3-1,by omega⟩
      unfold mgR at k2
      have hz0:=HZ0.out
      rw [← HZ2.out] at k2
      obtain ⟨m,hm⟩:∃ m,m=a+z:=⟨_,rfl⟩
      have hmi:(a:Int)+z=m:=by omega
      have hm5:m≤20000:=by omega
      rw [← hm] at k2
      by_cases hlt2:b≤n
      ·rw [if_pos (by omega),← k1] at k2
       have HC:=Lib.hid (symM_any R n c hn hc z2 a m b F3 wr HI.out.row HB.out (by omega) (by have:=HZ2.out;omega) hlt2 (by omega))
       obtain ⟨b2,hb2⟩:∃ b2,b2=b+z2:=⟨_,rfl⟩
       have hbi:(b:Int)+z2=b2:=by omega
       have HK2:Hid (b2=b+z2∧mgR kyF n z f3 b (symM kyF z2 a m b F3)=U∧n-b<f3):=Lib.hid ⟨hb2,k2,by have:=HZ2.out;omega⟩
       have HBF:Hid (BdF n (symM kyF z2 a m b F3)):=Lib.hid (HB.out.prm (m:=n) (symM_prm kyF n z2 a m b F3 (by omega) (by have:=HZ2.out;omega) hlt2))
       have HAB:Hid (a<b∧b2≤20000):=Lib.hid ⟨by have:=HZ2.out;omega,by omega⟩
       clear k1 k2 k3 hb2 HR hm hz0
       go_wp2_with (go_at_call 75;refine HC.out.mono ?_;rintro e w2 ⟨rfl,hs⟩;have HS:=Lib.hid hs;clear hs)
       go_roundw
       case rel=>exact ⟨b,b2,f3,_,hlt2,HAB.out.2,rfl,by go_num,HK2,Lib.hid (HI.out.then_ HS.out),HBF⟩
       case measure=>have:=HAB.out;simp [intOf];omega
      ·rw [if_neg (by omega)] at k2
       have HLZ:Hid (z<z2):=Lib.hid (by have:=HZ2.out;omega)
       by_cases hmn:m<n
       ·rw [if_pos hmn] at k2
        have HC:=Lib.hid (symM_any R n c hn hc z2 a m n F3 wr HI.out.row HB.out (by omega) hmn (Nat.le_refl _) (by omega))
        rw [k2] at HC
        have HBF:Hid (BdF n U):=Lib.hid (by rw [← k2];exact HB.out.prm (m:=n) (symM_prm kyF n z2 a m n F3 (by omega) hmn (Nat.le_refl _)))
        clear k1 k2 k3 HR hm hz0
        go_wp2_with (go_at_call 75;refine HC.out.mono ?_;rintro e w2 ⟨rfl,hs⟩;have HS:=Lib.hid hs;clear hs)
        go_roundw
        case rel=>exact ⟨z2,f,U,hz25,by go_num,HK,Lib.hid (HI.out.then_ HS.out),HBF⟩
        case measure=>have:=HLZ.out;simp [intOf];omega
       ·rw [if_neg hmn] at k2
        have HI2:Hid (SrI w R c U wr):=Lib.hid (by rw [← k2];exact HI.out)
        have HBF:Hid (BdF n U):=Lib.hid (by rw [← k2];exact HB.out)
        clear k1 k2 k3 HR hm hz0
        go_wp2
        go_roundw
        case rel=>exact ⟨z2,f,U,hz25,by go_num,HK,HI2,HBF⟩
        case measure=>have:=HLZ.out;simp [intOf];omega
    ·have HF:Hid (F=T):=Lib.hid (by
      rw [← k2]
      cases f with
      | zero=>rfl
      | succ f=>unfold mgL;rw [if_neg hzn])
     clear k1 k2 k3 HR
     go_wp2
     first | go_end0 | go_ret
     exact ⟨rfl,by rw [← HF.out];exact HI.out⟩
theorem sortS_any (R n c:Nat) (G:Nat→Iv) (w:World) (h:Blk w R 56 (ivA c G)) (hB:BdF n G) (hn:n≤c) (hc:c≤5000) :
  Calls Tryz.prog 25 #[.slice (some ⟨R,0,none⟩) n c,.func (.func 26) #[] #[]] w fun e w'=>e=.returned (.tuple #[])∧SrI w R c (stb kyF n G) w':=by
 have HC:=Lib.hid (stable_any R n c G w h hB hn hc)
 clear h hB
 go_enter Tryz.func25,Tryz.ntmps25
 go_wp2_with (go_at_call 51;refine HC.out.mono ?_;rintro e w2 ⟨rfl,hs⟩;have HS:=Lib.hid hs;clear hs)
 first | go_end0 | go_ret
 exact ⟨rfl,HS.out⟩
open Go.ChangeShapes Go.WideShapes Go.ChangeAt Go.RowKit
structure U3 where
 b:Int
 t:Int
 l:Nat
def u0:U3:=⟨0,0,0⟩
def usX (rb:Nat) (u:U3) (j:Nat):Value:=if j=0 then .int .i64 u.b else if j=1 then .int .i64 u.t else .pointer (some ⟨rb,u.l,none⟩)
def usc (rb:Nat) (us:List U3):List Value:=(List.range (us.length*3)).map fun k=>usX rb (us.getD (k / 3) u0) (k % 3)
theorem usc_len (rb:Nat) (us:List U3):(usc rb us).length=us.length*3:=by simp [usc]
theorem usc_at {rb:Nat} {us:List U3} {k:Nat} (h:k<us.length*3):(usc rb us)[k]?=some (usX rb (us.getD (k / 3) u0) (k % 3)):=by
 unfold usc
 rw [List.getElem?_map,List.getElem?_range h]
 rfl
theorem usc_cell {rb:Nat} {us:List U3} {i j:Nat} (h:i<us.length) (hj:j<3):(usc rb us)[i*3+j]?=some (usX rb (us.getD i u0) j):=by
 rw [usc_at (by omega),show (i*3+j) / 3=i by omega,show (i*3+j) % 3=j by omega]
theorem getD_set {us:List U3} {i k:Nat} {u:U3} (h:i<us.length):(us.set i u).getD k u0=if k=i then u else us.getD k u0:=by
 rw [List.getD_eq_getElem?_getD,List.getElem?_set]
 by_cases e:i=k
 ·rw [if_pos e,if_pos h,if_pos e.symm];rfl
 ·rw [if_neg e,if_neg (fun hh=>e hh.symm),List.getD_eq_getElem?_getD]
theorem usc_set {rb:Nat} {us:List U3} {i:Nat} {u:U3} (h:i<us.length):(((usc rb us).set (i*3) (.int .i64 u.b)).set (i*3+1) (.int .i64 u.t)).set (i*3+2) (.pointer (some ⟨rb,u.l,none⟩))=usc rb (us.set i u):=by
 apply List.ext_getElem?
 intro k
 rw [List.getElem?_set,List.getElem?_set,List.getElem?_set,List.length_set,List.length_set,usc_len]
 by_cases hk:k<us.length*3
 ·rw [usc_at hk,usc_at (by rw [List.length_set];exact hk),getD_set h]
  by_cases e2:i*3+2=k
  ·rw [if_pos e2,if_pos (by omega),if_pos (by omega),show k % 3=2 by omega];rfl
  ·rw [if_neg e2]
   by_cases e1:i*3+1=k
   ·rw [if_pos e1,if_pos (by omega),if_pos (by omega),show k % 3=1 by omega];rfl
   ·rw [if_neg e1]
    by_cases e0:i*3=k
    ·rw [if_pos e0,if_pos (by omega),if_pos (by omega),show k % 3=0 by omega];rfl
    ·rw [if_neg e0,if_neg (by omega)]
 ·rw [if_neg (by omega),if_neg (by omega),if_neg (by omega),List.getElem?_eq_none (by rw [usc_len];omega),List.getElem?_eq_none (by rw [usc_len,List.length_set];omega)]
theorem usc_push (rb:Nat) (us:List U3) (u:U3):usc rb (us ++ [u])=usc rb us ++ [.int .i64 u.b,.int .i64 u.t,.pointer (some ⟨rb,u.l,none⟩)]:=by
 apply List.ext_getElem?
 intro k
 by_cases hk:k<us.length*3
 ·rw [List.getElem?_append_left (by rw [usc_len];exact hk),usc_at hk,usc_at (by simp;omega),List.getD_eq_getElem?_getD,List.getElem?_append_left (by omega),List.getD_eq_getElem?_getD]
 ·rw [List.getElem?_append_right (by rw [usc_len];omega),usc_len]
  by_cases hk2:k<us.length*3+3
  ·rw [usc_at (by simp;omega),List.getD_eq_getElem?_getD,List.getElem?_append_right (by omega),show k / 3-us.length=0 by omega]
   have h3:k=us.length*3∨k=us.length*3+1∨k=us.length*3+2:=by omega
   rcases h3 with rfl | rfl | rfl
   ·rw [show us.length*3 % 3=0 by omega,show us.length*3-us.length*3=0 by omega];rfl
   ·rw [show (us.length*3+1) % 3=1 by omega,show us.length*3+1-us.length*3=1 by omega];rfl
   ·rw [show (us.length*3+2) % 3=2 by omega,show us.length*3+2-us.length*3=2 by omega];rfl
  ·rw [List.getElem?_eq_none (by rw [usc_len];simp;omega),List.getElem?_eq_none (by simp;omega)]
theorem usc_take (rb n:Nat) (us:List U3):(usc rb us).take (n*3)=usc rb (us.take n):=by
 apply List.ext_getElem?
 intro k
 rw [List.getElem?_take]
 by_cases h1:k<n*3
 ·rw [if_pos h1]
  by_cases h2:k<us.length*3
  ·rw [usc_at h2,usc_at (by rw [List.length_take];omega),List.getD_eq_getElem?_getD,List.getD_eq_getElem?_getD,List.getElem?_take,if_pos (by omega)]
  ·rw [List.getElem?_eq_none (by rw [usc_len];omega),List.getElem?_eq_none (by rw [usc_len,List.length_take];omega)]
 ·rw [if_neg h1,List.getElem?_eq_none (by rw [usc_len,List.length_take];omega)]
def swU (us:List U3) (i j:Nat):List U3:=(us.set i (us.getD j u0)).set j (us.getD i u0)
theorem swU_len (us:List U3) (i j:Nat):(swU us i j).length=us.length:=by simp [swU]
def Kp (ks:Nat→Option Obj) (rb:Nat) (V:Nat→Value) (uv:Value) (w:World):Prop:=∀ g o,ks g=some o→w.heap[g]?=some o∧g≠rb∧(∀ l,l<4→(V l).ownBlock≠some g)∧uv.ownBlock≠some g
section
variable {ks:Nat→Option Obj} {rb:Nat} {V:Nat→Value} {uv:Value} {w w':World}
theorem Kp.lt (h:Kp ks rb V uv w) {g:Nat} {o:Obj} (hk:ks g=some o):g<w.heap.size:=by
 obtain ⟨x,_⟩:=Array.getElem?_eq_some_iff.1 (h g o hk).1
 exact x
theorem Kp.on (h:Kp ks rb V uv w) (hb:Below w.heap.size w w'):Kp ks rb V uv w':=fun g o hk=>⟨(hb.block g (h.lt hk)).trans (h g o hk).1,(h g o hk).2⟩
theorem Kp.set (h:Kp ks rb V uv w) {p:Addr} (hp:p.block=rb∨uv.ownBlock=some p.block) (u:Value):Kp ks rb V uv (w.setCell p u):=fun g o hk=>by
 obtain ⟨h1,h2,h3,h4⟩:=h g o hk
 refine ⟨(Below.heap_setCell w p u g fun e=>?_).trans h1,h2,h3,h4⟩
 rcases hp with e2 | e2
 ·exact h2 (by rw [e,e2])
 ·exact h4 (by rw [e2,e])
theorem Kp.grown {o':Obj} {row:Option Nat} (h:Kp ks rb V uv w) (hg:(w.alloc o').grownBy w' row) (hr:row=uv.ownBlock∨∃ l,l<4∧row=(V l).ownBlock):Kp ks rb V uv w':=fun g o hk=>by
 have ha:=h.on ((Below.refl w.heap.size w).alloc (Nat.le_refl _) o')
 obtain ⟨h1,h2,h3,h4⟩:=ha g o hk
 refine ⟨(hg.block g (ha.lt hk) fun e=>?_).trans h1,h2,h3,h4⟩
 rcases hr with e2 | ⟨l,hl,e2⟩
 ·exact h4 (by rw [← e2,e])
 ·exact h3 l hl (by rw [← e2,e])
theorem Kp.swapU {v':Value} (h:Kp ks rb V uv w) (hv:∀ g o,ks g=some o→v'.ownBlock≠some g):Kp ks rb V v' w:=fun g o hk=>by
 obtain ⟨h1,h2,h3,h4⟩:=h g o hk
 exact ⟨h1,h2,h3,hv g o hk⟩
theorem Kp.swapV {v':Value} {l:Nat} (h:Kp ks rb V uv w) (hv:∀ g o,ks g=some o→v'.ownBlock≠some g):Kp ks rb (upd V l v') uv w:=fun g o hk=>by
 obtain ⟨h1,h2,h3,h4⟩:=h g o hk
 refine ⟨h1,h2,fun k hk4=>?_,h4⟩
 by_cases e:k=l
 ·subst e
  rw [upd_at]
  exact hv g o hk
 ·rw [upd_ne e]
  exact h3 k hk4
theorem Kp.fresh {v':Value} {x:Option Nat} {o':Obj} (h:Kp ks rb V uv w) (hv:v'.ownBlock=x∨v'.ownBlock=some (w.alloc o').heap.size) (hx:∀ g o,ks g=some o→x≠some g):∀ g o,ks g=some o→v'.ownBlock≠some g:=fun g o hk=>by
 rcases hv with e | e
 ·rw [e];exact hx g o hk
 ·rw [e]
  intro e2
  injection e2 with e2
  have:=h.lt hk
  simp at e2
  omega
end
structure RmI (ks:Nat→Option Obj) (rb:Nat) (V:Nat→Value) (L:Nat→List Int) (nx:Int) (uv:Value) (us:List U3) (w:World):Prop where
 box:Blk w rb 95 #[V 0,V 1,V 2,V 3,.int .i64 nx,uv]
 own:∀ l,l<4→w.ownsRow (rb+1) 3 1 (V l) (L l).length (i64c (L l))
 sep:∀ l k,l<4→k<4→l≠k→∀ g,(V l).ownBlock=some g→(V k).ownBlock≠some g
 uses:w.ownsRow (rb+1) 99 3 uv us.length (usc rb us)
 keep:Kp ks rb V uv w
section
variable {ks:Nat→Option Obj} {rb:Nat} {V:Nat→Value} {L:Nat→List Int} {nx:Int} {uv:Value} {us:List U3} {w w':World}
theorem RmI.on (h:RmI ks rb V L nx uv us w) (hb:Below w.heap.size w w'):RmI ks rb V L nx uv us w' :=
 ⟨h.box.below hb h.box.lt,fun l hl=>own_kept (h.own l hl) fun g hg=>hb.block g (own_block_le (h.own l hl) hg).2,h.sep,own_kept h.uses fun g hg=>hb.block g (own_block_le h.uses hg).2,h.keep.on hb⟩
theorem RmI.drewN1 (h:RmI ks rb V L nx uv us w):RmI ks rb V L nx uv us w.drew:=h.on (Below.refl _ _).drew
theorem RmI.dn (h:RmI ks rb V L nx uv us w) (n:Nat):RmI ks rb V L nx uv us (w.drewN n):=h.on (below_drewN (Below.refl _ _) n)
theorem RmI.urow (h:RmI ks rb V L nx uv us w) (hn:0<us.length):∃ g cap,uv=.slice (some ⟨g,0,none⟩) us.length cap∧rb<g∧g<w.heap.size:=by
 obtain ⟨g,cap,hv,hg,hlt⟩:=h.uses.form hn
 exact ⟨g,cap,hv,hg,hlt⟩
theorem RmI.ucell {g cap:Nat} (h:RmI ks rb V L nx (.slice (some ⟨g,0,none⟩) us.length cap) us w) {i:Nat} (hi:i<us.length) :
  w.cell? ⟨g,i*3,none⟩=some (.int .i64 (us.getD i u0).b)∧w.cell? ⟨g,i*3+1,none⟩=some (.int .i64 (us.getD i u0).t)∧w.cell? ⟨g,i*3+2,none⟩=some (.pointer (some ⟨rb,(us.getD i u0).l,none⟩)) ∧
  w.frozen? ⟨g,i*3,none⟩=false∧w.frozen? ⟨g,i*3+1,none⟩=false∧w.frozen? ⟨g,i*3+2,none⟩=false:=by
 refine ⟨?_,?_,?_,h.uses.frozenAt _,h.uses.frozenAt _,h.uses.frozenAt _⟩
 ·rw [h.uses.cellAt _ (by omega)];exact usc_cell (j:=0) hi (by decide)
 ·rw [h.uses.cellAt _ (by omega),usc_cell hi (by decide)];rfl
 ·rw [h.uses.cellAt _ (by omega),usc_cell hi (by decide)];rfl
def setU (w:World) (rb g i:Nat) (u:U3):World:=((w.setCell ⟨g,i*3,none⟩ (.int .i64 u.b)).setCell ⟨g,i*3+1,none⟩ (.int .i64 u.t)).setCell ⟨g,i*3+2,none⟩ (.pointer (some ⟨rb,u.l,none⟩))
theorem own_blk {w:World} {base size n c g:Nat} {e:TypeId} {xs:List Value} (h:w.ownsRow base e size (.slice (some ⟨g,0,none⟩) n c) n xs):∃ cur,Blk w g e cur:=by
 rcases h.2 with ⟨h2,_⟩ | ⟨g',cap,cur,he,_,hb,_⟩
 ·simp at h2
 ·simp at he
  exact ⟨cur,by rw [he.1];exact hb⟩
theorem RmI.setU {g cap i:Nat} {u:U3} (h:RmI ks rb V L nx (.slice (some ⟨g,0,none⟩) us.length cap) us w) (hi:i<us.length):RmI ks rb V L nx (.slice (some ⟨g,0,none⟩) us.length cap) (us.set i u) (setU w rb g i u):=by
 obtain ⟨cur,hb⟩:=own_blk h.uses
 have b1:=hb.set_ (i*3) (.int .i64 u.b)
 have b2:=b1.set_ (i*3+1) (.int .i64 u.t)
 have s1:=(h.uses.stored (i*3) (.int .i64 u.b)).1
 have s2:=(s1.stored (i*3+1) (.int .i64 u.t)).1
 have s3:=(s2.stored (i*3+2) (.pointer (some ⟨rb,u.l,none⟩))).1
 rw [usc_set hi] at s3
 refine ⟨?_,fun l hl=>?_,h.sep,by rw [List.length_set];exact s3,((h.keep.set (p:=⟨g,i*3,none⟩) (.inr rfl) _).set (p:=⟨g,i*3+1,none⟩) (.inr rfl) _).set (p:=⟨g,i*3+2,none⟩) (.inr rfl) _⟩
 ·have hne:rb≠g:=h.box.ne_ hb (by decide)
  exact ((h.box.far (p:=⟨g,i*3,none⟩) hne _).far (p:=⟨g,i*3+1,none⟩) hne _).far (p:=⟨g,i*3+2,none⟩) hne _
 ·exact own_far (own_far (own_far (h.own l hl) hb (by decide) _ _) b1 (by decide) _ _) b2 (by decide) _ _
theorem below_setU {B g i:Nat} {u:U3} {w0:World} (h:Below B w0 w) (hg:B≤g):Below B w0 (Go.Proofs.YtedmcfaghfgpoaaGreatDoor.setU w rb g i u):=((h.setCell (p:=⟨g,i*3,none⟩) hg _).setCell (p:=⟨g,i*3+1,none⟩) hg _).setCell (p:=⟨g,i*3+2,none⟩) hg _
end
end Go.Proofs.YtedmcfaghfgpoaaGreatDoor
