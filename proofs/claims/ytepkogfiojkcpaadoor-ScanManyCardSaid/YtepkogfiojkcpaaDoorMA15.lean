/-
  Texts of one seat, one behind the other: JSwp, JCmp, JIns, JRot, JSyA, JSyB, JSyC.
-/
import Derived.BigRegion
import Derived.Shelf.SlSortCmp.QuietGrown
import Derived.Lib.AppendIntMem
import Derived.Deep.DeepCutAuto
import Derived.Test.YtepkogfiojkcpaaDoorMA4
import Derived.Test.YtepkogfiojkcpaaDoorMA14

set_option linter.unusedVariables false
set_option linter.unusedSimpArgs false
set_option maxRecDepth 100000
set_option maxHeartbeats 51200000
namespace Go.Proofs.YtepkogfiojkcpaaDoor
open Go.ChangeShapes Go.WideShapes Go.ChangeAt Go.RowKit
structure SrI (w:World) (R c:Nat) (G:Nat→Iv) (wr:World):Prop where
 row:Blk wr R 110 (ivA c G)
 kp:KpB w wr R
section
variable {w wr w':World} {R c:Nat} {G G':Nat→Iv}
theorem SrI.start (h:Blk w R 110 (ivA c G)):SrI w R c G w:=⟨h,KpB.refl _ _⟩
theorem SrI.on (h:SrI w R c G wr) (hb:Below wr.heap.size wr w'):SrI w R c G w':=⟨h.row.below hb h.row.lt,h.kp.trans (KpB.of_below R hb)⟩
theorem SrI.then_ (h:SrI w R c G wr) (k:SrI wr R c G' w'):SrI w R c G' w':=⟨k.row,h.kp.trans k.kp⟩
theorem SrI.dn (h:SrI w R c G wr) (n:Nat):SrI w R c G (wr.drewN n):=⟨h.row.drewN n,h.kp.drewN n⟩
theorem SrI.swap (h:SrI w R c G wr) (i j:Nat):SrI w R c (sw G i j) (setIv (setIv wr R i (G j)) R j (G i)).drew :=
 ⟨(setIv_blk (setIv_blk h.row)).drew,(setIv_kp (setIv_kp h.kp)).drewN 1⟩
theorem SrI.cells (h:SrI w R c G wr) {i:Nat} (hi:i<c):wr.cell? ⟨R,i*4,none⟩=some (.int .i64 (G i).p)∧wr.cell? ⟨R,i*4+1,none⟩=some (.int .i64 (G i).f)∧wr.cell? ⟨R,i*4+2,none⟩=some (.int .i64 (G i).t)∧wr.cell? ⟨R,i*4+3,none⟩=some (.bool (G i).h) ∧
  wr.frozen? ⟨R,i*4,none⟩=false∧wr.frozen? ⟨R,i*4+1,none⟩=false∧wr.frozen? ⟨R,i*4+2,none⟩=false∧wr.frozen? ⟨R,i*4+3,none⟩=false:=by
 refine ⟨?_,?_,?_,?_,h.row.frozen _,h.row.frozen _,h.row.frozen _,h.row.frozen _⟩
 ·rw [h.row.cell];exact ivA_at (j:=0) _ hi (by decide)
 ·rw [h.row.cell,ivA_at _ hi (by decide)];rfl
 ·rw [h.row.cell,ivA_at _ hi (by decide)];rfl
 ·rw [h.row.cell,ivA_at _ hi (by decide)];rfl
end
theorem swapR_any (R n c a b k:Nat) (G:Nat→Iv) (fv:Value) (w:World) (h:Blk w R 110 (ivA c G)) (hab:a+k≤b) (hb:b+k≤n) (hn:n≤c) (hc:c≤5000) :
  Calls Tryd.prog 119 #[.slice (some ⟨R,0,none⟩) n c,.int .i64 a,.int .i64 b,.int .i64 k,fv] w fun e w'=>e=.returned (.tuple #[])∧SrI w R c (swR a b k G) w':=by
 have H0:Hid (SrI w R c (swR a b 0 G) w):=Lib.hid (SrI.start h)
 clear h
 go_enter Tryd.func119,Tryd.ntmps119
 go_wp2
 go_loopw [10] (fun s wr=>∃ i:Nat,i≤k∧s=.int .i64 i∧Hid (SrI w R c (swR a b i G) wr)) (fun s _=>k-(intOf s).toNat)
 case atStart=>exact ⟨0,by omega,rfl,H0⟩
 case round =>
  clear H0
  obtain ⟨i,hi,rfl,HI⟩:=hrel
  by_cases hlt:i<k
  ·obtain ⟨p,hp⟩:∃ p,p=a+i:=⟨_,rfl⟩
   obtain ⟨q,hq⟩:∃ q,q=b+i:=⟨_,rfl⟩
   obtain ⟨F,hF⟩:∃ F,F=swR a b i G:=⟨_,rfl⟩
   have HST:Hid (SrI w R c (swR a b (i+1) G) (setIv (setIv wr R p (F q)) R q (F p)).drew):=Lib.hid (by
    rw [hF,hp,hq]
    exact HI.out.swap (a+i) (b+i))
   rw [← hF] at HI
   unfold setIv at HST
   have hpn:p<n:=by omega
   have hqn:q<n:=by omega
   have hpi:(a:Int)+i=p:=by omega
   have hqi:(b:Int)+i=q:=by omega
   have hpq:¬ p=q:=by omega
   have hqp:¬ q=p:=by omega
   obtain ⟨z0,z1,z2,z3,f0,f1,f2,f3⟩:=HI.out.cells (show p<c by omega)
   obtain ⟨y0,y1,y2,y3,g0,g1,g2,g3⟩:=HI.out.cells (show q<c by omega)
   clear hp hq hF HI
   go_wp2
   go_region
   go_wp2
   go_roundw
   case rel=>exact ⟨i+1,by omega,by go_num,HST⟩
   case measure=>simp [intOf];omega
  ·obtain rfl:i=k:=by omega
   go_wp2
   first | go_end0 | go_ret
   exact ⟨rfl,HI.out⟩
open Go.ChangeShapes Go.WideShapes Go.ChangeAt Go.RowKit Go.Sort
def BdF (n:Nat) (G:Nat→Iv):Prop:=∀ i,i<n→-1≤(G i).f∧(G i).f≤5000
theorem BdF.prm {n m:Nat} {G G':Nat→Iv} (h:BdF n G) (hp:Prm n G G'):BdF n G':=fun i hi=>by
 obtain ⟨π,ρ,hπ⟩:=hp
 have:=hπ i hi
 rw [this.2.2.2.2]
 exact h _ this.1
theorem wrap_id {z:Int} (h1:-9223372036854775808≤z) (h2:z<9223372036854775808):wrap64 z=z:=by
 unfold wrap64
 omega
theorem cmp_any (x y:Iv) (hx:-1≤x.f∧x.f≤5000) (hy:-1≤y.f∧y.f≤5000) (w:World) :
  Calls Tryd.prog 52 #[.agg #[.int .i64 x.p,.int .i64 x.f,.int .i64 x.t,.bool x.h],.agg #[.int .i64 y.p,.int .i64 y.f,.int .i64 y.t,.bool y.h]] w fun e w'=>e=.returned (.int .i64 (x.f-y.f))∧∃ q os',w'=grow (w.drewN q) os':=by
 obtain ⟨a,ha⟩:∃ a,a=x.f:=⟨_,rfl⟩
 obtain ⟨b,hb⟩:∃ b,b=y.f:=⟨_,rfl⟩
 rw [← ha] at hx ⊢
 rw [← hb] at hy ⊢
 clear ha hb
 have HW:Hid (wrap64 (a-b)=a-b):=Lib.hid (wrap_id (by omega) (by omega))
 clear hx hy
 go_enter Tryd.func52,Tryd.ntmps52
 go_wp2
 first | go_end0 | go_ret
 refine ⟨?_,0,_,by rw [alloc_eq_grow,alloc_eq_grow,grow_grow];rfl⟩
 show Ending.returned (.int .i64 (wrap64 (a-b)))=_
 rw [HW.out]
theorem SrI.grown {w wr:World} {R c:Nat} {G:Nat→Iv} (h:SrI w R c G wr) (n:Nat) (os:Array Obj):SrI w R c G (grow (wr.drewN n) os):=h.on (Go.Lib.below_grow _ wr (Nat.le_refl _) n os)
def kyF (s:Iv):Int:=s.f
theorem insert_any (R n c a b:Nat) (G:Nat→Iv) (w:World) (h:Blk w R 110 (ivA c G)) (hB:BdF n G) (hb:b≤n) (hn:n≤c) (hc:c≤5000) (ha:a≤5000) :
  Calls Tryd.prog 94 #[.slice (some ⟨R,0,none⟩) n c,.int .i64 a,.int .i64 b,.func (.func 52) #[] #[]] w fun e w'=>e=.returned (.tuple #[])∧SrI w R c (insS kyF a b G) w':=by
 have H0:Hid (SrI w R c (insN kyF a (a+1-(a+1)) G) w):=Lib.hid (by rw [Nat.sub_self];exact SrI.start h)
 have HB:=Lib.hid hB
 have mixed:Tryd.prog.follows .mixedOrders=true:=by kernel_rfl
 clear h hB
 go_enter Tryd.func94,Tryd.ntmps94
 go_wp2
 go_loopw [8] (fun s wr=>∃ i:Nat,a+1≤i∧(i≤b∨i=a+1)∧s=.int .i64 i∧Hid (SrI w R c (insN kyF a (i-(a+1)) G) wr)) (fun s _=>b-(intOf s).toNat)
 case atStart=>exact ⟨a+1,by omega,.inr rfl,by go_num,H0⟩
 case round =>
  clear H0
  obtain ⟨i,hai,hib,rfl,HI⟩:=hrel
  have hi5:i≤5001:=by omega
  by_cases hlt:i<b
  ·have HT:Hid (insN kyF a (i+1-(a+1)) G=insJ kyF a i (insN kyF a (i-(a+1)) G)):=Lib.hid (by
    rw [show i+1-(a+1)=(i-(a+1))+1 by omega]
    show insJ kyF a (a+1+(i-(a+1))) _=_
    rw [show a+1+(i-(a+1))=i by omega])
   have HBF:Hid (BdF n (insN kyF a (i-(a+1)) G)):=Lib.hid (HB.out.prm (m:=n) (insN_prm kyF a n G _ (by omega)))
   obtain ⟨F0,hF0⟩:∃ F,F=insN kyF a (i-(a+1)) G:=⟨_,rfl⟩
   rw [← hF0] at HT HBF HI
   clear hF0
   go_wp2
   obtain ⟨wo,rfl⟩:∃ wo:World,wo=wr:=⟨_,rfl⟩
   go_loopw [9] (fun s wr=>∃ (j:Nat) (F:Nat→Iv),a≤j∧j≤i∧s=.int .i64 j∧Hid (SrI w R c F wr)∧Hid (BdF n F)∧Hid (insJ kyF a j F=insJ kyF a i F0)) (fun s _=>(intOf s).toNat)
   case atStart=>exact ⟨i,F0,by omega,by omega,rfl,HI,HBF,Lib.hid rfl⟩
   case round =>
    clear HI HBF
    obtain ⟨j,F,haj,hji,rfl,HI,HBF,HJ⟩:=hrel
    by_cases hja:a<j
    ·obtain ⟨p,hp⟩:∃ p,p=j-1:=⟨_,rfl⟩
     have hjp:(j:Int)-1=p:=by omega
     have hjn:j<n:=by omega
     have hpn:p<n:=by omega
     have hp5:p≤5001:=by omega
     have hwp:IntKind.i64.wrap (p:Int)=(p:Int):=by rw [IntKind.wrap_i64];omega
     have hne1:¬ p=j:=by omega
     have hne2:¬ j=p:=by omega
     obtain ⟨z0,z1,z2,z3,f0,f1,f2,f3⟩:=HI.out.cells (show j<c by omega)
     obtain ⟨y0,y1,y2,y3,g0,g1,g2,g3⟩:=HI.out.cells (show p<c by omega)
     have HL:Hid (∀ n' os',(grow (wr.drewN n') os').cell? ⟨R,j*4,none⟩=some (.int .i64 (F j).p)∧(grow (wr.drewN n') os').cell? ⟨R,j*4+1,none⟩=some (.int .i64 (F j).f)∧(grow (wr.drewN n') os').cell? ⟨R,j*4+2,none⟩=some (.int .i64 (F j).t)∧(grow (wr.drewN n') os').cell? ⟨R,j*4+3,none⟩=some (.bool (F j).h) ∧
       (grow (wr.drewN n') os').cell? ⟨R,p*4,none⟩=some (.int .i64 (F p).p)∧(grow (wr.drewN n') os').cell? ⟨R,p*4+1,none⟩=some (.int .i64 (F p).f)∧(grow (wr.drewN n') os').cell? ⟨R,p*4+2,none⟩=some (.int .i64 (F p).t)∧(grow (wr.drewN n') os').cell? ⟨R,p*4+3,none⟩=some (.bool (F p).h)):=Lib.hid fun n' os'=>by
      obtain ⟨z0,z1,z2,z3,_⟩:=(HI.out.grown n' os').cells (show j<c by omega)
      obtain ⟨y0,y1,y2,y3,_⟩:=(HI.out.grown n' os').cells (show p<c by omega)
      exact ⟨z0,z1,z2,z3,y0,y1,y2,y3⟩
     have l0:=fun n' os'=>(HL.out n' os').1
     have l1:=fun n' os'=>(HL.out n' os').2.1
     have l2:=fun n' os'=>(HL.out n' os').2.2.1
     have l3:=fun n' os'=>(HL.out n' os').2.2.2.1
     have m0:=fun n' os'=>(HL.out n' os').2.2.2.2.1
     have m1:=fun n' os'=>(HL.out n' os').2.2.2.2.2.1
     have m2:=fun n' os'=>(HL.out n' os').2.2.2.2.2.2.1
     have m3:=fun n' os'=>(HL.out n' os').2.2.2.2.2.2.2
     obtain ⟨z,hz⟩:∃ z,z=(F j).f-(F p).f:=⟨_,rfl⟩
     have HCM:Hid (∀ n' os',Calls Tryd.prog 52 #[.agg #[.int .i64 (F j).p,.int .i64 (F j).f,.int .i64 (F j).t,.bool (F j).h],.agg #[.int .i64 (F p).p,.int .i64 (F p).f,.int .i64 (F p).t,.bool (F p).h]] (grow (wr.drewN n') os') fun e w'=>e=.returned (.int .i64 z)∧∃ q os'',w'=grow ((grow (wr.drewN n') os').drewN q) os''):=Lib.hid fun n' os'=>by
      rw [hz]
      exact cmp_any _ _ (HBF.out j hjn) (HBF.out p hpn) _
     clear z0 z1 z2 z3 f0 f1 f2 f3 y0 y1 y2 y3 g0 g1 g2 g3
     obtain ⟨X,hX⟩:∃ X,X=F j:=⟨_,rfl⟩
     obtain ⟨Y,hY⟩:∃ Y,Y=F p:=⟨_,rfl⟩
     rw [← hX] at l0 l1 l2 l3 HCM hz
     rw [← hY] at m0 m1 m2 m3 HCM hz
     have HX:=Lib.hid hX
     have HY:=Lib.hid hY
     clear hX hY HL
     by_cases hlv:X.f<Y.f
     ·have gz:decide (z<0)=true:=decide_eq_true (by omega)
      have HST:Hid (∀ W,SrI w R c F W→SrI w R c (sw F j p) (setIv (setIv W R j Y) R p X).drew):=Lib.hid fun W hW=>by
       have:=hW.swap j p
       rw [← HX.out,← HY.out] at this
       exact this
      have HBS:Hid (BdF n (sw F j p)):=Lib.hid (HBF.out.prm (m:=n) (Prm.sw F hjn hpn))
      have HJS:Hid (insJ kyF a p (sw F j p)=insJ kyF a i F0):=Lib.hid (by
       rw [← HJ.out,show j=p+1 by omega]
       conv=>rhs;unfold insJ
       rw [if_pos ⟨by omega,by
        show (F (p+1)).f<(F p).f
        rw [show p+1=j by omega,← HX.out,← HY.out]
        exact hlv⟩])
      have HZ:=Lib.hid hz
      have HLV:=Lib.hid hlv
      have HHP:=Lib.hid hp
      clear hz hlv hp
      go_wp2_with fail
      go_quiet_grown (first | (go_at_call 52;refine Calls.grown_of (HCM.out _ _)))
      go_wp2_with fail
      have HI2:Hid (SrI w R c F (grow (wr.drewN nq) osq)):=Lib.hid (HI.out.grown nq osq)
      obtain ⟨W2,hW2⟩:∃ W,W=grow (wr.drewN nq) osq:=⟨_,rfl⟩
      rw [← hW2] at HI2 ⊢
      clear hW2 l0 l1 l2 l3 m0 m1 m2 m3
      obtain ⟨z0,z1,z2,z3,f0,f1,f2,f3⟩:=HI2.out.cells (show j<c by omega)
      obtain ⟨y0,y1,y2,y3,g0,g1,g2,g3⟩:=HI2.out.cells (show p<c by omega)
      rw [← HX.out] at z0 z1 z2 z3
      rw [← HY.out] at y0 y1 y2 y3
      have HS2:=Lib.hid (HST.out W2 HI2.out)
      unfold setIv at HS2
      go_region
      go_wp2
      go_roundw
      case rel=>exact ⟨p,sw F j p,by have:=HHP.out;omega,by have:=HHP.out;omega,by go_num,HS2,HBS,HJS⟩
      case measure=>have:=HHP.out;simp [intOf];omega
     ·have gz:decide (z<0)=false:=decide_eq_false (by omega)
      have HST:Hid (insN kyF a (i+1-(a+1)) G=F):=Lib.hid (by
       rw [HT.out,← HJ.out,show j=p+1 by omega]
       unfold insJ
       rw [if_neg]
       rintro ⟨_,h2⟩
       refine hlv ?_
       rw [HX.out,HY.out,show j=p+1 by omega]
       exact h2)
      clear hz hlv hp
      go_wp2_with fail
      go_quiet_grown (first | (go_at_call 52;refine Calls.grown_of (HCM.out _ _)))
      go_wp2
      go_roundw
      case rel=>exact ⟨i+1,by omega,by omega,by go_num,Lib.hid (by rw [HST.out];exact HI.out.grown nq osq)⟩
      case measure=>simp [intOf];omega
    ·have HST:Hid (insN kyF a (i+1-(a+1)) G=F):=Lib.hid (by
      rw [HT.out,← HJ.out]
      cases j with
      | zero=>rfl
      | succ j =>
       unfold insJ
       rw [if_neg]
       omega)
     have gja:decide (a<j)=false:=decide_eq_false (by omega)
     have gja2:decide ((j:Int) > (a:Int))=false:=decide_eq_false (by omega)
     have gja3:decide ((a:Int)<(j:Int))=false:=decide_eq_false (by omega)
     go_wp2_with fail
     go_quiet (fail)
     go_wp2
     go_roundw
     case rel=>exact ⟨i+1,by omega,by omega,by go_num,Lib.hid (by rw [HST.out];exact HI.out.dn _)⟩
     case measure=>simp [intOf];omega
  ·have HE:Hid (insN kyF a (i-(a+1)) G=insS kyF a b G):=Lib.hid (by
    unfold insS
    rw [show i-(a+1)=b-(a+1) by omega])
   rw [HE.out] at HI
   go_wp2
   first | go_end0 | go_ret
   exact ⟨rfl,HI.out⟩
theorem rotate_any (R n c a m b:Nat) (G:Nat→Iv) (fv:Value) (w:World) (h:Blk w R 110 (ivA c G)) (h1:a<m) (h2:m<b) (hb:b≤n) (hn:n≤c) (hc:c≤5000) :
  Calls Tryd.prog 108 #[.slice (some ⟨R,0,none⟩) n c,.int .i64 a,.int .i64 m,.int .i64 b,fv] w fun e w'=>e=.returned (.tuple #[])∧SrI w R c (rotF m (b-a) (m-a) (b-m) G) w':=by
 obtain ⟨T,hT⟩:∃ T,T=rotF m (b-a) (m-a) (b-m) G:=⟨_,rfl⟩
 have HT:=Lib.hid hT
 have H0:=Lib.hid (SrI.start h)
 obtain ⟨i0,hi0⟩:∃ i,i=m-a:=⟨_,rfl⟩
 obtain ⟨j0,hj0⟩:∃ j,j=b-m:=⟨_,rfl⟩
 have e1:(m:Int)-a=i0:=by omega
 have e2:(b:Int)-m=j0:=by omega
 have HI0:Hid (0<i0∧i0≤m∧0<j0∧m+j0≤n∧rotF m (b-a) i0 j0 G=T∧i0+j0≤b-a):=Lib.hid ⟨by omega,by omega,by omega,by omega,by rw [hT,hi0,hj0],by omega⟩
 rw [← hT]
 have hi5:i0≤5000:=by omega
 have hj5:j0≤5000:=by omega
 have hm5:m≤5000:=by omega
 clear h hT hi0 hj0 h1 h2 hb
 go_enter Tryd.func108,Tryd.ntmps108
 go_wp2
 clear e1 e2
 go_loopw [10,11] (fun s t wr=>∃ (i j f:Nat) (F:Nat→Iv),i≤5000∧j≤5000∧s=.int .i64 i∧t=.int .i64 j∧Hid (0<i∧i≤m∧0<j∧m+j≤n∧rotF m f i j F=T∧i+j≤f)∧Hid (SrI w R c F wr)) (fun s t _=>(intOf s).toNat+(intOf t).toNat)
 case atStart=>exact ⟨i0,j0,_,G,hi5,hj5,rfl,rfl,HI0,H0⟩
 case round =>
  clear HI0 H0 hi5 hj5
  obtain ⟨i,j,f,F,hi5,hj5,rfl,rfl,HR,HI⟩:=hrel
  obtain ⟨k1,k2,k3,k4,k5,k6⟩:=HR.out
  obtain ⟨f,rfl⟩:∃ f',f=f'+1:=⟨f-1,by omega⟩
  obtain ⟨p,hp⟩:∃ p,p=m-i:=⟨_,rfl⟩
  have hpi:(m:Int)-i=p:=by omega
  unfold rotF at k5
  by_cases e1:i=j
  ·subst e1
   rw [if_pos rfl] at k5
   have HW:=Lib.hid ((swapR_any R n c p m i F fv wr HI.out.row (by omega) (by omega) hn hc))
   have HK:=Lib.hid k5
   have HP:=Lib.hid hp
   clear k1 k2 k3 k4 k5 k6 hp HR
   go_wp2_with (go_at_call 119;refine HW.out.mono ?_;rintro e w2 ⟨rfl,hs⟩;have HS:=Lib.hid hs;clear hs)
   first | go_end0 | go_ret
   exact ⟨rfl,by rw [← HK.out,← HP.out];exact HI.out.then_ HS.out⟩
  ·rw [if_neg e1] at k5
   have g1:((i:Int) == (j:Int))=false:=by simp;omega
   have g2:((i:Int) != (j:Int))=true:=by simp;omega
   by_cases e2:j<i
   ·rw [if_pos e2] at k5
    have HW:=Lib.hid ((swapR_any R n c p m j F fv wr HI.out.row (by omega) (by omega) hn hc))
    have HK:Hid (0<i-j∧i-j≤m∧0<j∧m+j≤n∧rotF m f (i-j) j (swR p m j F)=T∧i-j+j≤f):=Lib.hid ⟨by omega,by omega,by omega,by omega,by rw [hp];exact k5,by omega⟩
    obtain ⟨d,hd⟩:∃ d,d=i-j:=⟨_,rfl⟩
    have hdi:(i:Int)-j=d:=by omega
    rw [← hd] at HK
    have HD:=Lib.hid hd
    have hd5:d≤5000:=by omega
    have HLT:=Lib.hid e2
    have HJ:=Lib.hid k3
    clear k1 k2 k3 k4 k5 k6 hp HR hd
    go_wp2_with (go_at_call 119;refine HW.out.mono ?_;rintro e w2 ⟨rfl,hs⟩;have HS:=Lib.hid hs;clear hs)
    go_roundw
    case rel=>exact ⟨d,j,f,_,hd5,hj5,by go_num,by go_num,HK,Lib.hid (HI.out.then_ HS.out)⟩
    case measure=>have h1:=HD.out;have h2:=HLT.out;have h3:=HJ.out;simp [intOf];omega
   ·rw [if_neg e2] at k5
    obtain ⟨q,hq⟩:∃ q,q=m+j-i:=⟨_,rfl⟩
    have hqi:(m:Int)+j-i=q:=by omega
    have HW:=Lib.hid ((swapR_any R n c p q i F fv wr HI.out.row (by omega) (by omega) hn hc))
    have HK:Hid (0<i∧i≤m∧0<j-i∧m+(j-i)≤n∧rotF m f i (j-i) (swR p q i F)=T∧i+(j-i)≤f):=Lib.hid ⟨by omega,by omega,by omega,by omega,by rw [hp,hq];exact k5,by omega⟩
    obtain ⟨d,hd⟩:∃ d,d=j-i:=⟨_,rfl⟩
    have hdi:(j:Int)-i=d:=by omega
    rw [← hd] at HK
    have HD:=Lib.hid hd
    have hd5:d≤5000:=by omega
    have HLT:Hid (i<j):=Lib.hid (by omega)
    have HJ:=Lib.hid k1
    clear k1 k2 k3 k4 k5 k6 hp HR hd hq
    go_wp2_with (go_at_call 119;refine HW.out.mono ?_;rintro e w2 ⟨rfl,hs⟩;have HS:=Lib.hid hs;clear hs)
    go_roundw
    case rel=>exact ⟨i,d,f,_,hi5,hd5,by go_num,by go_num,HK,Lib.hid (HI.out.then_ HS.out)⟩
    case measure=>have h1:=HD.out;have h2:=HLT.out;have h3:=HJ.out;simp [intOf];omega
theorem SrI.two {w wr : World} {R n c x y : Nat} {F : Nat → Iv} (h : SrI w R c F wr) (hB : BdF n F) (hx : x < n) (hy : y < n) (hn : n ≤ c) :
    (∀ n' os', (grow (wr.drewN n') os').cell? ⟨R, x * 4, none⟩ = some (.int .i64 (F x).p)) ∧ (∀ n' os', (grow (wr.drewN n') os').cell? ⟨R, x * 4 + 1, none⟩ = some (.int .i64 (F x).f)) ∧ (∀ n' os', (grow (wr.drewN n') os').cell? ⟨R, x * 4 + 2, none⟩ = some (.int .i64 (F x).t)) ∧ (∀ n' os', (grow (wr.drewN n') os').cell? ⟨R, x * 4 + 3, none⟩ = some (.bool (F x).h)) ∧
    (∀ n' os', (grow (wr.drewN n') os').cell? ⟨R, y * 4, none⟩ = some (.int .i64 (F y).p)) ∧ (∀ n' os', (grow (wr.drewN n') os').cell? ⟨R, y * 4 + 1, none⟩ = some (.int .i64 (F y).f)) ∧ (∀ n' os', (grow (wr.drewN n') os').cell? ⟨R, y * 4 + 2, none⟩ = some (.int .i64 (F y).t)) ∧ (∀ n' os', (grow (wr.drewN n') os').cell? ⟨R, y * 4 + 3, none⟩ = some (.bool (F y).h)) ∧
    Hid (∀ n' os', Calls Tryd.prog 52 #[.agg #[.int .i64 (F x).p, .int .i64 (F x).f, .int .i64 (F x).t, .bool (F x).h], .agg #[.int .i64 (F y).p, .int .i64 (F y).f, .int .i64 (F y).t, .bool (F y).h]] (grow (wr.drewN n') os') fun e w' => e = .returned (.int .i64 ((F x).f - (F y).f)) ∧ ∃ q os'', w' = grow ((grow (wr.drewN n') os').drewN q) os'') :=
  ⟨fun n' os' => ((h.grown n' os').cells (show x < c by omega)).1, fun n' os' => ((h.grown n' os').cells (show x < c by omega)).2.1, fun n' os' => ((h.grown n' os').cells (show x < c by omega)).2.2.1, fun n' os' => ((h.grown n' os').cells (show x < c by omega)).2.2.2.1,
   fun n' os' => ((h.grown n' os').cells (show y < c by omega)).1, fun n' os' => ((h.grown n' os').cells (show y < c by omega)).2.1, fun n' os' => ((h.grown n' os').cells (show y < c by omega)).2.2.1, fun n' os' => ((h.grown n' os').cells (show y < c by omega)).2.2.2.1,
   Lib.hid fun n' os' => cmp_any _ _ (hB x hx) (hB y hy) _⟩
theorem symA_any (R n c a b:Nat) (G:Nat→Iv) (w:World) (h:Blk w R 110 (ivA c G)) (hB:BdF n G) (h2:a+1<b) (hb:b≤n) (hn:n≤c) (hc:c≤5000) :
  Calls Tryd.prog 95 #[.slice (some ⟨R,0,none⟩) n c,.int .i64 a,.int .i64 (a+1:Nat),.int .i64 b,.func (.func 52) #[] #[]] w fun e w'=>e=.returned (.tuple #[])∧SrI w R c (shU (bsF (fun h=>decide (kyF (G h)<kyF (G a))) (b-(a+1)) (a+1) b-1-a) a G) w':=by
 obtain ⟨t,ht⟩:∃ t,t=bsF (fun h=>decide (kyF (G h)<kyF (G a))) (b-(a+1)) (a+1) b:=⟨_,rfl⟩
 have HT:=Lib.hid ht
 have H0:=Lib.hid (SrI.start h)
 have HB:=Lib.hid hB
 have mixed:Tryd.prog.follows .mixedOrders=true:=by kernel_rfl
 rw [← ht]
 obtain ⟨m,hm⟩:∃ m,m=a+1:=⟨_,rfl⟩
 have hma:(m:Int)-a=1:=by omega
 have ham:a<m:=by omega
 have hmb:m<b:=by omega
 have HM:=Lib.hid hm
 rw [← hm] at ht ⊢
 obtain ⟨T,hTT⟩:∃ T,T=shU (t-1-a) a G:=⟨_,rfl⟩
 have HTT:=Lib.hid hTT
 rw [← hTT]
 clear hTT
 have HT2:Hid (bsF (fun h=>decide (kyF (G h)<kyF (G a))) (b-m) m b=t):=Lib.hid ht.symm
 clear h hB ht hm h2
 go_enter Tryd.func95,Tryd.ntmps95
 go_wp2
 go_loopw [10,11] (fun s u wr=>∃ i j f:Nat,m≤i∧i≤j∧j≤b∧s=.int .i64 i∧u=.int .i64 j∧Hid (j-i≤f∧bsF (fun h=>decide (kyF (G h)<kyF (G a))) f i j=t)∧Hid (SrI w R c G wr)) (fun s u _=>(intOf u).toNat-(intOf s).toNat)
 case atStart=>exact ⟨m,b,b-m,by omega,by omega,by omega,rfl,rfl,Lib.hid ⟨Nat.le_refl _,HT2.out⟩,H0⟩
 case round =>
  clear H0 HT2
  obtain ⟨i,j,f,hi,hij,hj,rfl,rfl,HR,HI⟩:=hrel
  by_cases hlt:i<j
  ·obtain ⟨q,hq⟩:∃ q,q=(i+j) / 2:=⟨_,rfl⟩
   have hqi:((i:Int)+j) / 2=q:=by omega
   obtain ⟨f,rfl⟩:∃ f',f=f'+1:=⟨f-1,by have:=HR.out.1;omega⟩
   have hqn:q<n:=by omega
   have han:a<n:=by omega
   have hbs:=HR.out
   unfold bsF at hbs
   rw [if_pos hlt,← hq] at hbs
   obtain ⟨l0,l1,l2,l3,m0,m1,m2,m3,HCM⟩:=HI.out.two HB.out hqn han hn
   obtain ⟨z,hz⟩:∃ z,z=(G q).f-(G a).f:=⟨_,rfl⟩
   rw [← hz] at HCM
   obtain ⟨X,hX⟩:∃ X,X=G q:=⟨_,rfl⟩
   obtain ⟨Y,hY⟩:∃ Y,Y=G a:=⟨_,rfl⟩
   rw [← hX] at l0 l1 l2 l3 HCM hz
   rw [← hY] at m0 m1 m2 m3 HCM hz
   by_cases hlv:X.f<Y.f
   ·have gz:decide (z<0)=true:=decide_eq_true (by omega)
    have HK:Hid (j-(q+1)≤f∧bsF (fun h=>decide (kyF (G h)<kyF (G a))) f (q+1) j=t):=Lib.hid ⟨by omega,by
     have h2:=hbs.2
     rw [if_pos (by rw [decide_eq_true_eq];show (G q).f<(G a).f;rw [← hX,← hY];exact hlv)] at h2
     exact h2⟩
    have HQ:Hid (i≤q∧q<j):=Lib.hid ⟨by omega,by omega⟩
    clear hbs hz hX hY hlv hq HR
    go_wp2_with fail
    go_quiet_grown (first | (go_at_call 52;refine Calls.grown_of (HCM.out _ _)))
    go_wp2
    go_roundw
    case rel=>exact ⟨q+1,j,f,by have:=HQ.out;omega,by have:=HQ.out;omega,hj,by go_num,rfl,HK,Lib.hid (HI.out.grown nq osq)⟩
    case measure=>have:=HQ.out;simp [intOf];omega
   ·have gz:decide (z<0)=false:=decide_eq_false (by omega)
    have HK:Hid (q-i≤f∧bsF (fun h=>decide (kyF (G h)<kyF (G a))) f i q=t):=Lib.hid ⟨by omega,by
     have h2:=hbs.2
     rw [if_neg (by rw [decide_eq_true_eq];show ¬ (G q).f<(G a).f;rw [← hX,← hY];exact hlv)] at h2
     exact h2⟩
    have HQ:Hid (i≤q∧q<j):=Lib.hid ⟨by omega,by omega⟩
    clear hbs hz hX hY hlv hq HR
    go_wp2_with fail
    go_quiet_grown (first | (go_at_call 52;refine Calls.grown_of (HCM.out _ _)))
    go_wp2
    go_roundw
    case rel=>exact ⟨i,q,f,hi,by have:=HQ.out;omega,by have:=HQ.out;omega,rfl,by go_num,HK,Lib.hid (HI.out.grown nq osq)⟩
    case measure=>have:=HQ.out;simp [intOf];omega
  ·obtain rfl:i=j:=by omega
   have hit:i=t:=by have h2:=HR.out.2;rw [bs_end _ _ (Nat.le_refl _)] at h2;exact h2
   obtain ⟨e,he⟩:∃ e,e=i-1:=⟨_,rfl⟩
   have hei:(i:Int)-1=e:=by omega
   have hae:a≤e:=by have:=HM.out;omega
   have HSI:Hid (shU (e-a) a G=T):=Lib.hid (by rw [HTT.out,← hit,he])
   have hen:e<n:=by omega
   clear he HR HT hit
   go_wp2
   obtain ⟨wo,rfl⟩:∃ wo:World,wo=wr:=⟨_,rfl⟩
   go_loopw [13] (fun s wr=>∃ (k:Nat) (F:Nat→Iv),a≤k∧k≤e∧s=.int .i64 k∧Hid (SrI w R c F wr)∧Hid (shU (e-k) k F=T)) (fun s _=>e-(intOf s).toNat)
   case atStart=>exact ⟨a,G,by omega,hae,rfl,HI,HSI⟩
   case round =>
    clear HI HSI
    obtain ⟨k,F,hak,hke,rfl,HI,HS⟩:=hrel
    by_cases hlt2:k<e
    ·obtain ⟨q,hq⟩:∃ q,q=k+1:=⟨_,rfl⟩
     have hqi:(k:Int)+1=q:=by omega
     have hkn:k<n:=by omega
     have hqn:q<n:=by omega
     have hne1:¬ k=q:=by omega
     have hne2:¬ q=k:=by omega
     obtain ⟨z0,z1,z2,z3,f0,f1,f2,f3⟩:=HI.out.cells (show k<c by omega)
     obtain ⟨y0,y1,y2,y3,g0,g1,g2,g3⟩:=HI.out.cells (show q<c by omega)
     have HS2:=Lib.hid (HI.out.swap k q)
     unfold setIv at HS2
     have HSN:Hid (shU (e-q) q (sw F k q)=T):=Lib.hid (by
      rw [← HS.out,show e-k=(e-q)+1 by omega,hq]
      rfl)
     have HQ:=Lib.hid hq
     clear hq
     go_wp2
     go_region
     go_wp2
     go_roundw
     case rel=>exact ⟨q,_,by have:=HQ.out;omega,by have:=HQ.out;omega,by go_num,HS2,HSN⟩
     case measure=>have:=HQ.out;simp [intOf];omega
    ·obtain rfl:k=e:=by omega
     have HF:Hid (T=F):=Lib.hid (by rw [← HS.out,Nat.sub_self];rfl)
     go_wp2
     first | go_end0 | go_ret | (refine bodyPost_ret (v:=.tuple #[]) (by simp [results,Tryd.func95]) rfl ?_)
     exact ⟨rfl,by rw [HF.out];exact HI.out⟩
theorem symB_any (R n c a m b:Nat) (G:Nat→Iv) (w:World) (h:Blk w R 110 (ivA c G)) (hB:BdF n G) (h1:a+1<m) (h2:m+1=b) (hb:b≤n) (hn:n≤c) (hc:c≤5000) :
  Calls Tryd.prog 95 #[.slice (some ⟨R,0,none⟩) n c,.int .i64 a,.int .i64 m,.int .i64 b,.func (.func 52) #[] #[]] w fun e w'=>e=.returned (.tuple #[])∧SrI w R c (shD (m-bsF (fun h=>!decide (kyF (G m)<kyF (G h))) (m-a) a m) m G) w':=by
 obtain ⟨t,ht⟩:∃ t,t=bsF (fun h=>!decide (kyF (G m)<kyF (G h))) (m-a) a m:=⟨_,rfl⟩
 have H0:=Lib.hid (SrI.start h)
 have HB:=Lib.hid hB
 have mixed:Tryd.prog.follows .mixedOrders=true:=by kernel_rfl
 rw [← ht]
 obtain ⟨T,hTT⟩:∃ T,T=shD (m-t) m G:=⟨_,rfl⟩
 have HTT:=Lib.hid hTT
 rw [← hTT]
 obtain ⟨d,hd⟩:∃ d,d=m-a:=⟨_,rfl⟩
 have hma:(m:Int)-a=d:=by omega
 have gd:((d:Int) == 1)=false:=by simp;omega
 have hbm:(b:Int)-m=1:=by omega
 have ham:a<m:=by omega
 have hmn:m<n:=by omega
 have HT2:Hid (bsF (fun h=>!decide (kyF (G m)<kyF (G h))) (m-a) a m=t):=Lib.hid ht.symm
 clear h hB ht hTT h1 h2 hd
 go_enter Tryd.func95,Tryd.ntmps95
 go_wp2
 go_loopw [14,15] (fun s u wr=>∃ i j f:Nat,a≤i∧i≤j∧j≤m∧s=.int .i64 i∧u=.int .i64 j∧Hid (j-i≤f∧bsF (fun h=>!decide (kyF (G m)<kyF (G h))) f i j=t)∧Hid (SrI w R c G wr)) (fun s u _=>(intOf u).toNat-(intOf s).toNat)
 case atStart=>exact ⟨a,m,m-a,by omega,by omega,by omega,rfl,rfl,Lib.hid ⟨Nat.le_refl _,HT2.out⟩,H0⟩
 case round =>
  clear H0 HT2
  obtain ⟨i,j,f,hi,hij,hj,rfl,rfl,HR,HI⟩:=hrel
  by_cases hlt:i<j
  ·obtain ⟨q,hq⟩:∃ q,q=(i+j) / 2:=⟨_,rfl⟩
   have hqi:((i:Int)+j) / 2=q:=by omega
   obtain ⟨f,rfl⟩:∃ f',f=f'+1:=⟨f-1,by have:=HR.out.1;omega⟩
   have hqn:q<n:=by omega
   have hbs:=HR.out
   unfold bsF at hbs
   rw [if_pos hlt,← hq] at hbs
   obtain ⟨l0,l1,l2,l3,m0,m1,m2,m3,HCM⟩:=HI.out.two HB.out hmn hqn hn
   obtain ⟨z,hz⟩:∃ z,z=(G m).f-(G q).f:=⟨_,rfl⟩
   rw [← hz] at HCM
   obtain ⟨X,hX⟩:∃ X,X=G m:=⟨_,rfl⟩
   obtain ⟨Y,hY⟩:∃ Y,Y=G q:=⟨_,rfl⟩
   rw [← hX] at l0 l1 l2 l3 HCM hz
   rw [← hY] at m0 m1 m2 m3 HCM hz
   by_cases hlv:X.f<Y.f
   ·have gz:decide (z<0)=true:=decide_eq_true (by omega)
    have HK:Hid (q-i≤f∧bsF (fun h=>!decide (kyF (G m)<kyF (G h))) f i q=t):=Lib.hid ⟨by omega,by
     have h2:=hbs.2
     rw [if_neg (by rw [Bool.not_eq_true',decide_eq_false_iff_not,Decidable.not_not];show (G m).f<(G q).f;rw [← hX,← hY];exact hlv)] at h2
     exact h2⟩
    have HQ:Hid (i≤q∧q<j):=Lib.hid ⟨by omega,by omega⟩
    clear hbs hz hX hY hlv hq HR
    go_wp2_with fail
    go_quiet_grown (first | (go_at_call 52;refine Calls.grown_of (HCM.out _ _)))
    go_wp2
    go_roundw
    case rel=>exact ⟨i,q,f,hi,by have:=HQ.out;omega,by have:=HQ.out;omega,rfl,by go_num,HK,Lib.hid (HI.out.grown nq osq)⟩
    case measure=>have:=HQ.out;simp [intOf];omega
   ·have gz:decide (z<0)=false:=decide_eq_false (by omega)
    have HK:Hid (j-(q+1)≤f∧bsF (fun h=>!decide (kyF (G m)<kyF (G h))) f (q+1) j=t):=Lib.hid ⟨by omega,by
     have h2:=hbs.2
     rw [if_pos (by rw [Bool.not_eq_true',decide_eq_false_iff_not];show ¬ (G m).f<(G q).f;rw [← hX,← hY];exact hlv)] at h2
     exact h2⟩
    have HQ:Hid (i≤q∧q<j):=Lib.hid ⟨by omega,by omega⟩
    clear hbs hz hX hY hlv hq HR
    go_wp2_with fail
    go_quiet_grown (first | (go_at_call 52;refine Calls.grown_of (HCM.out _ _)))
    go_wp2
    go_roundw
    case rel=>exact ⟨q+1,j,f,by have:=HQ.out;omega,by have:=HQ.out;omega,hj,by go_num,rfl,HK,Lib.hid (HI.out.grown nq osq)⟩
    case measure=>have:=HQ.out;simp [intOf];omega
  ·obtain rfl:i=j:=by omega
   have hit:i=t:=by have h2:=HR.out.2;rw [bs_end _ _ (Nat.le_refl _)] at h2;exact h2
   have HSI:Hid (shD (m-i) m G=T):=Lib.hid (by rw [HTT.out,← hit])
   clear HR hit
   go_wp2
   obtain ⟨wo,rfl⟩:∃ wo:World,wo=wr:=⟨_,rfl⟩
   go_loopw [17] (fun s wr=>∃ (k:Nat) (F:Nat→Iv),i≤k∧k≤m∧s=.int .i64 k∧Hid (SrI w R c F wr)∧Hid (shD (k-i) k F=T)) (fun s _=>(intOf s).toNat)
   case atStart=>exact ⟨m,G,by omega,by omega,rfl,HI,HSI⟩
   case round =>
    clear HI HSI
    obtain ⟨k,F,hik,hkm,rfl,HI,HS⟩:=hrel
    by_cases hlt2:i<k
    ·obtain ⟨q,hq⟩:∃ q,q=k-1:=⟨_,rfl⟩
     have hqi:(k:Int)-1=q:=by omega
     have hkn:k<n:=by omega
     have hqn:q<n:=by omega
     have hne1:¬ k=q:=by omega
     have hne2:¬ q=k:=by omega
     obtain ⟨z0,z1,z2,z3,f0,f1,f2,f3⟩:=HI.out.cells (show k<c by omega)
     obtain ⟨y0,y1,y2,y3,g0,g1,g2,g3⟩:=HI.out.cells (show q<c by omega)
     have HS2:=Lib.hid (HI.out.swap k q)
     unfold setIv at HS2
     have HSN:Hid (shD (q-i) q (sw F k q)=T):=Lib.hid (by
      rw [← HS.out,show k-i=(q-i)+1 by omega,hq]
      rfl)
     have HQ:=Lib.hid hq
     clear hq
     go_wp2
     go_region
     go_wp2
     go_roundw
     case rel=>exact ⟨q,_,by have:=HQ.out;omega,by have:=HQ.out;omega,by go_num,HS2,HSN⟩
     case measure=>have:=HQ.out;simp [intOf];omega
    ·obtain rfl:i=k:=by omega
     have HF:Hid (T=F):=Lib.hid (by rw [← HS.out,Nat.sub_self];rfl)
     go_wp2
     first | go_end0 | go_ret | (refine bodyPost_ret (v:=.tuple #[]) (by simp [results,Tryd.func95]) rfl ?_)
     exact ⟨rfl,by rw [HF.out];exact HI.out⟩
def SymOK (R n c f:Nat):Prop:=∀ (a m b:Nat) (G:Nat→Iv) (w:World),Blk w R 110 (ivA c G)→BdF n G→a<m→m<b→b≤n→b-a≤f →
  Calls Tryd.prog 95 #[.slice (some ⟨R,0,none⟩) n c,.int .i64 a,.int .i64 m,.int .i64 b,.func (.func 52) #[] #[]] w fun e w'=>e=.returned (.tuple #[])∧SrI w R c (symM kyF f a m b G) w'
theorem stM_form (G:Nat→Iv) {a m b:Nat} (h1:a<m) (h2:m<b):∃ i0 j0 f0,stM kyF G a m b=bsF (fun c=>!decide (kyF (G ((a+b) / 2+m-1-c))<kyF (G c))) f0 i0 j0∧j0-i0≤f0∧i0≤j0∧j0≤b∧(∀ q,i0≤q→q<j0→q≤(a+b) / 2+m-1∧(a+b) / 2+m-1-q<b) ∧
  (((a+b) / 2<m∧i0=(a+b) / 2+m-b∧b≤(a+b) / 2+m∧j0=(a+b) / 2)∨(¬ (a+b) / 2<m∧i0=a∧j0=m)):=by
 unfold stM
 by_cases hm:(a+b) / 2<m
 ·rw [if_pos hm]
  exact ⟨_,_,_,rfl,Nat.le_refl _,by omega,by omega,fun q h3 h4=>by omega,.inl ⟨hm,rfl,by omega,rfl⟩⟩
 ·rw [if_neg hm]
  exact ⟨_,_,_,rfl,Nat.le_refl _,by omega,by omega,fun q h3 h4=>by omega,.inr ⟨hm,rfl,rfl⟩⟩
theorem symC_any (R n c f:Nat) (hn:n≤c) (hc:c≤5000) (IH:SymOK R n c f) (a m b:Nat) (G:Nat→Iv) (w:World) (h:Blk w R 110 (ivA c G)) (hB:BdF n G) (h1:a+1<m) (h2:m+1<b) (hb:b≤n) (hf:b-a≤f+1) :
  Calls Tryd.prog 95 #[.slice (some ⟨R,0,none⟩) n c,.int .i64 a,.int .i64 m,.int .i64 b,.func (.func 52) #[] #[]] w fun e w'=>e=.returned (.tuple #[])∧SrI w R c (symM kyF (f+1) a m b G) w':=by
 have hok:=stM_ok kyF G (show a<m by omega) (show m<b by omega)
 obtain ⟨i0,j0,f0,hst,hf0,hij0,hj0b,hpq,hcase⟩:=stM_form G (show a<m by omega) (show m<b by omega)
 obtain ⟨s,hs⟩:∃ s,s=stM kyF G a m b:=⟨_,rfl⟩
 obtain ⟨mid,hmid⟩:∃ mid,mid=(a+b) / 2:=⟨_,rfl⟩
 rw [← hs] at hst
 rw [← hs,← hmid] at hok
 rw [← hmid] at hst hpq hcase
 obtain ⟨e,he⟩:∃ e,e=mid+m-s:=⟨_,rfl⟩
 rw [← he] at hok
 obtain ⟨k1,k2,k3,k4,k5,_,_⟩:=hok
 obtain ⟨G1,hG1⟩:∃ x,x=(if s<m∧m<e then rotF m (e-s) (m-s) (e-m) G else G):=⟨_,rfl⟩
 obtain ⟨G2,hG2⟩:∃ x,x=(if a<s∧s<mid then symM kyF f a s mid G1 else G1):=⟨_,rfl⟩
 obtain ⟨G3,hG3⟩:∃ x,x=(if mid<e∧e<b then symM kyF f mid e b G2 else G2):=⟨_,rfl⟩
 have hfin:symM kyF (f+1) a m b G=G3:=by
  unfold symM
  rw [if_neg (by omega),if_neg (by omega)]
  simp only
  rw [← hs,← hmid,← he,← hG1,← hG2,← hG3]
 rw [hfin]
 have HB1:Hid (BdF n G1):=Lib.hid (by
  rw [hG1]
  split
  ·exact hB.prm (m:=n) (rot_prm m n (e-s) (m-s) (e-m) G (by omega) (by omega))
  ·exact hB)
 have HB2:Hid (BdF n G2):=Lib.hid (by
  rw [hG2]
  split
  ·exact HB1.out.prm (m:=n) (symM_prm kyF n f a s mid G1 (by omega) (by omega) (by omega))
  ·exact HB1.out)
 have HG1:=Lib.hid hG1
 have HG2:=Lib.hid hG2
 have HG3:=Lib.hid hG3
 have HST:=Lib.hid hst
 have HPQ:=Lib.hid hpq
 have H0:=Lib.hid (SrI.start h)
 have HB:=Lib.hid hB
 have HIH:Hid (SymOK R n c f):=Lib.hid IH
 have mixed:Tryd.prog.follows .mixedOrders=true:=by kernel_rfl
 obtain ⟨d1,hd1⟩:∃ d,d=m-a:=⟨_,rfl⟩
 have hma:(m:Int)-a=d1:=by omega
 have gd1:((d1:Int) == 1)=false:=by simp;omega
 obtain ⟨d2,hd2⟩:∃ d,d=b-m:=⟨_,rfl⟩
 have hbm:(b:Int)-m=d2:=by omega
 have gd2:((d2:Int) == 1)=false:=by simp;omega
 obtain ⟨nn,hnn⟩:∃ d,d=mid+m:=⟨_,rfl⟩
 obtain ⟨pp,hpp⟩:∃ d,d=nn-1:=⟨_,rfl⟩
 have hab:((a:Int)+b) / 2=mid:=by omega
 have hmm:(mid:Int)+m=nn:=by omega
 have hne:(nn:Int)-s=e:=by omega
 have hnp:(nn:Int)-1=pp:=by omega
 have ha5:a≤5000:=by omega
 have hb5:b≤5000:=by omega
 have hm5:m≤5000:=by omega
 have hn5:nn≤10000:=by omega
 have HF1:Hid (mid-a≤f∧b-mid≤f∧a<mid∧mid<b):=Lib.hid ⟨by omega,by omega,by omega,by omega⟩
 have HK:Hid (a≤s∧s≤m∧s≤mid∧m≤e∧e≤b):=Lib.hid ⟨k1,k2,k3,k4,k5⟩
 have HPP:Hid (pp=mid+m-1):=Lib.hid (by omega)
 have hj5:j0≤5000:=by omega
 have HCS:Hid ((mid<m∧(nn:Int)-b=i0∧j0=mid)∨(¬ mid<m∧i0=a∧j0=m)):=Lib.hid (by
  rcases hcase with ⟨c1,c2,c3,c4⟩ | ⟨c1,c2,c3⟩
  ·exact .inl ⟨c1,by omega,c4⟩
  ·exact .inr ⟨c1,c2,c3⟩)
 clear h hB hst hs hmid he hG1 hG2 hG3 hfin hpq hcase hd1 hd2 hnn hpp IH h1 h2 k1 k2 k3 k4 k5
 go_enter Tryd.func95,Tryd.ntmps95
 go_upto_if 140 with fail
 go_cut [20,21] (fun s20 s21 wx=>s20=.int .i64 i0∧s21=.int .i64 j0∧wx=w)
 case first =>
  rcases HCS.out with ⟨c1,c2,c3⟩ | ⟨c1,c2,c3⟩
  ·have HC3:=Lib.hid c3
   clear c3 hj5
   go_wp2
   go_meet
   exact ⟨rfl,by rw [HC3.out],rfl⟩
  ·have HC3:=Lib.hid c3
   have HC2:=Lib.hid c2
   clear c3 c2 hj5
   go_wp2
   go_meet
   exact ⟨by rw [HC2.out],by rw [HC3.out],rfl⟩
 case rest =>
  obtain ⟨rfl,rfl,rfl⟩:=hcut
  obtain ⟨w0,rfl⟩:∃ w0,w0=wc:=⟨_,rfl⟩
  go_wp2
  go_loopw [20,21] (fun u v wr=>∃ i j f:Nat,i0≤i∧i≤j∧j≤j0∧u=.int .i64 i∧v=.int .i64 j∧Hid (j-i≤f∧bsF (fun c=>!decide (kyF (G (mid+m-1-c))<kyF (G c))) f i j=s)∧Hid (SrI w0 R c G wr)) (fun u v _=>(intOf v).toNat-(intOf u).toNat)
  case atStart=>exact ⟨i0,j0,f0,by omega,by omega,by omega,rfl,rfl,Lib.hid ⟨hf0,HST.out.symm⟩,H0⟩
  case round =>
   clear H0
   obtain ⟨i,j,f',hi,hij,hj,rfl,rfl,HR,HI⟩:=hrel
   by_cases hlt:i<j
   ·obtain ⟨q,hq⟩:∃ q,q=(i+j) / 2:=⟨_,rfl⟩
    have hqi:((i:Int)+j) / 2=q:=by omega
    obtain ⟨f',rfl⟩:∃ f2,f'=f2+1:=⟨f'-1,by have:=HR.out.1;omega⟩
    have hpqq:=HPQ.out q (by omega) (by omega)
    rw [← HPP.out] at hpqq
    obtain ⟨x,hx⟩:∃ x,x=pp-q:=⟨_,rfl⟩
    have hpx:(pp:Int)-q=x:=by omega
    have hqn:q<n:=by omega
    have hxn:x<n:=by omega
    have hx5:x≤5000:=by omega
    have hwx:IntKind.i64.wrap (x:Int)=(x:Int):=by rw [IntKind.wrap_i64];omega
    have hbs:=HR.out
    unfold bsF at hbs
    rw [if_pos hlt,← hq,← HPP.out,← hx] at hbs
    obtain ⟨l0,l1,l2,l3,m0,m1,m2,m3,HCM⟩:=HI.out.two HB.out hxn hqn hn
    obtain ⟨z,hz⟩:∃ z,z=(G x).f-(G q).f:=⟨_,rfl⟩
    rw [← hz] at HCM
    obtain ⟨X,hX⟩:∃ X,X=G x:=⟨_,rfl⟩
    obtain ⟨Y,hY⟩:∃ Y,Y=G q:=⟨_,rfl⟩
    rw [← hX] at l0 l1 l2 l3 HCM hz
    rw [← hY] at m0 m1 m2 m3 HCM hz
    by_cases hlv:X.f<Y.f
    ·have gz:decide (z<0)=true:=decide_eq_true (by omega)
     have HKK:Hid (q-i≤f'∧bsF (fun c=>!decide (kyF (G (mid+m-1-c))<kyF (G c))) f' i q=s):=Lib.hid ⟨by omega,by
      have h2:=hbs.2
      rw [if_neg (by rw [Bool.not_eq_true',decide_eq_false_iff_not,Decidable.not_not];show (G x).f<(G q).f;rw [← hX,← hY];exact hlv),HPP.out] at h2
      exact h2⟩
     have HQ:Hid (i≤q∧q<j):=Lib.hid ⟨by omega,by omega⟩
     clear hbs hz hX hY hlv hq HR hx hpqq
     as_aux_lemma =>
      go_wp2_with fail
      go_quiet_grown (first | (go_at_call 52;refine Calls.grown_of (HCM.out _ _)))
      go_wp2
      go_roundw
      case rel=>exact ⟨i,q,f',hi,by have:=HQ.out;omega,by have:=HQ.out;omega,rfl,by go_num,HKK,Lib.hid (HI.out.grown nq osq)⟩
      case measure=>have:=HQ.out;simp [intOf];omega
    ·have gz:decide (z<0)=false:=decide_eq_false (by omega)
     have HKK:Hid (j-(q+1)≤f'∧bsF (fun c=>!decide (kyF (G (mid+m-1-c))<kyF (G c))) f' (q+1) j=s):=Lib.hid ⟨by omega,by
      have h2:=hbs.2
      rw [if_pos (by rw [Bool.not_eq_true',decide_eq_false_iff_not];show ¬ (G x).f<(G q).f;rw [← hX,← hY];exact hlv),HPP.out] at h2
      exact h2⟩
     have HQ:Hid (i≤q∧q<j):=Lib.hid ⟨by omega,by omega⟩
     clear hbs hz hX hY hlv hq HR hx hpqq
     as_aux_lemma =>
      go_wp2_with fail
      go_quiet_grown (first | (go_at_call 52;refine Calls.grown_of (HCM.out _ _)))
      go_wp2
      go_roundw
      case rel=>exact ⟨q+1,j,f',by have:=HQ.out;omega,by have:=HQ.out;omega,hj,by go_num,rfl,HKK,Lib.hid (HI.out.grown nq osq)⟩
      case measure=>have:=HQ.out;simp [intOf];omega
   ·obtain rfl:i=j:=by omega
    obtain rfl:i=s:=by have h2:=HR.out.2;rw [bs_end _ _ (Nat.le_refl _)] at h2;exact h2
    clear HR HST HPQ HCS hi hij hj hlt
    obtain ⟨W9,rfl⟩:∃ W9,W9=wr:=⟨_,rfl⟩
    as_aux_lemma =>
     go_upto_region 39 with fail
     go_cut [185] (fun t wx=>t=.bool (decide (i<m∧m<e))∧wx=W9)
     case first =>
      as_aux_lemma =>
       by_cases c1:i<m
       ·by_cases c2:m<e
        ·go_wp2
         go_meet
         exact ⟨by rw [decide_eq_true (show i<m∧m<e from ⟨c1,c2⟩)],rfl⟩
        ·go_wp2
         go_meet
         exact ⟨by rw [decide_eq_false (show ¬ (i<m∧m<e) from fun hh=>c2 hh.2)],rfl⟩
       ·go_wp2
        go_meet
        exact ⟨by rw [decide_eq_false (show ¬ (i<m∧m<e) from fun hh=>c1 hh.1)],rfl⟩
     case rest =>
      obtain ⟨rfl,rfl⟩:=hcut
      obtain ⟨y1,hy1⟩:∃ y,y=decide (i<m∧m<e):=⟨_,rfl⟩
      rw [← hy1]
      have HY1:=Lib.hid hy1
      clear hy1
      as_aux_lemma =>
       go_upto_if 185 with fail
       go_cut [] (fun wx=>Hid (SrI w0 R c G1 wx))
       case first =>
        as_aux_lemma =>
         have hR1:=HG1.out
         cases y1 with
         | true =>
          have c12:=of_decide_eq_true HY1.out.symm
          rw [if_pos c12] at hR1
          have HC:=Lib.hid (rotate_any R n c i m e G (.func (.func 52) #[] #[]) _ HI.out.row c12.1 c12.2 (by have:=HK.out;omega) hn hc)
          rw [← hR1] at HC
          clear hR1 c12
          go_wp2_with (go_at_call 108;refine HC.out.mono ?_;rintro e w2 ⟨rfl,hs⟩;have HS:=Lib.hid hs;clear hs)
          go_meet
          exact Lib.hid (HI.out.then_ HS.out)
         | false =>
          rw [if_neg (of_decide_eq_false HY1.out.symm)] at hR1
          have HR1:=Lib.hid hR1
          clear hR1
          go_wp2
          go_meet
          exact Lib.hid (by rw [HR1.out];exact HI.out)
       case rest =>
        clear HI HG1
        have HI:Hid (SrI w0 R c G1 wc):=hcut
        clear hcut HY1 y1
        obtain ⟨W8,rfl⟩:∃ W8,W8=wc:=⟨_,rfl⟩
        as_aux_lemma =>
         go_upto_region 41 with fail
         go_cut [199] (fun t wx=>t=.bool (decide (a<i∧i<mid))∧wx=W8)
         case first =>
          as_aux_lemma =>
           by_cases c1:a<i
           ·by_cases c2:i<mid
            ·go_wp2
             go_meet
             exact ⟨by rw [decide_eq_true (show a<i∧i<mid from ⟨c1,c2⟩)],rfl⟩
            ·go_wp2
             go_meet
             exact ⟨by rw [decide_eq_false (show ¬ (a<i∧i<mid) from fun hh=>c2 hh.2)],rfl⟩
           ·go_wp2
            go_meet
            exact ⟨by rw [decide_eq_false (show ¬ (a<i∧i<mid) from fun hh=>c1 hh.1)],rfl⟩
         case rest =>
          obtain ⟨rfl,rfl⟩:=hcut
          obtain ⟨y1,hy1⟩:∃ y,y=decide (a<i∧i<mid):=⟨_,rfl⟩
          rw [← hy1]
          have HY1:=Lib.hid hy1
          clear hy1
          as_aux_lemma =>
           go_upto_if 199 with fail
           go_cut [] (fun wx=>Hid (SrI w0 R c G2 wx))
           case first =>
            as_aux_lemma =>
             have hR1:=HG2.out
             cases y1 with
             | true =>
              have c12:=of_decide_eq_true HY1.out.symm
              rw [if_pos c12] at hR1
              have HC:=Lib.hid (HIH.out a i mid G1 _ HI.out.row HB1.out c12.1 c12.2 (by have:=HF1.out;omega) HF1.out.1)
              rw [← hR1] at HC
              clear hR1 c12
              go_wp2_with (go_at_call 95;refine HC.out.mono ?_;rintro e w2 ⟨rfl,hs⟩;have HS:=Lib.hid hs;clear hs)
              go_meet
              exact Lib.hid (HI.out.then_ HS.out)
             | false =>
              rw [if_neg (of_decide_eq_false HY1.out.symm)] at hR1
              have HR1:=Lib.hid hR1
              clear hR1
              go_wp2
              go_meet
              exact Lib.hid (by rw [HR1.out];exact HI.out)
           case rest =>
            clear HI HG2
            have HI:Hid (SrI w0 R c G2 wc):=hcut
            clear hcut HY1 y1
            as_aux_lemma =>
             have hR1:=HG3.out
             by_cases c1:mid<e
             ·by_cases c2:e<b
              ·rw [if_pos ⟨c1,c2⟩] at hR1
               have HC:=Lib.hid (HIH.out mid e b G2 _ HI.out.row HB2.out c1 c2 hb HF1.out.2.1)
               rw [← hR1] at HC
               clear hR1
               go_wp2_with (go_at_call 95;refine HC.out.mono ?_;rintro e w2 ⟨rfl,hs⟩;have HS:=Lib.hid hs;clear hs)
               first | go_end0 | go_ret
               exact ⟨rfl,HI.out.then_ HS.out⟩
              ·rw [if_neg (fun hh=>c2 hh.2)] at hR1
               have HR1:=Lib.hid hR1
               clear hR1
               go_wp2
               first | go_end0 | go_ret
               exact ⟨rfl,by rw [HR1.out];exact HI.out⟩
             ·rw [if_neg (fun hh=>c1 hh.1)] at hR1
              have HR1:=Lib.hid hR1
              clear hR1
              go_wp2
              first | go_end0 | go_ret
              exact ⟨rfl,by rw [HR1.out];exact HI.out⟩
theorem symM_any (R n c:Nat) (hn:n≤c) (hc:c≤5000):∀ f,SymOK R n c f
 | 0=>fun a m b G w h hB h1 h2 hb hf=>by omega
 | f+1=>fun a m b G w h hB h1 h2 hb hf=>by
  by_cases c1:m-a=1
  ·obtain rfl:m=a+1:=by omega
   have:=symA_any R n c a b G w h hB h2 hb hn hc
   unfold symM
   rw [if_pos c1]
   exact this
  ·by_cases c2:b-m=1
   ·have:=symB_any R n c a m b G w h hB (by omega) (by omega) hb hn hc
    unfold symM
    rw [if_neg c1,if_pos c2]
    exact this
   ·exact symC_any R n c f hn hc (symM_any R n c hn hc f) a m b G w h hB (by omega) (by omega) hb hf
end Go.Proofs.YtepkogfiojkcpaaDoor
