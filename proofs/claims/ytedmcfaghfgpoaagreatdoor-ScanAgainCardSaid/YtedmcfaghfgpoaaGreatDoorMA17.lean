/-
  Texts of one seat, one behind the other: JEnd, JUp, JDn, JPop, JPsh, JRm, JEb.
-/
import Derived.Deep.DeepCutAuto
import Derived.Deep.RegionLaw
import Derived.Test.YtedmcfaghfgpoaaGreatDoorMA16

set_option linter.unusedVariables false
set_option linter.unusedSimpArgs false
set_option maxRecDepth 100000
set_option maxHeartbeats 51200000
namespace Go.Proofs.YtedmcfaghfgpoaaGreatDoor
open Go.ChangeShapes Go.WideShapes Go.ChangeAt Go.RowKit
section
variable {ks:Nat→Option Obj} {rb:Nat} {V:Nat→Value} {L:Nat→List Int} {nx:Int} {uv:Value} {us:List U3} {w:World}
theorem len_any (h:RmI ks rb V L nx uv us w) (hl:us.length≤5000) :
  Calls Tryz.prog 53 #[.pointer (some ⟨rb,5,none⟩)] w fun e w'=>e=.returned (.int .i64 us.length)∧w'=w:=by
 obtain ⟨A,c,rfl⟩:=own_slice h.uses
 have x5:w.cell? ⟨rb,5,none⟩=some (.slice A us.length c):=h.box.cell 5
 obtain ⟨n,hn⟩:∃ n,n=us.length:=⟨_,rfl⟩
 rw [← hn] at x5 hl ⊢
 clear h hn
 go_enter Tryz.func53,Tryz.ntmps53
 go_wp2
 first | go_end0 | go_ret
 exact ⟨rfl,rfl⟩
theorem less_any (h:RmI ks rb V L nx uv us w) {i j:Nat} (hi:i<us.length) (hj:j<us.length) (hl:us.length≤5000) :
  Calls Tryz.prog 135 #[.pointer (some ⟨rb,5,none⟩),.int .i64 i,.int .i64 j] w fun e w'=>e=.returned (.bool (decide ((us.getD i u0).t<(us.getD j u0).t)))∧∃ q,w'=w.drewN q:=by
 obtain ⟨g,cap,rfl,hg,hgw⟩:=h.urow (by omega)
 have x5:w.cell? ⟨rb,5,none⟩=some (.slice (some ⟨g,0,none⟩) us.length cap):=h.box.cell 5
 obtain ⟨_,y1,_,_,_,_⟩:=h.ucell hi
 obtain ⟨_,z1,_,_,_,_⟩:=h.ucell hj
 obtain ⟨n,hn⟩:∃ n,n=us.length:=⟨_,rfl⟩
 obtain ⟨p,hp⟩:∃ p,p=(us.getD i u0).t:=⟨_,rfl⟩
 obtain ⟨q,hq⟩:∃ p,p=(us.getD j u0).t:=⟨_,rfl⟩
 rw [← hn] at x5 hl hi hj
 rw [← hp] at y1 ⊢
 rw [← hq] at z1 ⊢
 clear h hn hp hq
 go_enter Tryz.func135,Tryz.ntmps135
 go_wp2
 go_quiet (fail)
 go_wp2
 first | go_end0 | go_ret
 exact ⟨rfl,_,rfl⟩
theorem swapU_any (h:RmI ks rb V L nx uv us w) {i j:Nat} (hi:i<us.length) (hj:j<us.length) (hij:i≠j) (hl:us.length≤5000) :
  Calls Tryz.prog 138 #[.pointer (some ⟨rb,5,none⟩),.int .i64 i,.int .i64 j] w fun e w'=>e=.returned (.tuple #[])∧RmI ks rb V L nx uv (swU us i j) w'∧Below rb w w':=by
 obtain ⟨g,cap,rfl,hg,hgw⟩:=h.urow (by omega)
 have x5:w.cell? ⟨rb,5,none⟩=some (.slice (some ⟨g,0,none⟩) us.length cap):=h.box.cell 5
 obtain ⟨y0,y1,y2,f0,f1,f2⟩:=h.ucell hi
 obtain ⟨z0,z1,z2,g0,g1,g2⟩:=h.ucell hj
 have h1:=h.setU (u:=us.getD j u0) hi
 have hln:us.length=(us.set i (us.getD j u0)).length:=by rw [List.length_set]
 rw [hln] at h1
 have h2:=h1.setU (u:=us.getD i u0) (show j<(us.set i (us.getD j u0)).length by rw [List.length_set];exact hj)
 rw [← hln] at h2
 have HR:=Lib.hid h2.drewN1
 have HB:Hid (Below rb w (setU (setU w rb g i (us.getD j u0)) rb g j (us.getD i u0)).drew):=Lib.hid ((below_setU (below_setU (Below.refl _ _) (by omega)) (by omega)).drew)
 obtain ⟨n,hn⟩:∃ n,n=us.length:=⟨_,rfl⟩
 obtain ⟨X,hX⟩:∃ p,p=us.getD i u0:=⟨_,rfl⟩
 obtain ⟨Y,hY⟩:∃ p,p=us.getD j u0:=⟨_,rfl⟩
 have HSW:Hid (swU us i j=(us.set i Y).set j X):=Lib.hid (by rw [hX,hY];rfl)
 rw [← hX] at y0 y1 y2 HR HB
 rw [← hY] at z0 z1 z2 HR HB
 rw [← hn] at x5 hl hi hj HR
 have HN:=Lib.hid hn
 have hji:¬ j=i:=fun e=>hij e.symm
 have hrg:¬ rb=g:=by omega
 have hgr:¬ g=rb:=by omega
 unfold setU at HR HB
 clear h h1 h2 hln hn hX hY
 go_enter Tryz.func138,Tryz.ntmps138
 go_wp2
 go_region
 go_wp2
 first | go_end0 | go_ret
 exact ⟨rfl,by rw [HSW.out,← HN.out];exact HR.out,HB.out⟩
end
theorem len_m (rb : Nat) (W : World) : (method 288 101 (.pointer (some ⟨rb, 5, none⟩)) "Len").run Tryz.prog W = .ok (53, .pointer (some ⟨rb, 5, none⟩)) W := by kernel_rfl
theorem len_n (rb : Nat) (W : World) : (nilAhead 288 101 (.pointer (some ⟨rb, 5, none⟩)) "Len").run Tryz.prog W = .ok (some false) W := by kernel_rfl
theorem less_m (rb : Nat) (W : World) : (method 288 101 (.pointer (some ⟨rb, 5, none⟩)) "Less").run Tryz.prog W = .ok (135, .pointer (some ⟨rb, 5, none⟩)) W := by kernel_rfl
theorem less_n (rb : Nat) (W : World) : (nilAhead 288 101 (.pointer (some ⟨rb, 5, none⟩)) "Less").run Tryz.prog W = .ok (some false) W := by kernel_rfl
theorem swap_m (rb : Nat) (W : World) : (method 288 101 (.pointer (some ⟨rb, 5, none⟩)) "Swap").run Tryz.prog W = .ok (138, .pointer (some ⟨rb, 5, none⟩)) W := by kernel_rfl
theorem swap_n (rb : Nat) (W : World) : (nilAhead 288 101 (.pointer (some ⟨rb, 5, none⟩)) "Swap").run Tryz.prog W = .ok (some false) W := by kernel_rfl
theorem push_m (rb : Nat) (W : World) : (method 288 101 (.pointer (some ⟨rb, 5, none⟩)) "Push").run Tryz.prog W = .ok (137, .pointer (some ⟨rb, 5, none⟩)) W := by kernel_rfl
theorem push_n (rb : Nat) (W : World) : (nilAhead 288 101 (.pointer (some ⟨rb, 5, none⟩)) "Push").run Tryz.prog W = .ok (some false) W := by kernel_rfl
theorem pop_m (rb : Nat) (W : World) : (method 288 101 (.pointer (some ⟨rb, 5, none⟩)) "Pop").run Tryz.prog W = .ok (136, .pointer (some ⟨rb, 5, none⟩)) W := by kernel_rfl
theorem pop_n (rb : Nat) (W : World) : (nilAhead 288 101 (.pointer (some ⟨rb, 5, none⟩)) "Pop").run Tryz.prog W = .ok (some false) W := by kernel_rfl
def upU:Nat→List U3→Nat→List U3
 | 0,us,_=>us
 | f+1,us,j=>if j=0∨¬ (us.getD j u0).t<(us.getD ((j-1) / 2) u0).t then us else upU f (swU us ((j-1) / 2) j) ((j-1) / 2)
theorem upU_len:∀ (f:Nat) (us:List U3) (j:Nat),(upU f us j).length=us.length
 | 0,us,j=>rfl
 | f+1,us,j=>by
  unfold upU
  split
  ·rfl
  ·rw [upU_len f,swU_len]
def chD (us:List U3) (i n:Nat):Nat:=if 2*i+2<n∧(us.getD (2*i+2) u0).t<(us.getD (2*i+1) u0).t then 2*i+2 else 2*i+1
def downU:Nat→List U3→Nat→Nat→List U3
 | 0,us,_,_=>us
 | f+1,us,i,n=>if n≤2*i+1 then us else if ¬ (us.getD (chD us i n) u0).t<(us.getD i u0).t then us else downU f (swU us i (chD us i n)) (chD us i n) n
theorem downU_len:∀ (f:Nat) (us:List U3) (i n:Nat),(downU f us i n).length=us.length
 | 0,us,i,n=>rfl
 | f+1,us,i,n=>by
  unfold downU
  split
  ·rfl
  ·split
   ·rfl
   ·rw [downU_len f,swU_len]
section
variable {ks:Nat→Option Obj} {rb:Nat} {V:Nat→Value} {L:Nat→List Int} {nx:Int} {uv:Value} {us:List U3} {w:World}
theorem up_any (h:RmI ks rb V L nx uv us w) {j:Nat} (hj:j<us.length) (hl:us.length≤5000) :
  Calls Tryz.prog 79 #[.iface 101 (.pointer (some ⟨rb,5,none⟩)),.int .i64 j] w fun e w'=>e=.returned (.tuple #[])∧RmI ks rb V L nx uv (upU (j+1) us j) w'∧Below rb w w':=by
 obtain ⟨T,hT⟩:∃ T,T=upU (j+1) us j:=⟨_,rfl⟩
 obtain ⟨n,hn⟩:∃ n,n=us.length:=⟨_,rfl⟩
 rw [← hT]
 have H0:Hid (RmI ks rb V L nx uv us w∧us.length=n∧upU (j+1) us j=T∧j<j+1∧Below rb w w):=Lib.hid ⟨h,hn.symm,hT.symm,by omega,Below.refl _ _⟩
 rw [← hn] at hj hl
 have hm1:=less_m rb
 have hm2:=less_n rb
 have hm3:=swap_m rb
 have hm4:=swap_n rb
 clear h hT hn
 go_enter Tryz.func79,Tryz.ntmps79
 go_wp2
 go_loopw [1] (fun s wr=>∃ (k f:Nat) (us:List U3),k<n∧s=.int .i64 k∧Hid (RmI ks rb V L nx uv us wr∧us.length=n∧upU f us k=T∧k<f∧Below rb w wr)) (fun s _=>(intOf s).toNat)
 case atStart=>exact ⟨j,j+1,us,hj,rfl,H0⟩
 case round =>
  clear H0
  obtain ⟨k,f,us,hk,rfl,HI⟩:=hrel
  obtain ⟨hR,hln,hup,hkf,hB⟩:=HI.out
  obtain ⟨f,rfl⟩:∃ f',f=f'+1:=⟨f-1,by omega⟩
  unfold upU at hup
  by_cases hk0:k=0
  ·subst hk0
   rw [if_pos (.inl rfl)] at hup
   have HE:Hid (RmI ks rb V L nx uv T wr∧Below rb w wr):=Lib.hid ⟨by rw [← hup];exact hR,hB⟩
   clear hR hln hup hkf hB HI
   go_wp2
   first | go_end0 | go_ret
   exact ⟨rfl,HE.out.1,HE.out.2⟩
  ·obtain ⟨i,hi⟩:∃ i,i=(k-1) / 2:=⟨_,rfl⟩
   rw [← hi] at hup
   obtain ⟨p,hp⟩:∃ p,p=k-1:=⟨_,rfl⟩
   have hpi:(k:Int)-1=p:=by omega
   have hpd:(p:Int) / 2=i:=by omega
   have hpt:Int.tdiv (p:Int) 2=i:=by rw [Int.tdiv_eq_ediv_of_nonneg (by omega)];exact hpd
   have hin:i<n:=by omega
   have hp5:p≤5000:=by omega
   have gik:((i:Int) == (k:Int))=false:=by simp;omega
   have hik:¬ i=k:=by omega
   have HLS:=Lib.hid (less_any hR (i:=k) (j:=i) (by omega) (by omega) (by omega))
   by_cases hlt:(us.getD k u0).t<(us.getD i u0).t
   ·rw [if_neg (by rintro (h1 | h1);exact hk0 h1;exact h1 hlt)] at hup
    rw [decide_eq_true hlt] at HLS
    have HSW:Hid (∀ q,Calls Tryz.prog 138 #[.pointer (some ⟨rb,5,none⟩),.int .i64 i,.int .i64 k] (wr.drewN q) fun e w'=>e=.returned (.tuple #[])∧RmI ks rb V L nx uv (swU us i k) w'∧Below rb (wr.drewN q) w'):=Lib.hid fun q=>swapU_any (hR.dn q) (by omega) (by omega) hik (by omega)
    have HN:Hid ((swU us i k).length=n∧upU f (swU us i k) i=T∧i<f):=Lib.hid ⟨by rw [swU_len];exact hln,hup,by omega⟩
    have HB:=Lib.hid hB
    have HIK:Hid (i<k):=Lib.hid (by omega)
    clear hR hln hup hkf hB HI hi hp hlt
    go_wp2_with (first
     | (go_at_call 135;refine HLS.out.mono ?_;rintro e w2 ⟨rfl,q2,rfl⟩)
     | (go_at_call 138;refine (HSW.out q2).mono ?_;rintro e w3 ⟨rfl,hr3,hb3⟩;have HR3:=Lib.hid hr3;have HB3:Hid (Below rb w w3):=Lib.hid ((below_drewN HB.out q2).trans hb3);clear hr3 hb3))
    go_roundw
    case rel=>exact ⟨i,f,_,hin,by go_num,Lib.hid ⟨HR3.out,HN.out.1,HN.out.2.1,HN.out.2.2,HB3.out⟩⟩
    case measure=>have:=HIK.out;simp [intOf];omega
   ·rw [if_pos (.inr hlt)] at hup
    rw [decide_eq_false hlt] at HLS
    have HE:Hid (∀ q,RmI ks rb V L nx uv T (wr.drewN q)∧Below rb w (wr.drewN q)):=Lib.hid fun q=>⟨by rw [← hup];exact hR.dn q,below_drewN hB q⟩
    clear hR hln hup hkf hB HI hi hp hlt
    go_wp2_with (first
     | (go_at_call 135;refine HLS.out.mono ?_;rintro e w2 ⟨rfl,q2,rfl⟩))
    first | go_end0 | go_ret
    exact ⟨rfl,(HE.out q2).1,(HE.out q2).2⟩
end
section
variable {ks:Nat→Option Obj} {rb:Nat} {V:Nat→Value} {L:Nat→List Int} {nx:Int} {uv:Value} {us:List U3} {w:World}
theorem down_any (h:RmI ks rb V L nx uv us w) {n:Nat} (hn:n≤us.length) (hl:us.length≤5000) :
  Calls Tryz.prog 78 #[.iface 101 (.pointer (some ⟨rb,5,none⟩)),.int .i64 0,.int .i64 n] w fun e w'=>(∃ b,e=.returned (.bool b))∧RmI ks rb V L nx uv (downU (n+1) us 0 n) w'∧Below rb w w':=by
 obtain ⟨T,hT⟩:∃ T,T=downU (n+1) us 0 n:=⟨_,rfl⟩
 obtain ⟨m,hm⟩:∃ m,m=us.length:=⟨_,rfl⟩
 rw [← hT]
 have H0:Hid (RmI ks rb V L nx uv us w∧us.length=m∧downU (n+1) us 0 n=T∧n-0<n+1∧Below rb w w):=Lib.hid ⟨h,hm.symm,hT.symm,by omega,Below.refl _ _⟩
 rw [← hm] at hn hl
 have hn5:n≤5000:=by omega
 have HNM:=Lib.hid hn
 have hm1:=less_m rb
 have hm2:=less_n rb
 have hm3:=swap_m rb
 have hm4:=swap_n rb
 clear h hT hm hn
 go_enter Tryz.func78,Tryz.ntmps78
 go_wp2
 go_loopw [7] (fun s wr=>∃ (k f:Nat) (us:List U3),k≤n∧s=.int .i64 k∧Hid (RmI ks rb V L nx uv us wr∧us.length=m∧downU f us k n=T∧n-k<f∧Below rb w wr)) (fun s _=>n-(intOf s).toNat)
 case atStart=>exact ⟨0,n+1,us,Nat.zero_le _,rfl,H0⟩
 case round =>
  clear H0
  obtain ⟨k,f,us,hk,rfl,HI⟩:=hrel
  obtain ⟨hR,hln,hdn,hkf,hB⟩:=HI.out
  obtain ⟨f,rfl⟩:∃ f',f=f'+1:=⟨f-1,by omega⟩
  unfold downU at hdn
  obtain ⟨j1,hj1⟩:∃ j,j=2*k+1:=⟨_,rfl⟩
  have hji:(2:Int)*k+1=j1:=by omega
  have hj5:j1≤10001:=by omega
  by_cases hj1n:n≤j1
  ·rw [if_pos (by omega)] at hdn
   have HE:Hid (RmI ks rb V L nx uv T wr∧Below rb w wr):=Lib.hid ⟨by rw [← hdn];exact hR,hB⟩
   have g1:decide ((j1:Int)≥n)=true:=decide_eq_true (by omega)
   clear hR hln hdn hkf hB HI hj1
   go_wp2
   first | go_end0 | go_ret
   exact ⟨⟨_,rfl⟩,HE.out.1,HE.out.2⟩
  ·rw [if_neg (by omega)] at hdn
   obtain ⟨j,hj⟩:∃ j,j=chD us k n:=⟨_,rfl⟩
   rw [← hj] at hdn
   obtain ⟨j2,hj2⟩:∃ j,j=j1+1:=⟨_,rfl⟩
   have hj2i:(j1:Int)+1=j2:=by omega
   have hj25:j2≤10002:=by omega
   have hjn:j<n∧k<j∧(j=j1∨j=j2):=by
    rw [hj]
    unfold chD
    split
    ·omega
    ·omega
   have HCH:Hid (j=if j2<n∧(us.getD j2 u0).t<(us.getD j1 u0).t then j2 else j1):=Lib.hid (by
    rw [hj]
    unfold chD
    rw [show 2*k+2=j2 by omega,← hj1])
   have HJN:=Lib.hid hjn
   have HR:=Lib.hid hR
   have HB:=Lib.hid hB
   have hnm:=HNM.out
   have HLS:Hid (∀ (a b q:Nat),a<m→b<m→Calls Tryz.prog 135 #[.pointer (some ⟨rb,5,none⟩),.int .i64 a,.int .i64 b] (wr.drewN q) fun e w'=>e=.returned (.bool (decide ((us.getD a u0).t<(us.getD b u0).t)))∧∃ q',w'=wr.drewN q'):=Lib.hid fun a b q ha hb=>by
    refine (less_any (hR.dn q) (i:=a) (j:=b) (by omega) (by omega) (by omega)).mono ?_
    rintro e w' ⟨he,q',rfl⟩
    exact ⟨he,q+q',World.drewN_drewN ..⟩
   have HDN:=Lib.hid hdn
   have HLN:=Lib.hid hln
   have HKF:=Lib.hid hkf
   have hjj:j1<m:=by omega
   have HJJ:Hid (j<m∧k<m):=Lib.hid (by omega)
   clear hR hln hdn hkf hB HI hj1 hj hj2 hjn
   go_upto_region 6 with fail
   go_cut [33] (fun t wx=>t=.bool (decide (j2<n∧(us.getD j2 u0).t<(us.getD j1 u0).t))∧∃ q,wx=wr.drewN q)
   case first =>
    by_cases c1:j2<n
    ·have HC:=Lib.hid (HLS.out j2 j1 0 (by omega) hjj)
     rw [show wr.drewN 0=wr from rfl] at HC
     go_wp2_with (go_at_call 135;refine HC.out.mono ?_;rintro e w2 ⟨rfl,q2,rfl⟩)
     go_meet
     exact ⟨by simp [c1],q2,rfl⟩
    ·go_wp2
     go_meet
     exact ⟨by rw [decide_eq_false (show ¬ (j2<n∧(us.getD j2 u0).t<(us.getD j1 u0).t) from fun hh=>c1 hh.1)],0,rfl⟩
   case rest =>
    obtain ⟨rfl,q,rfl⟩:=hcut
    obtain ⟨y,hy⟩:∃ y,y=decide (j2<n∧(us.getD j2 u0).t<(us.getD j1 u0).t):=⟨_,rfl⟩
    rw [← hy]
    have HY:=Lib.hid hy
    clear hy
    obtain ⟨W2,hW2⟩:∃ W,W=wr.drewN q:=⟨_,rfl⟩
    rw [← hW2]
    have HW2:=Lib.hid hW2
    clear hW2
    go_upto_if 33 with fail
    go_cut [9] (fun t wx=>t=.int .i64 j∧wx=W2)
    case first =>
     have hch:=HCH.out
     cases y with
     | true =>
      rw [if_pos (of_decide_eq_true HY.out.symm)] at hch
      have HC:=Lib.hid hch
      clear hch
      go_wp2
      go_meet
      exact ⟨by rw [HC.out],rfl⟩
     | false =>
      rw [if_neg (of_decide_eq_false HY.out.symm)] at hch
      have HC:=Lib.hid hch
      clear hch
      go_wp2
      go_meet
      exact ⟨by rw [HC.out],rfl⟩
    case rest =>
     obtain ⟨rfl,rfl⟩:=hcut
     have HC:=Lib.hid (HLS.out j k q HJJ.out.1 HJJ.out.2)
     rw [← HW2.out] at HC
     have hdn:=HDN.out
     have hkm:k<m:=HJJ.out.2
     by_cases hlt:(us.getD j u0).t<(us.getD k u0).t
     ·rw [if_neg (fun hh=>hh hlt)] at hdn
      rw [decide_eq_true hlt] at HC
      have HSW:Hid (∀ q,Calls Tryz.prog 138 #[.pointer (some ⟨rb,5,none⟩),.int .i64 k,.int .i64 j] (wr.drewN q) fun e w'=>e=.returned (.tuple #[])∧RmI ks rb V L nx uv (swU us k j) w'∧Below rb (wr.drewN q) w'):=Lib.hid fun q=>swapU_any (HR.out.dn q) (by rw [HLN.out];exact hkm) (by rw [HLN.out];exact HJJ.out.1) (by have:=HJN.out;omega) (by rw [HLN.out];exact hl)
      have HN:Hid ((swU us k j).length=m∧downU f (swU us k j) j n=T∧n-j<f):=Lib.hid ⟨by rw [swU_len];exact HLN.out,hdn,by have:=HJN.out;have:=HKF.out;omega⟩
      clear hdn hlt
      go_wp2_with (first
       | (go_at_call 135;refine HC.out.mono ?_;rintro e w2 ⟨rfl,q2,rfl⟩)
       | (go_at_call 138;refine (HSW.out q2).mono ?_;rintro e w3 ⟨rfl,hr3,hb3⟩;have HR3:=Lib.hid hr3;have HB3:Hid (Below rb w w3):=Lib.hid ((below_drewN HB.out q2).trans hb3);clear hr3 hb3))
      go_roundw
      case rel=>exact ⟨j,f,_,by have:=HJN.out;omega,by go_num,Lib.hid ⟨HR3.out,HN.out.1,HN.out.2.1,HN.out.2.2,HB3.out⟩⟩
      case measure=>have:=HJN.out;simp [intOf];omega
     ·rw [if_pos hlt] at hdn
      rw [decide_eq_false hlt] at HC
      have HE:Hid (∀ q,RmI ks rb V L nx uv T (wr.drewN q)∧Below rb w (wr.drewN q)):=Lib.hid fun q=>⟨by rw [← hdn];exact HR.out.dn q,below_drewN HB.out q⟩
      clear hdn hlt
      go_wp2_with (first
       | (go_at_call 135;refine HC.out.mono ?_;rintro e w2 ⟨rfl,q2,rfl⟩))
      first | go_end0 | go_ret
      exact ⟨⟨_,rfl⟩,(HE.out q2).1,(HE.out q2).2⟩
end
theorem own_cutU {W:World} {base size n k c:Nat} {e:TypeId} {A:Option Addr} {xs:List Value} (h:W.ownsRow base e size (.slice A n c) n xs) (hk:k≤n) (h0:0<n):W.ownsRow base e size (.slice A k c) k (xs.take (k*size)):=by
 have hks:k*size≤n*size:=Nat.mul_le_mul_right _ hk
 rcases h.2 with ⟨h2,h3⟩ | ⟨g,cap,cur,he,hg,hb,hn,hm,hc,ht⟩
 ·simp at h2
  omega
 ·simp at he
  obtain ⟨rfl,rfl⟩:=he
  refine ⟨by rw [List.length_take,h.1];omega,.inr ⟨g,c,cur,rfl,hg,hb,by omega,hm,hc,?_⟩⟩
  rw [← ht,List.take_take,show min (k*size) (n*size)=k*size by omega]
section
variable {ks:Nat→Option Obj} {rb:Nat} {V:Nat→Value} {L:Nat→List Int} {nx:Int} {uv:Value} {us:List U3} {w:World}
theorem RmI.cutU {g cap:Nat} (h:RmI ks rb V L nx (.slice (some ⟨g,0,none⟩) us.length cap) us w) {k:Nat} (hk:k≤us.length) (h0:0<us.length):RmI ks rb V L nx (.slice (some ⟨g,0,none⟩) k cap) (us.take k) (w.setCell ⟨rb,5,none⟩ (.slice (some ⟨g,0,none⟩) k cap)):=by
 have h1:=own_cutU h.uses hk h0
 rw [usc_take] at h1
 have hl:(us.take k).length=k:=by rw [List.length_take];omega
 refine ⟨h.box.set_ 5 _,fun l hl=>own_far (h.own l hl) h.box (by decide) _ _,h.sep,?_,(h.keep.swapU (v':=.slice (some ⟨g,0,none⟩) k cap) fun y o hk=>(h.keep y o hk).2.2.2).set (p:=⟨rb,5,none⟩) (.inl rfl) _⟩
 rw [hl]
 exact own_far h1 h.box (by decide) _ _
theorem takeU_any (h:RmI ks rb V L nx uv us w) {k:Nat} (hk:us.length=k+1) (hl:us.length≤5000) :
  Calls Tryz.prog 139 #[.pointer (some ⟨rb,5,none⟩)] w fun e w'=>e=.returned (.agg #[.int .i64 (us.getD k u0).b,.int .i64 (us.getD k u0).t,.pointer (some ⟨rb,(us.getD k u0).l,none⟩)])∧(∃ uv',RmI ks rb V L nx uv' (us.take k) w')∧Below rb w w':=by
 obtain ⟨g,cap,rfl,hg,hgw⟩:=h.urow (by omega)
 have x5:w.cell? ⟨rb,5,none⟩=some (.slice (some ⟨g,0,none⟩) us.length cap):=h.box.cell 5
 obtain ⟨y0,y1,y2,f0,f1,f2⟩:=h.ucell (show k<us.length by omega)
 have hrw:rb<w.heap.size:=h.box.lt
 have f5:w.frozen? ⟨rb,5,none⟩=false:=h.box.frozen 5
 have HR:=Lib.hid (h.cutU (show k≤us.length by omega) (by omega))
 have hcap:us.length≤cap:=own_cap h.uses
 obtain ⟨n,hn⟩:∃ n,n=us.length:=⟨_,rfl⟩
 obtain ⟨X,hX⟩:∃ p,p=us.getD k u0:=⟨_,rfl⟩
 rw [← hX] at y0 y1 y2 ⊢
 rw [← hn] at x5 hl hk hcap
 have hnk:(n:Int)-1=k:=by omega
 have hkc:k≤cap:=by omega
 have hkn:k<n:=by omega
 have hgr:¬ g=rb:=by omega
 have HLE:Hid (rb≤w.heap.size):=Lib.hid (by omega)
 clear h hn hX hk
 go_enter Tryz.func139,Tryz.ntmps139
 go_wp2
 obtain ⟨W1,hW1⟩:∃ W1,W1=w.setCell ⟨rb,5,none⟩ (.slice (some ⟨g,0,none⟩) k cap):=⟨_,rfl⟩
 rw [← hW1] at HR ⊢
 have hz:W1.heap.size=w.heap.size:=by rw [hW1];simp [World.setCell]
 have hb:=(Blk.new W1 99 #[.int .i64 X.b,.int .i64 X.t,.pointer (some ⟨rb,X.l,none⟩)]).alloc (.cells #[.int .i64 X.b,.int .i64 X.t,.pointer (some ⟨rb,X.l,none⟩)] 99)
 rw [hz] at hb
 have c0:=hb.cell 0
 have c1:=hb.cell 1
 have c2:=hb.cell 2
 have hbl:Below W1.heap.size W1 ((W1.alloc (.cells #[.int .i64 X.b,.int .i64 X.t,.pointer (some ⟨rb,X.l,none⟩)] 99)).alloc (.cells #[.int .i64 X.b,.int .i64 X.t,.pointer (some ⟨rb,X.l,none⟩)] 99)):=((Below.refl _ _).alloc (Nat.le_refl _) _).alloc (by simp) _
 have hbw:Below rb w W1:=by rw [hW1];exact (Below.refl _ _).setCell (p:=⟨rb,5,none⟩) (Nat.le_refl _) _
 refine bodyPost_ret (v:=.agg #[.int .i64 X.b,.int .i64 X.t,.pointer (some ⟨rb,X.l,none⟩)]) (by simp [results,Tryz.results139,go_sem,c0,c1,c2]) rfl ?_
 exact ⟨rfl,⟨_,HR.out.on hbl⟩,hbw.trans (hbl.mono (by rw [hz];exact HLE.out))⟩
end
theorem info_u3:(Tryz.prog.info? 99).map (fun i=>(i.zero,i.size,i.bytes))=some (some (.agg #[.int .i64 0,.int .i64 0,.pointer none]),3,24):=by kernel_rfl
theorem step_use {w:World} {ops:Array Oper} {o:Oper} {a:Act} {K:Act→World→Prop} {Q:Exit→Act→World→Prop} {E:Prop} (hgd:o.guard=none) (s x:Operand)
  (ho:o.op=.call { callee:=.builtin .append,args:=#[s,x],argTypes:=#[91,91] }) (base:Nat)
  (v:Value) (n:Nat) (xs:List Value) (hs:a.eval s=v) (hown:w.ownsRow base 99 3 v n xs)
  (B:Nat) (A:Option Addr) (m c:Nat) (news:List Value) (hx:a.eval x=.slice A m c) (hr:Reads w B 3 A m news) (h1:∀ u ∈ news,u.oneCell'=true)
  (hbytes:(n+m)*24≤140737488355328) (hbase:base≤w.heap.size)
  (h:∀ v' w',w'.ownsRow base 99 3 v' (n+m) (xs ++ news)→w.grownBy w' v.ownBlock→(v'.ownBlock=v.ownBlock∨v'.ownBlock=some w.heap.size)→K (a.put o.dst v') w') :
  if Region.wanted o (yielded ops a.tmps)=true then Oper.wp Tryz.prog o a w K Q else E:=by
 obtain ⟨i0,hi,hz0,hz1,hz2⟩:=info_parts info_u3
 exact step_append_any w hgd s x _ ho base 99 i0 (.agg #[.int .i64 0,.int .i64 0,.pointer none]) 3 24 Tryz.underlying91 hi hz0 hz1 hz2 rfl (by decide) v n xs hs hown B A m c news hx hr h1 (by unfold maxLen;omega) hbytes hbase h
theorem assertU (v:Value) (W:World):(Instr.typeAssert (.iface 99 v) 20 99 false).run Tryz.prog W=.ok v W:=by kernel_rfl
section
variable {ks:Nat→Option Obj} {rb:Nat} {V:Nat→Value} {L:Nat→List Int} {nx:Int} {uv:Value} {us:List U3} {w w':World}
theorem RmI.pushU {o:Obj} {v':Value} {u:U3} (h:RmI ks rb V L nx uv us w) (hown:w'.ownsRow (rb+1) 99 3 v' (us.length+1) (usc rb us ++ [.int .i64 u.b,.int .i64 u.t,.pointer (some ⟨rb,u.l,none⟩)])) (hg:(w.alloc o).grownBy w' uv.ownBlock) (hor:v'.ownBlock=uv.ownBlock∨v'.ownBlock=some (w.alloc o).heap.size) :
  w'.frozen? ⟨rb,5,none⟩=false∧(∃ y,w'.cell? ⟨rb,5,none⟩=some y)∧Hid (RmI ks rb V L nx v' (us ++ [u]) (w'.setCell ⟨rb,5,none⟩ v'))∧Hid (Below rb w (w'.setCell ⟨rb,5,none⟩ v')):=by
 have ho:=own_alloc h.uses o
 have hbx:=blk_grown (h.box.alloc o) ho hg (by decide)
 have hrw:=h.box.lt
 have hbl:Below rb w w':=((Below.refl _ _).alloc (by omega) o).grown hg (by simp;omega) fun g he=>by have:=(own_block_le ho he).1;omega
 rw [← usc_push] at hown
 refine ⟨hbx.frozen 5,⟨_,hbx.cell 5⟩,Lib.hid ⟨hbx.set_ 5 v',fun l hl=>?_,h.sep,?_,((h.keep.grown hg (.inl rfl)).swapU (h.keep.fresh hor fun g o hk=>(h.keep g o hk).2.2.2)).set (p:=⟨rb,5,none⟩) (.inl rfl) _⟩,Lib.hid (hbl.setCell (p:=⟨rb,5,none⟩) (Nat.le_refl _) _)⟩
 ·exact own_far (own_grown ho (own_alloc (h.own l hl) o) hg (by decide)) hbx (by decide) _ _
 ·rw [List.length_append]
  exact own_far hown hbx (by decide) _ _
theorem epop_any (h:RmI ks rb V L nx uv us w) {k:Nat} (hk:us.length=k+1) (hl:us.length≤5000) :
  Calls Tryz.prog 136 #[.pointer (some ⟨rb,5,none⟩)] w fun e w'=>e=.returned (.iface 99 (.agg #[.int .i64 (us.getD k u0).b,.int .i64 (us.getD k u0).t,.pointer (some ⟨rb,(us.getD k u0).l,none⟩)]))∧(∃ uv',RmI ks rb V L nx uv' (us.take k) w')∧Below rb w w':=by
 have HC:=Lib.hid (takeU_any h hk hl)
 clear h hk hl
 go_enter Tryz.func136,Tryz.ntmps136
 go_wp2_with (go_at_call 139;refine HC.out.mono ?_;rintro e w2 ⟨rfl,hr,hb⟩;have HR:=Lib.hid hr;have HB:=Lib.hid hb;clear hr hb)
 first | go_end0 | go_ret
 exact ⟨rfl,HR.out,HB.out⟩
theorem epush_any (h:RmI ks rb V L nx uv us w) (u:U3) (hl:us.length≤5000) :
  Calls Tryz.prog 137 #[.pointer (some ⟨rb,5,none⟩),.iface 99 (.agg #[.int .i64 u.b,.int .i64 u.t,.pointer (some ⟨rb,u.l,none⟩)])] w fun e w'=>e=.returned (.tuple #[])∧(∃ uv',RmI ks rb V L nx uv' (us ++ [u]) w')∧Below rb w w':=by
 obtain ⟨A,c,rfl⟩:=own_slice h.uses
 have x5:w.cell? ⟨rb,5,none⟩=some (.slice A us.length c):=h.box.cell 5
 have x5a:∀ o,(w.alloc o).cell? ⟨rb,5,none⟩=some (.slice A us.length c):=fun o=>(h.box.alloc o).cell 5
 have hrw:rb<w.heap.size:=h.box.lt
 obtain ⟨n,hn⟩:∃ n,n=us.length:=⟨_,rfl⟩
 have HN:=Lib.hid hn
 have H:=Lib.hid h
 rw [← hn] at x5 x5a hl
 have HOA:Hid (∀ o,(w.alloc o).ownsRow (rb+1) 99 3 (.slice A n c) n (usc rb us)):=Lib.hid fun o=>by rw [hn];exact own_alloc h.uses o
 have HPU:Hid (∀ (o:Obj) (v':Value) (w':World),w'.ownsRow (rb+1) 99 3 v' (n+1) (usc rb us ++ [.int .i64 u.b,.int .i64 u.t,.pointer (some ⟨rb,u.l,none⟩)])→(w.alloc o).grownBy w' (Value.slice A n c).ownBlock→(v'.ownBlock=(Value.slice A n c).ownBlock∨v'.ownBlock=some (w.alloc o).heap.size)→w'.frozen? ⟨rb,5,none⟩=false∧(∃ y,w'.cell? ⟨rb,5,none⟩=some y)∧Hid (RmI ks rb V L nx v' (us ++ [u]) (w'.setCell ⟨rb,5,none⟩ v'))∧Hid (Below rb w (w'.setCell ⟨rb,5,none⟩ v'))):=Lib.hid fun o v' w' h1 h2 h3=>by
  rw [hn] at h1 h2 h3
  exact h.pushU h1 h2 h3
 have has:=assertU (.agg #[.int .i64 u.b,.int .i64 u.t,.pointer (some ⟨rb,u.l,none⟩)])
 clear h hn
 go_enter Tryz.func137,Tryz.ntmps137
 go_wp2
 go_region_law (first
  | (refine step_use rfl _ _ rfl (rb+1) (.slice A n c) n (usc rb us) rfl (HOA.out _) (w.heap.size+1) (some ⟨w.heap.size,0,none⟩) 1 1 [.int .i64 u.b,.int .i64 u.t,.pointer (some ⟨rb,u.l,none⟩)] rfl (one_reads w 99 [.int .i64 u.b,.int .i64 u.t,.pointer (some ⟨rb,u.l,none⟩)] 3 rfl) (by simp [Value.oneCell']) (by omega) (by simp;omega) ?_;intro v8 w8 hown hgr hor;obtain ⟨A8,c8,rfl⟩:=own_slice hown;obtain ⟨e8,⟨y8,hy8⟩,HR8,HB8⟩:=HPU.out _ _ _ hown (grown_of_drew hgr) hor;clear hown hgr hor))
 all_goals
  go_wp2
  first | go_end0 | go_ret
  exact ⟨rfl,⟨_,HR8.out⟩,HB8.out⟩
theorem hpush_any (h:RmI ks rb V L nx uv us w) (u:U3) (hl:us.length≤4000) :
  Calls Tryz.prog 57 #[.iface 101 (.pointer (some ⟨rb,5,none⟩)),.iface 99 (.agg #[.int .i64 u.b,.int .i64 u.t,.pointer (some ⟨rb,u.l,none⟩)])] w fun e w'=>e=.returned (.tuple #[])∧(∃ uv',RmI ks rb V L nx uv' (upU (us.length+1) (us ++ [u]) us.length) w')∧Below rb w w':=by
 have HC:=Lib.hid (epush_any h u (by omega))
 have hm1:=push_m rb
 have hm2:=push_n rb
 have hm3:=len_m rb
 have hm4:=len_n rb
 obtain ⟨n,hn⟩:∃ n,n=us.length:=⟨_,rfl⟩
 have hn1:(us ++ [u]).length=n+1:=by simp [hn]
 have HN1:=Lib.hid hn1
 rw [← hn] at hl ⊢
 have hni:((n:Int)+1)-1=n:=by omega
 clear h hn hn1
 go_enter Tryz.func57,Tryz.ntmps57
 go_wp2_with (first
  | (go_at_call 137;refine HC.out.mono ?_;rintro e w2 ⟨rfl,⟨uv2,hr⟩,hb⟩;have HL2:=Lib.hid (len_any hr (by rw [HN1.out];omega));rw [HN1.out] at HL2;have HR2:=Lib.hid hr;have HB2:=Lib.hid hb;clear hr hb)
  | (go_at_call 53;refine HL2.out.mono ?_;rintro e w3 ⟨rfl,rfl⟩;have HU:=Lib.hid (up_any HR2.out (j:=n) (by rw [HN1.out];omega) (by rw [HN1.out];omega)))
  | (go_at_call 79;refine HU.out.mono ?_;rintro e w4 ⟨rfl,hr,hb⟩;have HR4:=Lib.hid hr;have HB4:=Lib.hid (HB2.out.trans hb);clear hr hb))
 first | go_end0 | go_ret
 exact ⟨rfl,⟨_,HR4.out⟩,HB4.out⟩
theorem swapU_self (h:RmI ks rb V L nx uv us w) {i:Nat} (hi:i<us.length) (hl:us.length≤5000) :
  Calls Tryz.prog 138 #[.pointer (some ⟨rb,5,none⟩),.int .i64 i,.int .i64 i] w fun e w'=>e=.returned (.tuple #[])∧RmI ks rb V L nx uv (swU us i i) w'∧Below rb w w':=by
 obtain ⟨g,cap,rfl,hg,hgw⟩:=h.urow (by omega)
 have x5:w.cell? ⟨rb,5,none⟩=some (.slice (some ⟨g,0,none⟩) us.length cap):=h.box.cell 5
 obtain ⟨y0,y1,y2,f0,f1,f2⟩:=h.ucell hi
 have h1:=h.setU (u:=us.getD i u0) hi
 have hln:us.length=(us.set i (us.getD i u0)).length:=by rw [List.length_set]
 have h2:=h1
 rw [hln] at h2
 have h3:=h2.setU (u:=us.getD i u0) (show i<(us.set i (us.getD i u0)).length by rw [List.length_set];exact hi)
 rw [← hln] at h3
 have hsame:(us.set i (us.getD i u0)).set i (us.getD i u0)=us.set i (us.getD i u0):=by rw [List.set_set]
 rw [hsame] at h3
 have HR:=Lib.hid h3.drewN1
 have HB:Hid (Below rb w (setU (setU w rb g i (us.getD i u0)) rb g i (us.getD i u0)).drew):=Lib.hid ((below_setU (below_setU (Below.refl _ _) (by omega)) (by omega)).drew)
 obtain ⟨n,hn⟩:∃ n,n=us.length:=⟨_,rfl⟩
 obtain ⟨X,hX⟩:∃ p,p=us.getD i u0:=⟨_,rfl⟩
 have HSW:Hid (swU us i i=us.set i X):=Lib.hid (by rw [hX];unfold swU;rw [List.set_set])
 rw [← hX] at y0 y1 y2 HR HB
 rw [← hn] at x5 hl hi HR
 have HN:=Lib.hid hn
 have hrg:¬ rb=g:=by omega
 have hgr:¬ g=rb:=by omega
 unfold setU at HR HB
 clear h h1 h2 h3 hln hn hX hsame
 go_enter Tryz.func138,Tryz.ntmps138
 go_wp2
 go_region
 go_wp2
 first | go_end0 | go_ret
 exact ⟨rfl,by rw [HSW.out,← HN.out];exact HR.out,HB.out⟩
def popU (us:List U3):List U3:=downU us.length (swU us 0 (us.length-1)) 0 (us.length-1)
theorem hpop_any (h:RmI ks rb V L nx uv us w) {k:Nat} (hk:us.length=k+1) (hl:us.length≤5000) :
  Calls Tryz.prog 54 #[.iface 101 (.pointer (some ⟨rb,5,none⟩))] w fun e w'=>e=.returned (.iface 99 (.agg #[.int .i64 ((popU us).getD k u0).b,.int .i64 ((popU us).getD k u0).t,.pointer (some ⟨rb,((popU us).getD k u0).l,none⟩)]))∧(∃ uv',RmI ks rb V L nx uv' ((popU us).take k) w')∧Below rb w w':=by
 have hm1:=pop_m rb
 have hm2:=pop_n rb
 have hm3:=len_m rb
 have hm4:=len_n rb
 have hm5:=swap_m rb
 have hm6:=swap_n rb
 have hu0:0<us.length:=by omega
 have hsw:Calls Tryz.prog 138 #[.pointer (some ⟨rb,5,none⟩),.int .i64 0,.int .i64 k] w fun e w'=>e=.returned (.tuple #[])∧RmI ks rb V L nx uv (swU us 0 k) w'∧Below rb w w':=by
  by_cases h0:k=0
  ·subst h0
   exact swapU_self h hu0 hl
  ·exact swapU_any h (i:=0) (j:=k) hu0 (by omega) (by omega) hl
 have HPU:Hid (popU us=downU (k+1) (swU us 0 k) 0 k):=Lib.hid (by unfold popU;rw [hk];rfl)
 have HL:=Lib.hid (len_any h hl)
 have HSW:=Lib.hid hsw
 have HLN:Hid ((swU us 0 k).length=k+1):=Lib.hid (by rw [swU_len];exact hk)
 rw [hk] at HL hl
 have hki:((k:Int)+1)-1=k:=by omega
 clear h hsw hk hu0
 go_enter Tryz.func54,Tryz.ntmps54
 go_wp2_with (first
  | (go_at_call 53;refine HL.out.mono ?_;rintro e w1 ⟨rfl,rfl⟩)
  | (go_at_call 138;refine HSW.out.mono ?_;rintro e w2 ⟨rfl,hr,hb⟩;have HR2:=Lib.hid hr;have HB2:=Lib.hid hb;have HDN:=Lib.hid (down_any HR2.out (n:=k) (by rw [HLN.out];omega) (by rw [HLN.out];exact hl));rw [← HPU.out] at HDN;clear hr hb)
  | (go_at_call 78;refine HDN.out.mono ?_;rintro e w3 ⟨⟨b3,rfl⟩,hr,hb⟩;have HR3:=Lib.hid hr;have HB3:=Lib.hid (HB2.out.trans hb);have HEP:=Lib.hid (epop_any HR3.out (k:=k) (by rw [HPU.out,downU_len];exact HLN.out) (by rw [HPU.out,downU_len,HLN.out];exact hl));clear hr hb)
  | (go_at_call 136;refine HEP.out.mono ?_;rintro e w4 ⟨rfl,hr,hb⟩;have HR4:=Lib.hid hr;have HB4:=Lib.hid (HB3.out.trans hb);clear hr hb))
 first | go_end0 | go_ret
 exact ⟨rfl,HR4.out,HB4.out⟩
end
section
variable {ks:Nat→Option Obj} {rb:Nat} {V:Nat→Value} {L:Nat→List Int} {nx:Int} {uv:Value} {us:List U3} {w w':World}
theorem box_set (V:Nat→Value) (a b v:Value) {l:Nat} (hl:l<4):(#[V 0,V 1,V 2,V 3,a,b]:Array Value).setIfInBounds l v=#[upd V l v 0,upd V l v 1,upd V l v 2,upd V l v 3,a,b]:=by
 rcases (by omega:l=0∨l=1∨l=2∨l=3) with rfl | rfl | rfl | rfl <;> rfl
theorem RmI.lcell (h:RmI ks rb V L nx uv us w) {l:Nat} (hl:l<4):w.cell? ⟨rb,l,none⟩=some (V l)∧w.frozen? ⟨rb,l,none⟩=false:=by
 refine ⟨?_,h.box.frozen _⟩
 rw [h.box.cell]
 rcases (by omega:l=0∨l=1∨l=2∨l=3) with rfl | rfl | rfl | rfl <;> rfl
theorem RmI.setL (h:RmI ks rb V L nx uv us w) {l:Nat} (hl:l<4) {v:Value} {xs:List Int} (hown:w.ownsRow (rb+1) 3 1 v xs.length (i64c xs)) (hsep:∀ k,k<4→k≠l→∀ g,v.ownBlock=some g→(V k).ownBlock≠some g) (hks:∀ g o,ks g=some o→v.ownBlock≠some g) :
  RmI ks rb (upd V l v) (upd L l xs) nx uv us (w.setCell ⟨rb,l,none⟩ v):=by
 have hb:=h.box.set_ l v
 rw [box_set V _ _ v hl] at hb
 refine ⟨hb,fun k hk=>?_,fun j k hj hk hjk g hg=>?_,own_far h.uses h.box (by decide) _ _,(h.keep.swapV hks).set (p:=⟨rb,l,none⟩) (.inl rfl) _⟩
 ·by_cases e:k=l
  ·subst e
   rw [upd_at,upd_at]
   exact own_far hown h.box (by decide) _ _
  ·rw [upd_ne e,upd_ne e]
   exact own_far (h.own k hk) h.box (by decide) _ _
 ·by_cases e:j=l
  ·subst e
   rw [upd_at] at hg
   rw [upd_ne (fun e=>hjk e.symm)]
   exact hsep k hk (fun e=>hjk e.symm) g hg
  ·rw [upd_ne e] at hg
   by_cases e2:k=l
   ·subst e2
    rw [upd_at]
    intro hv
    exact hsep j hj e g hv hg
   ·rw [upd_ne e2]
    exact h.sep j k hj hk hjk g hg
theorem RmI.cutL (h:RmI ks rb V L nx uv us w) {l k:Nat} (hl:l<4) (hk:k≤(L l).length) (h0:0<(L l).length) :
  ∃ g c,V l=.slice (some ⟨g,0,none⟩) (L l).length c∧(L l).length≤c∧RmI ks rb (upd V l (.slice (some ⟨g,0,none⟩) k c)) (upd L l ((L l).take k)) nx uv us (w.setCell ⟨rb,l,none⟩ (.slice (some ⟨g,0,none⟩) k c)):=by
 have ho:=h.own l hl
 obtain ⟨g,c,hv,hg,hlt⟩:=ho.form h0
 rw [hv] at ho
 have h1:=own_cutU ho hk h0
 have hlen:((L l).take k).length=k:=by rw [List.length_take];omega
 have h2:(i64c (L l)).take (k*1)=i64c ((L l).take k):=by unfold i64c;rw [Nat.mul_one,List.map_take]
 rw [h2] at h1
 refine ⟨g,c,hv,own_cap ho,h.setL hl (by rw [hlen];exact h1) (fun j hj hjl x hx=>?_) fun y o hk=>by have:=(h.keep y o hk).2.2.1 l hl;rw [hv] at this;exact this⟩
 exact h.sep l j hl hj (fun e=>hjl e.symm) x (by rw [hv];exact hx)
theorem RmI.pushL (h:RmI ks rb V L nx uv us w) {l:Nat} (hl:l<4) {x:Int} {o:Obj} {v':Value} (hown:w'.ownsRow (rb+1) 3 1 v' ((L l).length+1) (i64c (L l) ++ [.int .i64 x])) (hg:(w.alloc o).grownBy w' (V l).ownBlock) (hor:v'.ownBlock=(V l).ownBlock∨v'.ownBlock=some (w.alloc o).heap.size) :
  w'.frozen? ⟨rb,l,none⟩=false∧(∃ y,w'.cell? ⟨rb,l,none⟩=some y)∧Hid (RmI ks rb (upd V l v') (upd L l (L l ++ [x])) nx uv us (w'.setCell ⟨rb,l,none⟩ v'))∧Hid (Below rb w (w'.setCell ⟨rb,l,none⟩ v')):=by
 have ho:=own_alloc (h.own l hl) o
 have hbx:=blk_grown (h.box.alloc o) ho hg (by decide)
 have hrw:=h.box.lt
 have hbl:Below rb w w':=((Below.refl _ _).alloc (by omega) o).grown hg (by simp;omega) fun g he=>by have:=(own_block_le ho he).1;omega
 have hcell:w'.cell? ⟨rb,l,none⟩=some (V l):=by
  rw [hbx.cell]
  rcases (by omega:l=0∨l=1∨l=2∨l=3) with rfl | rfl | rfl | rfl <;> rfl
 have hsep:∀ k,k<4→k≠l→∀ g,v'.ownBlock=some g→(V k).ownBlock≠some g:=fun k hk hkl g hv hgk=>by
  rcases hor with e | e
  ·rw [e] at hv
   exact h.sep l k hl hk (fun e=>hkl e.symm) g hv hgk
  ·rw [e] at hv
   injection hv with hv
   have:=(own_block_le (h.own k hk) hgk).2
   simp at hv
   omega
 have hb:=hbx.set_ l v'
 rw [box_set V _ _ v' hl] at hb
 refine ⟨hbx.frozen l,⟨_,hcell⟩,Lib.hid ⟨hb,fun k hk=>?_,fun j k hj hk hjk g hg'=>?_,?_,((h.keep.grown hg (.inr ⟨l,hl,rfl⟩)).swapV (h.keep.fresh hor fun g o hk=>(h.keep g o hk).2.2.1 l hl)).set (p:=⟨rb,l,none⟩) (.inl rfl) _⟩,Lib.hid (hbl.setCell (p:=⟨rb,l,none⟩) (Nat.le_refl _) _)⟩
 ·by_cases e:k=l
  ·subst e
   rw [upd_at,upd_at,List.length_append,i64c_append]
   exact own_far hown hbx (by decide) _ _
  ·rw [upd_ne e,upd_ne e]
   have h1:w'.ownsRow (rb+1) 3 1 (V k) (L k).length (i64c (L k)):=own_kept (own_alloc (h.own k hk) o) fun g hgk=>hg.block g (own_block_le (own_alloc (h.own k hk) o) hgk).2 fun e2=>h.sep l k hl hk (fun e=>by omega) g e2.symm hgk
   exact own_far h1 hbx (by decide) _ _
 ·by_cases e:j=l
  ·subst e
   rw [upd_at] at hg'
   rw [upd_ne (fun e=>hjk e.symm)]
   exact hsep k hk (fun e=>hjk e.symm) g hg'
  ·rw [upd_ne e] at hg'
   by_cases e2:k=l
   ·subst e2
    rw [upd_at]
    intro hv
    exact hsep j hj e g hv hg'
   ·rw [upd_ne e2]
    exact h.sep j k hj hk hjk g hg'
 ·exact own_far (own_grown ho (own_alloc h.uses o) hg (by decide)) hbx (by decide) _ _
theorem takeI_any (h:RmI ks rb V L nx uv us w) {l k:Nat} (hl:l<4) (hk:(L l).length=k+1) (hb:(L l).length≤5000) :
  Calls Tryz.prog 56 #[.pointer (some ⟨rb,l,none⟩)] w fun e w'=>e=.returned (.int .i64 ((L l).getD k 0))∧(∃ V',RmI ks rb V' (upd L l ((L l).take k)) nx uv us w')∧Below rb w w':=by
 obtain ⟨g,c,hv,hlc,hR⟩:=h.cutL hl (show k≤(L l).length by omega) (by omega)
 obtain ⟨x0,f0⟩:=h.lcell hl
 rw [hv] at x0
 have ho:=h.own l hl
 rw [hv] at ho
 have y0:w.cell? ⟨g,k,none⟩=some (.int .i64 ((L l).getD k 0)):=by
  rw [ho.cellAt _ (by omega)]
  refine i64c_at ?_
  rw [List.getD_eq_getElem?_getD,List.getElem?_eq_getElem (by omega)]
  rfl
 have HR:=Lib.hid hR
 have HB:Hid (Below rb w (w.setCell ⟨rb,l,none⟩ (.slice (some ⟨g,0,none⟩) k c))):=Lib.hid ((Below.refl _ _).setCell (p:=⟨rb,l,none⟩) (Nat.le_refl _) _)
 obtain ⟨n,hn⟩:∃ n,n=(L l).length:=⟨_,rfl⟩
 obtain ⟨x,hx⟩:∃ x,x=(L l).getD k 0:=⟨_,rfl⟩
 rw [← hn] at x0 hb hlc hk
 rw [← hx] at y0 ⊢
 have hnk:(n:Int)-1=k:=by omega
 have hkn:k<n:=by omega
 have hkc:k≤c:=by omega
 clear h hv hR ho hn hx hk
 go_enter Tryz.func56,Tryz.ntmps56
 go_wp2
 first | go_end0 | go_ret
 exact ⟨rfl,⟨_,HR.out⟩,HB.out⟩
end
def UOk (us:List U3):Prop:=∀ i,(us.getD i u0).l<4
theorem getD_set_any (us:List U3) (i k:Nat) (u:U3):(us.set i u).getD k u0=u∨(us.set i u).getD k u0=us.getD k u0:=by
 by_cases h:i<us.length
 ·rw [getD_set h]
  split
  ·exact .inl rfl
  ·exact .inr rfl
 ·exact .inr (by rw [List.set_eq_of_length_le (by omega)])
theorem UOk.sw {us:List U3} (h:UOk us) (i j:Nat):UOk (swU us i j):=fun k=>by
 unfold swU
 rcases getD_set_any (us.set i (us.getD j u0)) j k (us.getD i u0) with e | e
 ·rw [e];exact h i
 ·rw [e]
  rcases getD_set_any us i k (us.getD j u0) with e | e
  ·rw [e];exact h j
  ·rw [e];exact h k
theorem UOk.up:∀ (f:Nat) (us:List U3) (j:Nat),UOk us→UOk (upU f us j)
 | 0,us,j,h=>h
 | f+1,us,j,h=>by
  unfold upU
  split
  ·exact h
  ·exact UOk.up f _ _ (h.sw _ _)
theorem UOk.down:∀ (f:Nat) (us:List U3) (i n:Nat),UOk us→UOk (downU f us i n)
 | 0,us,i,n,h=>h
 | f+1,us,i,n,h=>by
  unfold downU
  split
  ·exact h
  ·split
   ·exact h
   ·exact UOk.down f _ _ _ (h.sw _ _)
theorem UOk.pop {us:List U3} (h:UOk us):UOk (popU us):=UOk.down _ _ _ _ (h.sw _ _)
theorem UOk.take {us:List U3} (h:UOk us) (n:Nat):UOk (us.take n):=fun k=>by
 by_cases e:k<n
 ·rw [List.getD_eq_getElem?_getD,List.getElem?_take,if_pos e,← List.getD_eq_getElem?_getD];exact h k
 ·rw [List.getD_eq_getElem?_getD,List.getElem?_take,if_neg e];decide
theorem UOk.push {us:List U3} (h:UOk us) {u:U3} (hu:u.l<4):UOk (us ++ [u]):=fun k=>by
 rw [List.getD_eq_getElem?_getD]
 by_cases e:k<us.length
 ·rw [List.getElem?_append_left e,← List.getD_eq_getElem?_getD];exact h k
 ·rw [List.getElem?_append_right (by omega)]
  by_cases e2:k-us.length=0
  ·rw [e2];exact hu
  ·rw [List.getElem?_eq_none (by simp;omega)];decide
theorem popU_len (us:List U3):(popU us).length=us.length:=by unfold popU;rw [downU_len,swU_len]
def endB (p:Int):Nat→(Nat→List Int)→List U3→(Nat→List Int) × List U3
 | 0,L,us=>(L,us)
 | f+1,L,us=>if (us.getD 0 u0).t<p then endB p f (upd L ((popU us).getD f u0).l (L ((popU us).getD f u0).l ++ [((popU us).getD f u0).b])) ((popU us).take f) else (L,us)
section
variable {ks:Nat→Option Obj} {rb:Nat} {V:Nat→Value} {L:Nat→List Int} {nx:Int} {uv:Value} {us:List U3} {w:World}
theorem RmI.ebP (h:RmI ks rb V L nx uv us w) {ul:Nat} (hl:ul<4) (ub ut:Int) (o:Obj) {v':Value} {w':World}
  (hown:w'.ownsRow (rb+1) 3 1 v' ((L ul).length+1) (i64c (L ul) ++ [.int .i64 ub])) (hg:((w.alloc (.cells #[.int .i64 ub,.int .i64 ut,.pointer (some ⟨rb,ul,none⟩)] 99)).alloc o).grownBy w' (V ul).ownBlock)
  (hor:v'.ownBlock=(V ul).ownBlock∨v'.ownBlock=some ((w.alloc (.cells #[.int .i64 ub,.int .i64 ut,.pointer (some ⟨rb,ul,none⟩)] 99)).alloc o).heap.size) :
  w'.frozen? ⟨rb,ul,none⟩=false∧(∃ y,w'.cell? ⟨rb,ul,none⟩=some y)∧w'.cell? ⟨w.heap.size,2,none⟩=some (.pointer (some ⟨rb,ul,none⟩))∧Hid (RmI ks rb (upd V ul v') (upd L ul (L ul ++ [ub])) nx uv us (w'.setCell ⟨rb,ul,none⟩ v'))∧Hid (Below rb w (w'.setCell ⟨rb,ul,none⟩ v')):=by
 have hbl:=(Below.refl w.heap.size w).alloc (Nat.le_refl _) (.cells #[.int .i64 ub,.int .i64 ut,.pointer (some ⟨rb,ul,none⟩)] 99)
 obtain ⟨h1,h2,h3,h4⟩:=(h.on hbl).pushL hl hown hg hor
 refine ⟨h1,h2,?_,h3,Lib.hid (((Below.refl rb w).alloc (Nat.le_of_lt h.box.lt) _).trans h4.out)⟩
 have hb:=hg.block w.heap.size (by simp;omega) fun e=>by
  have:=(own_block_le (h.own ul hl) e.symm).2
  omega
 rw [World.cell?_of_block (a:=⟨w.heap.size,2,none⟩) hb]
 exact Lib.cell?_alloc_some o (by rw [World.cell?_alloc_new];rfl)
theorem ebC (w:World) (C:Array Value) (t:TypeId) (o:Obj) (j:Nat) (hj:j<C.size):((w.alloc (.cells C t)).alloc o).cell? ⟨w.heap.size,j,none⟩=some C[j]:=Lib.cell?_alloc_some o (by rw [World.cell?_alloc_new,Array.getElem?_eq_getElem hj])
theorem endB_any (p:Int) (N:Nat) (h:RmI ks rb V L nx uv us w) (hU:UOk us) (hN:∀ l,l<4→(L l).length+us.length≤N) (hN5:N≤4000) :
  Calls Tryz.prog 29 #[.pointer (some ⟨rb,0,none⟩),.int .i64 p] w fun e w'=>e=.returned (.tuple #[])∧(∃ V' uv',RmI ks rb V' (endB p us.length L us).1 nx uv' (endB p us.length L us).2 w')∧Below rb w w'∧UOk (endB p us.length L us).2∧(∀ l,l<4→((endB p us.length L us).1 l).length+(endB p us.length L us).2.length≤N):=by
 obtain ⟨T,hT⟩:∃ T,T=endB p us.length L us:=⟨_,rfl⟩
 rw [← hT]
 have H0:Hid (∃ V L uv us',us'.length=us.length∧RmI ks rb V L nx uv us' w∧UOk us'∧(∀ l,l<4→(L l).length+us'.length≤N)∧endB p us'.length L us'=T∧Below rb w w):=Lib.hid ⟨V,L,uv,us,rfl,h,hU,hN,hT.symm,Below.refl _ _⟩
 have hn5:us.length≤4000:=by have:=hN 0 (by omega);omega
 obtain ⟨n0,hn0⟩:∃ n,n=us.length:=⟨_,rfl⟩
 rw [← hn0] at H0 hn5
 clear h hU hN hT hn0
 go_enter Tryz.func29,Tryz.ntmps29
 go_wp2
 go_loopg [] n0 (fun n wr=>∃ j:Nat,Hid (j=n)∧Hid (j≤4000∧∃ V L uv us',us'.length=j∧RmI ks rb V L nx uv us' wr∧UOk us'∧(∀ l,l<4→(L l).length+us'.length≤N)∧endB p us'.length L us'=T∧Below rb w wr))
 case atStart=>exact ⟨n0,Lib.hid rfl,Lib.hid ⟨hn5,H0.out⟩⟩
 case round =>
  clear H0 hn5
  obtain ⟨j,HJ,HX⟩:=hrel
  obtain ⟨hj5,V,L,uv,us,hl,hR,hU,hN,hE,hB⟩:=HX.out
  have HLN:=Lib.hid (len_any hR (by omega))
  rw [hl] at HLN
  have HE0:Hid (∀ V uv,RmI ks rb V L nx uv us wr→endB p us.length L us=(L,us)→(∃ V' uv',RmI ks rb V' T.1 nx uv' T.2 wr)∧Below rb w wr∧UOk T.2∧∀ l,l<4→(T.1 l).length+T.2.length≤N):=Lib.hid fun V uv hr he=>by
   rw [he] at hE
   rw [← hE]
   exact ⟨⟨V,uv,hr⟩,hB,hU,hN⟩
  by_cases hj0:j=0
  ·subst hj0
   have HF:=Lib.hid (HE0.out _ _ hR (by rw [hl];rfl))
   clear HX hR hU hN hE hB hl
   go_wp2_with (go_at_call 53;refine HLN.out.mono ?_;rintro e w2 ⟨rfl,rfl⟩)
   first | go_end0 | go_ret
   exact ⟨rfl,HF.out.1,HF.out.2.1,HF.out.2.2.1,HF.out.2.2.2⟩
  ·obtain ⟨k,hk⟩:∃ k,j=k+1:=⟨j-1,by omega⟩
   obtain ⟨g,cap,huv,hg,hgw⟩:=hR.urow (by omega)
   have x5:wr.cell? ⟨rb,5,none⟩=some uv:=hR.box.cell 5
   rw [huv] at x5
   have hR':=hR
   rw [huv] at hR'
   obtain ⟨_,y1,_,_,_,_⟩:=hR'.ucell (show 0<us.length by omega)
   rw [Nat.zero_mul,Nat.zero_add] at y1
   rw [hl] at x5
   obtain ⟨t,ht⟩:∃ t,t=(us.getD 0 u0).t:=⟨_,rfl⟩
   rw [← ht] at y1
   have hjp:0<j:=by omega
   by_cases hlt:t<p
   ·have HPP:=Lib.hid (hpop_any hR (k:=k) (by omega) (by omega))
    obtain ⟨u,hu⟩:∃ u,u=(popU us).getD k u0:=⟨_,rfl⟩
    rw [← hu] at HPP
    have hul:u.l<4:=by rw [hu];exact hU.pop k
    have hpl:((popU us).take k).length=k:=by rw [List.length_take,popU_len];omega
    have hE2:endB p k (upd L u.l (L u.l ++ [u.b])) ((popU us).take k)=T:=by
     rw [← hE,hl,hk]
     conv=>rhs;unfold endB
     rw [if_pos (by rw [← ht];exact hlt),← hu]
    have hN2:∀ l,l<4→((upd L u.l (L u.l ++ [u.b])) l).length+k≤N:=fun l hl4=>by
     have h1:=hN l hl4
     by_cases e:l=u.l
     ·subst e;rw [upd_at,List.length_append];simp;omega
     ·rw [upd_ne e];omega
    have hLu:(L u.l).length≤4000:=by have:=hN u.l hul;omega
    have HE2:=Lib.hid hE2
    have HN2:=Lib.hid hN2
    have HU2:Hid (UOk ((popU us).take k)):=Lib.hid (hU.pop.take k)
    have HPL:=Lib.hid hpl
    have HB:=Lib.hid hB
    have HK:=Lib.hid hk
    obtain ⟨ub,ut,ul⟩:=u
    simp only at hul hLu HPP HE2 HN2
    have has:=assertU (.agg #[.int .i64 ub,.int .i64 ut,.pointer (some ⟨rb,ul,none⟩)])
    clear HX hR hR' hU hN hE hB hl huv ht hu hpl hE2 hN2 HE0 hk
    go_wp2_with (first
     | (go_at_call 53;refine HLN.out.mono ?_;rintro e w2 ⟨rfl,rfl⟩)
     | (go_at_call 54;refine HPP.out.mono ?_;rintro e w3 ⟨rfl,⟨uv3,hr3⟩,hb3⟩;have HR3:=Lib.hid hr3;have HB3:=Lib.hid (HB.out.trans hb3);obtain ⟨A,c,hAc⟩:=own_slice (hr3.own ul hul);have x1:∀ o,(w3.alloc o).cell? ⟨rb,ul,none⟩=some (.slice A (L ul).length c):=(fun o=>Lib.cell?_alloc_some o (by rw [(hr3.lcell hul).1,hAc]));have x2:∀ o o',((w3.alloc o).alloc o').cell? ⟨rb,ul,none⟩=some (.slice A (L ul).length c):=(fun o o'=>Lib.cell?_alloc_some o' (x1 o));have z0:=(fun o=>ebC w3 #[.int .i64 ub,.int .i64 ut,.pointer (some ⟨rb,ul,none⟩)] 99 o 0 (by simp));have z2:=(fun o=>ebC w3 #[.int .i64 ub,.int .i64 ut,.pointer (some ⟨rb,ul,none⟩)] 99 o 2 (by simp));have HOA:Hid (∀ o o',((w3.alloc o).alloc o').ownsRow (rb+1) 3 1 (.slice A (L ul).length c) (L ul).length (i64c (L ul))):=(Lib.hid fun o o'=>by rw [← hAc];exact own_alloc (own_alloc (hr3.own ul hul) o) o');have hrw:rb<w3.heap.size:=hr3.box.lt;have HRD:Hid (∀ o,Reads ((w3.alloc o).alloc (.cells #[.int .i64 ub] 3)).drew (w3.heap.size+2) 1 (some ⟨w3.heap.size+1,0,none⟩) 1 [.int .i64 ub]):=(Lib.hid fun o=>by have h:=one_reads (w3.alloc o) 3 [.int .i64 ub] 1 rfl;rw [show (w3.alloc o).heap.size=w3.heap.size+1 by simp] at h;exact h);have HEP:=Lib.hid (fun (o:Obj) (v':Value) (w':World) (h1:w'.ownsRow (rb+1) 3 1 v' ((L ul).length+1) (i64c (L ul) ++ [.int .i64 ub])) h2 h3=>hr3.ebP hul ub ut o (v':=v') (w':=w') h1 h2 h3);rw [hAc] at HEP;clear hr3 hb3 hAc;refine Hid.out ?_))
    refine Lib.hid ?_
    go_upto_region 2 with fail
    go_region_law (first
     | (refine step_int rfl _ _ rfl (rb+1) (.slice A (L ul).length c) (L ul).length (i64c (L ul)) rfl (HOA.out _ _) (w3.heap.size+2) (some ⟨w3.heap.size+1,0,none⟩) 1 1 [.int .i64 ub] rfl (HRD.out _) (by simp [Value.oneCell']) (by omega) (by simp;omega) ?_;intro v8 w8 hown hgr hor;obtain ⟨A8,c8,rfl⟩:=own_slice hown;obtain ⟨e8,⟨y8,hy8⟩,hz8,HR8,HB8⟩:=HEP.out _ _ _ hown (grown_of_drew hgr) hor;clear hown hgr hor))
    all_goals
     go_wp2
     go_roundg k
     case measure=>have h1:=HJ.out;have h2:=HK.out;omega
     case rel=>exact ⟨k,Lib.hid rfl,Lib.hid ⟨by have:=HK.out;omega,_,_,_,_,HPL.out,HR8.out,HU2.out,fun l hl=>by rw [HPL.out];exact HN2.out l hl,by rw [HPL.out];exact HE2.out,HB3.out.trans HB8.out⟩⟩
   ·have HF:=Lib.hid (HE0.out _ _ hR (by
     rw [hl,hk]
     unfold endB
     rw [if_neg (by rw [← ht];exact hlt)]))
    clear HX hR hR' hU hN hE hB hl huv ht HE0
    go_wp2_with (go_at_call 53;refine HLN.out.mono ?_;rintro e w2 ⟨rfl,rfl⟩)
    first | go_end0 | go_ret
    exact ⟨rfl,HF.out.1,HF.out.2.1,HF.out.2.2.1,HF.out.2.2.2⟩
end
end Go.Proofs.YtedmcfaghfgpoaaGreatDoor
