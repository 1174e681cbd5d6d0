/-
  Texts of one seat, one behind the other: JRt, OCel, Rp, Cp, Cg.
-/
import Derived.Deep.DeepCutAuto
import Derived.Deep.RegionLaw
import Derived.Test.YtedmcfaghfgpoaaGreatDoorMA20
import Derived.Test.YtedmcfaghfgpoaaGreatDoorMA23
import Derived.Test.YtedmcfaghfgpoaaGreatDoorMA2
import Derived.Test.YtedmcfaghfgpoaaGreatDoorMA3
import Derived.Test.YtedmcfaghfgpoaaGreatDoorMA16

set_option linter.unusedVariables false
set_option linter.unusedSimpArgs false
set_option maxRecDepth 100000
set_option maxHeartbeats 51200000
namespace Go.Proofs.YtedmcfaghfgpoaaGreatDoor
open Go.ChangeShapes Go.WideShapes Go.ChangeAt Go.RowKit
def byF (F:Nat→Iv):Nat→Nat→Int
 | 0,_=>-1
 | k+1,q=>upd (byF F k) (F k).p.toNat (k:Int) q
theorem byF_no (F:Nat→Iv):∀ (k q:Nat),(∀ i,i<k→(F i).p.toNat≠q)→byF F k q=-1
 | 0,_,_=>rfl
 | k+1,q,h=>by
  unfold byF
  rw [upd_ne (fun e=>h k (by omega) e.symm)]
  exact byF_no F k q (fun i hi=>h i (by omega))
theorem byF_yes (F:Nat→Iv):∀ (k i:Nat),i<k→(∀ j,i<j→j<k→(F j).p.toNat≠(F i).p.toNat)→byF F k (F i).p.toNat=i
 | 0,_,h,_=>by omega
 | k+1,i,h,hd=>by
  unfold byF
  by_cases e:i=k
  ·subst e;rw [upd_at]
  ·rw [upd_ne (fun e2=>hd k (by omega) (by omega) e2.symm)]
   exact byF_yes F k i (by omega) (fun j h1 h2=>hd j h1 (by omega))
def mostF (l:Nat→Int) (B:Nat→Int):Nat→Int
 | 0=>15
 | p+1=>if 0≤B p∧mostF l B p<l p then l p else mostF l B p
theorem mostF_or (l:Nat→Int) (B:Nat→Int):∀ p,mostF l B p=15∨∃ q,q<p∧0≤B q∧mostF l B p=l q
 | 0=>.inl rfl
 | p+1=>by
  unfold mostF
  split
  ·rename_i h;exact .inr ⟨p,by omega,h.1,rfl⟩
  ·rcases mostF_or l B p with h | ⟨q,h1,h2,h3⟩
   ·exact .inl h
   ·exact .inr ⟨q,by omega,h2,h3⟩
theorem mostF_le (l:Nat→Int) (B:Nat→Int) (c:Int) (hc:15≤c) (h:∀ q,0≤B q→l q≤c) (p:Nat):15≤mostF l B p∧mostF l B p≤c:=by
 induction p with
 | zero=>exact ⟨Int.le_refl _,hc⟩
 | succ p ih =>
  unfold mostF
  split
  ·rename_i h2;exact ⟨by omega,h p h2.1⟩
  ·exact ih
def fndF (l:Nat→Int) (x:Int):Nat→Bool
 | 0=>false
 | q+1=>fndF l x q || (x == l q)
theorem fndF_yes (l:Nat→Int) (x:Int) {q0:Nat} (h:l q0=x):∀ {k:Nat},q0<k→fndF l x k=true
 | 0,h0=>by omega
 | k+1,h0=>by
  unfold fndF
  by_cases e:q0=k
  ·subst e;simp [h]
  ·rw [fndF_yes l x h (k:=k) (by omega)];rfl
theorem ivCs_at:∀ {l:List Iv} {j:Nat} {s:Iv},l[j]?=some s→(ivCs l)[j*4]?=some (.int .i64 s.p)∧(ivCs l)[j*4+1]?=some (.int .i64 s.f)∧(ivCs l)[j*4+2]?=some (.int .i64 s.t)∧(ivCs l)[j*4+3]?=some (.bool s.h)
 | [],j,s,h=>by simp at h
 | a :: r,0,s,h=>by
  simp at h
  subst h
  exact ⟨rfl,rfl,rfl,rfl⟩
 | a :: r,j+1,s,h=>by
  have h1:=ivCs_at (l:=r) (j:=j) (s:=s) (by simpa using h)
  have e:ivCs (a :: r)=.int .i64 a.p :: .int .i64 a.f :: .int .i64 a.t :: .bool a.h :: ivCs r:=rfl
  rw [e,show (j+1)*4=j*4+1+1+1+1 by omega]
  simp only [List.getElem?_cons_succ]
  exact ⟨h1.1,h1.2.1,h1.2.2.1,h1.2.2.2⟩
theorem right13_any (po ko io no lA:Option Addr) (nP pc m kc nI ic n0 nc:Nat) (cells keep en:Int) (res:Bool) (ks:List Int) (F:Nat→Iv) (n:Nat) (sp:List Iv) (l:Nat→Int) (w:World)
  (hks:ks.length=m) (hkk:∀ x ∈ ks,0≤x∧x<2) (hm:m≤1024) (hko:Reads w w.heap.size 1 ko m (u8c ks)) (hlA:m=0∨∃ lb,lA=some ⟨lb,0,none⟩∧Blk w lb 3 (rowA m fun q=>.int .i64 (l q)))
  (hsn:sp.length=n) (hsF:∀ i,i<n→sp[i]?=some (F i)) (hnm:n≤m) (hin:∀ i,i<n→∃ q:Nat,(F i).p=q∧q<m) (hap:∀ i j,i<n→j<n→i≠j→(F i).p.toNat≠(F j).p.toNat)
  (r1:∀ q,(∀ i,i<n→(F i).p.toNat≠q)→l q=-1)
  (r2:∀ i,i<n→0≤l (F i).p.toNat∧(l (F i).p.toNat≤11∨16≤l (F i).p.toNat)∧l (F i).p.toNat<16+m∧((F i).h=true→6≤l (F i).p.toNat∧(l (F i).p.toNat<16→kdL ks (F i).p.toNat≠1)))
  (r3:∀ i j,i<n→j<n→i≠j→l (F i).p.toNat=l (F j).p.toNat→¬ ((F i).f≤(F j).t∧(F j).f≤(F i).t)∧(16≤l (F i).p.toNat→kdL ks (F i).p.toNat=kdL ks (F j).p.toNat))
  (r4:∀ (i:Nat) (x:Int),i<n→16≤x→x≤l (F i).p.toNat→∃ j,j<n∧l (F j).p.toNat=x)
  (hRS:∀ W,Below w.heap.size w W→Calls Tryz.prog 18 #[.agg #[.slice po nP pc,.slice ko m kc,.int .i64 cells,.slice io nI ic,.bool res,.int .i64 keep,.slice no n0 nc,.int .i64 en]] W fun e w'=>∃ (A:Option Addr) (k c:Nat),e=.returned (.slice A k c)∧k=n∧w'.ownsRow W.heap.size 56 4 (.slice A k c) k (ivCs sp)∧Below W.heap.size W w') :
  Calls Tryz.prog 9 #[.agg #[.slice po nP pc,.slice ko m kc,.int .i64 cells,.slice io nI ic,.bool res,.int .i64 keep,.slice no n0 nc,.int .i64 en],.slice lA m m] w fun e w'=>e=.returned (.bool true)∧Below w.heap.size w w':=by
 obtain ⟨W1,hW1⟩:∃ W,W=w.alloc (.cells #[.slice po nP pc,.slice ko m kc,.int .i64 cells,.slice io nI ic,.bool res,.int .i64 keep,.slice no n0 nc,.int .i64 en] 35):=⟨_,rfl⟩
 have hb1:Below w.heap.size w W1:=by rw [hW1];exact (Below.refl _ _).alloc (Nat.le_refl _) _
 have hg1:Blk W1 w.heap.size 35 #[.slice po nP pc,.slice ko m kc,.int .i64 cells,.slice io nI ic,.bool res,.int .i64 keep,.slice no n0 nc,.int .i64 en]:=by rw [hW1];exact Blk.new _ _ _
 have HRS:=lh (hRS W1 hb1)
 have HB1:=lh hb1
 have HG1:=lh hg1
 have HKO:=lh hko
 have HLA:=lh hlA
 have HSF:=lh hsF
 have HIN:=lh hin
 have HAP:=lh hap
 have HR1:=lh r1
 have HR2:=lh r2
 have HR3:=lh r3
 have HR4:=lh r4
 have HKS:=lh hks
 have HSN:=lh hsn
 have HKK:Hid (∀ q,0≤ks.getD q 0):=lh fun q=>by
  rw [List.getD_eq_getElem?_getD]
  by_cases h:q<ks.length
  ·rw [List.getElem?_eq_getElem h];exact (hkk _ (List.getElem_mem h)).1
  ·rw [List.getElem?_eq_none (by omega)];exact Int.le_refl _
 have x0:W1.cell? ⟨w.heap.size,0,none⟩=some (.slice po nP pc):=hg1.cell 0
 have x1:W1.cell? ⟨w.heap.size,1,none⟩=some (.slice ko m kc):=hg1.cell 1
 have x2:W1.cell? ⟨w.heap.size,2,none⟩=some (.int .i64 cells):=hg1.cell 2
 have x3:W1.cell? ⟨w.heap.size,3,none⟩=some (.slice io nI ic):=hg1.cell 3
 have x4:W1.cell? ⟨w.heap.size,4,none⟩=some (.bool res):=hg1.cell 4
 have x5:W1.cell? ⟨w.heap.size,5,none⟩=some (.int .i64 keep):=hg1.cell 5
 have x6:W1.cell? ⟨w.heap.size,6,none⟩=some (.slice no n0 nc):=hg1.cell 6
 have x7:W1.cell? ⟨w.heap.size,7,none⟩=some (.int .i64 en):=hg1.cell 7
 clear hks hkk hko hlA hsn hsF hin hap r1 r2 r3 r4 hRS hb1 hg1
 have hmk:∀ W:World,(Instr.makeSlice 26 (.int .i64 m) (.int .i64 m)).run Tryz.prog W=.ok (.slice (some ⟨W.heap.size,0,none⟩) m m) (W.alloc (.cells (madeCells #[.int .i64 0] m) 3)):=fun W=>run_make_row' _ _ _ 8 Tryz.underlying26 Tryz.info3 rfl .i64 .i64 m (by omega) (by omega) W
 have hmm:((m:Int) != (m:Int))=false:=by simp
 go_enter Tryz.func9,Tryz.ntmps9
 go_upto_region 1 with fail
 rw [← hW1]
 clear hW1
 go_upto_region 4 with (go_at_call 18;refine HRS.out.mono ?_;rintro e w2 ⟨A2,k2,c2,rfl,hk2,ho2,hb2⟩;have hk2':=hk2.symm;clear hk2;subst hk2';have HO2:=lh ho2;have HB2:=lh hb2;have y1:w2.cell? ⟨w.heap.size,1,none⟩=some (.slice ko m kc):=(HG1.out.below hb2 HG1.out.lt).cell 1;clear ho2 hb2)
 obtain ⟨bb,hbb⟩:∃ b,b=w2.heap.size:=⟨_,rfl⟩
 have HBB:=lh hbb
 have H0:Hid (Blk (w2.alloc (.cells (madeCells #[.int .i64 0] m) 3)) bb 3 (rowA m fun q=>.int .i64 (if q<0 then -1 else 0))∧Below w2.heap.size w2 (w2.alloc (.cells (madeCells #[.int .i64 0] m) 3))):=lh ⟨by
  rw [rowA_congr (g:=fun _=>Value.int .i64 0) (fun q _=>by rw [if_neg (by omega)]),← rowA_made,hbb]
  exact Blk.new w2 _ _,(Below.refl _ _).alloc (Nat.le_refl _) _⟩
 clear hbb x0 x1 x2 x3 x4 x5 x6 x7 HRS
 go_wp2
 rw [← HBB.out]
 clear hmk
 go_loopw [35] (fun s wr=>∃ j:Nat,s=.int .i64 j∧j≤m∧Hid (Blk wr bb 3 (rowA m fun q=>.int .i64 (if q<j then -1 else 0))∧Below w2.heap.size w2 wr)) (fun s _=>m-(intOf s).toNat)
 case atStart=>exact ⟨0,rfl,by omega,H0⟩
 case round =>
  clear H0
  obtain ⟨j,rfl,hj,HX⟩:=hrel
  by_cases hlt:j<m
  ·have z0:wr.cell? ⟨bb,j,none⟩=some (.int .i64 (if j<j then -1 else 0)):=by rw [HX.out.1.cell];exact rowA_at _ hlt
   have z1:=HX.out.1.frozen j
   have HN:Hid (Blk (wr.setCell ⟨bb,j,none⟩ (.int .i64 (-1))) bb 3 (rowA m fun q=>.int .i64 (if q<j+1 then -1 else 0))∧Below w2.heap.size w2 (wr.setCell ⟨bb,j,none⟩ (.int .i64 (-1)))):=lh ⟨by
    have h:=HX.out.1.set_ j (.int .i64 (-1))
    rw [rowA_set] at h
    rw [rowA_congr (g:=upd (fun q=>.int .i64 (if q<j then -1 else 0)) j (.int .i64 (-1)))]
    ·exact h
    ·intro q _
     unfold upd
     by_cases e:q=j
     ·rw [if_pos e,if_pos (by omega)]
     ·rw [if_neg e]
      show Value.int .i64 (if q<j+1 then -1 else 0)=Value.int .i64 (if q<j then -1 else 0)
      by_cases e2:q<j
      ·rw [if_pos e2,if_pos (by omega)]
      ·rw [if_neg e2,if_neg (by omega)],HX.out.2.setCell (p:=⟨bb,j,none⟩) (by rw [HBB.out];exact Nat.le_refl _) _⟩
   clear HX
   go_wp2
   go_roundw
   case rel=>exact ⟨j+1,by go_num,by omega,HN⟩
   case measure=>simp [intOf];omega
  ·obtain rfl:m=j:=by omega
   have H1:Hid (Blk wr bb 3 (rowA m fun q=>.int .i64 (byF F 0 q))∧Below w2.heap.size w2 wr):=lh ⟨by
    rw [rowA_congr (g:=fun q=>.int .i64 (if q<m then -1 else 0))]
    ·exact HX.out.1
    ·intro q hq
     rw [if_pos hq];rfl,HX.out.2⟩
   clear HX
   obtain ⟨wo,hwo⟩:∃ wo,wo=wr:=⟨_,rfl⟩
   rw [← hwo] at H1 ⊢
   clear hwo
   go_wp2
   go_loopw [44] (fun s wr=>∃ j:Nat,s=.int .i64 j∧j≤n∧Hid (Blk wr bb 3 (rowA m fun q=>.int .i64 (byF F j q))∧Below w2.heap.size w2 wr)) (fun s _=>n-(intOf s).toNat)
   case atStart=>exact ⟨0,rfl,by omega,H1⟩
   case round =>
    clear H1
    obtain ⟨j,rfl,hj,HX⟩:=hrel
    by_cases hlt:j<n
    ·obtain ⟨sb,so,rfl,hsb,hsc⟩:=(Reads.of_own HO2.out).lit (by omega) (by omega)
     obtain ⟨q,hq,hqm⟩:=HIN.out j hlt
     have hcs:=ivCs_at (HSF.out j hlt)
     have hlow:∀ i u,(ivCs sp)[i]?=some u→wr.cell? ⟨sb,so+i,none⟩=some u:=fun i u hu=>(HX.out.2.cell hsb).trans (hsc i u hu)
     have s0:wr.cell? ⟨sb,so+j*4,none⟩=some (.int .i64 q):=by rw [← hq];exact hlow _ _ hcs.1
     have s1:wr.cell? ⟨sb,so+j*4+1,none⟩=some (.int .i64 (F j).f):=hlow _ _ hcs.2.1
     have s2:wr.cell? ⟨sb,so+j*4+2,none⟩=some (.int .i64 (F j).t):=hlow _ _ hcs.2.2.1
     have s3:wr.cell? ⟨sb,so+j*4+3,none⟩=some (.bool (F j).h):=hlow _ _ hcs.2.2.2
     have z0:∀ o,(wr.alloc o).cell? ⟨bb,q,none⟩=some (.int .i64 (byF F j q)):=fun o=>by rw [(HX.out.1.alloc o).cell];exact rowA_at _ hqm
     have z1:∀ o,(wr.alloc o).frozen? ⟨bb,q,none⟩=false:=fun o=>(HX.out.1.alloc o).frozen q
     have HN:Hid (∀ o,Blk ((wr.alloc o).setCell ⟨bb,q,none⟩ (.int .i64 j)) bb 3 (rowA m fun p=>.int .i64 (byF F (j+1) p))∧Below w2.heap.size w2 ((wr.alloc o).setCell ⟨bb,q,none⟩ (.int .i64 j))):=lh fun o=>⟨by
      have h:=(HX.out.1.alloc o).set_ q (.int .i64 j)
      rw [rowA_set] at h
      have e:(F j).p.toNat=q:=by rw [hq];simp
      rw [rowA_congr (g:=upd (fun p=>.int .i64 (byF F j p)) q (.int .i64 j))]
      ·exact h
      ·intro p _
       show Value.int .i64 (upd (byF F j) (F j).p.toNat (j:Int) p)=_
       rw [e]
       unfold upd
       split <;> rfl,(HX.out.2.alloc HX.out.2.size o).setCell (p:=⟨bb,q,none⟩) (by rw [HBB.out];exact Nat.le_refl _) _⟩
     have HN':Hid (∀ o,Blk (((wr.setCell ⟨bb,q,none⟩ (.int .i64 j)).alloc o)) bb 3 (rowA m fun p=>.int .i64 (byF F (j+1) p))∧Below w2.heap.size w2 ((wr.setCell ⟨bb,q,none⟩ (.int .i64 j)).alloc o)):=lh fun o=>⟨by
      have h:=(HX.out.1.set_ q (.int .i64 j)).alloc o
      rw [rowA_set] at h
      have e:(F j).p.toNat=q:=by rw [hq];simp
      rw [rowA_congr (g:=upd (fun p=>.int .i64 (byF F j p)) q (.int .i64 j))]
      ·exact h
      ·intro p _
       show Value.int .i64 (upd (byF F j) (F j).p.toNat (j:Int) p)=_
       rw [e]
       unfold upd
       split <;> rfl,(HX.out.2.setCell (p:=⟨bb,q,none⟩) (by rw [HBB.out];exact Nat.le_refl _) _).alloc (by simpa [World.setCell] using HX.out.2.size) o⟩
     clear HX hcs hlow hsc hq hsb
     go_wp2
     go_roundw
     case rel=>exact ⟨j+1,by go_num,by omega,by first | exact lh (HN.out _) | exact lh (HN'.out _)⟩
     case measure=>simp [intOf];omega
    ·obtain rfl:n=j:=by omega
     obtain ⟨w3,hw3⟩:∃ wo,wo=wr:=⟨_,rfl⟩
     rw [← hw3] at HX ⊢
     clear hw3
     have HB3:Hid (Below w.heap.size w w3):=lh ((HB1.out.trans (HB2.out.mono HB1.out.size)).trans (HX.out.2.mono (Nat.le_trans HB1.out.size HB2.out.size)))
     have HB13:Hid (Below W1.heap.size W1 w3):=lh (HB2.out.trans (HX.out.2.mono HB2.out.size))
     have HCB:Hid (∀ W,Below w3.heap.size w3 W→∀ q,q<m→W.cell? ⟨bb,q,none⟩=some (.int .i64 (byF F n q))):=lh fun W hW q hq=>by
      rw [(HX.out.1.below hW HX.out.1.lt).cell];exact rowA_at _ hq
     have HCG:Hid (∀ W,Below w3.heap.size w3 W→W.cell? ⟨w.heap.size,1,none⟩=some (.slice ko m kc)):=lh fun W hW =>
      ((HG1.out.below HB13.out HG1.out.lt).below hW (HG1.out.below HB13.out HG1.out.lt).lt).cell 1
     have HCS:Hid (0<n→∃ sb so,A2=some ⟨sb,so,none⟩∧∀ W,Below w3.heap.size w3 W→∀ i,i<n→W.cell? ⟨sb,so+i*4,none⟩=some (.int .i64 (F i).p)∧W.cell? ⟨sb,so+i*4+1,none⟩=some (.int .i64 (F i).f)∧W.cell? ⟨sb,so+i*4+2,none⟩=some (.int .i64 (F i).t)∧W.cell? ⟨sb,so+i*4+3,none⟩=some (.bool (F i).h)):=lh fun hn0=>by
      obtain ⟨sb,so,e,hsb,hsc⟩:=(Reads.of_own HO2.out).lit hn0 (by omega)
      refine ⟨sb,so,e,fun W hW i hi=>?_⟩
      have hcs:=ivCs_at (HSF.out i hi)
      have hlow:∀ i u,(ivCs sp)[i]?=some u→W.cell? ⟨sb,so+i,none⟩=some u:=fun i u hu=>(hW.cell (show sb<w3.heap.size by have:=HX.out.2.size;omega)).trans ((HX.out.2.cell hsb).trans (hsc i u hu))
      exact ⟨hlow _ _ hcs.1,hlow _ _ hcs.2.1,hlow _ _ hcs.2.2.1,hlow _ _ hcs.2.2.2⟩
     have HCL:Hid (0<m→∃ lb,lA=some ⟨lb,0,none⟩∧∀ W,Below w3.heap.size w3 W→∀ q,q<m→W.cell? ⟨lb,q,none⟩=some (.int .i64 (l q))):=lh fun hm0=>by
      obtain ⟨lb,e,hb⟩:=HLA.out.resolve_left (by omega)
      refine ⟨lb,e,fun W hW q hq=>?_⟩
      rw [((hb.below HB3.out hb.lt).below hW (hb.below HB3.out hb.lt).lt).cell];exact rowA_at _ hq
     have HCK:Hid (0<m→∃ kb kf,ko=some ⟨kb,kf,none⟩∧∀ W,Below w3.heap.size w3 W→∀ q,q<m→W.cell? ⟨kb,kf+q,none⟩=some (.int .u8 (ks.getD q 0))):=lh fun hm0=>by
      obtain ⟨kb,kf,e,hkb,hkc⟩:=HKO.out.lit hm0 (by omega)
      refine ⟨kb,kf,e,fun W hW q hq=>?_⟩
      have hql:q<ks.length:=by rw [HKS.out];exact hq
      rw [hW.cell (show kb<w3.heap.size by have:=HB3.out.size;omega),HB3.out.cell hkb]
      refine hkc _ _ (u8c_at ?_)
      rw [List.getElem?_eq_getElem hql,List.getD_eq_getElem?_getD,List.getElem?_eq_getElem hql];rfl
     have HBN:Hid (∀ q,(∀ i,i<n→(F i).p.toNat≠q)→byF F n q=-1):=lh (byF_no F n)
     have HBYS:Hid (∀ i,i<n→byF F n (F i).p.toNat=i):=lh fun i hi=>byF_yes F n i hi (fun j h1 h2=>HAP.out j i h2 hi (by omega))
     clear HX HO2 HLA HKO HG1 HB1 HB2 HB13 y1 HBB
     go_wp2
     go_loopw [10,57] (fun s10 s57 wr=>∃ p:Nat,s57=.int .i64 p∧s10=.int .i64 (mostF l (byF F n) p)∧p≤m∧Hid (Below w3.heap.size w3 wr)) (fun _ s _=>m-(intOf s).toNat)
     case atStart=>exact ⟨0,rfl,rfl,by omega,lh (Below.refl _ _)⟩
     case round =>
      obtain ⟨p,rfl,rfl,hp,HW⟩:=hrel
      by_cases hlt:p<m
      ·obtain ⟨lb,rfl,hcl⟩:=HCL.out (by omega)
       have z0:=HCB.out wr HW.out p hlt
       have z1:=hcl wr HW.out p hlt
       by_cases hno:∀ i,i<n→(F i).p.toNat≠p
       ·have e1:=HBN.out p hno
        have e2:=HR1.out p hno
        rw [e1] at z0
        rw [e2] at z1
        have HM:Hid (mostF l (byF F n) p=mostF l (byF F n) (p+1)):=lh (by
         show _=(if 0≤byF F n p∧_ then _ else _)
         rw [if_neg (by rw [e1];omega)])
        rw [HM.out]
        clear hno e1 e2 hcl
        go_wp2
        go_roundw
        case rel=>exact ⟨p+1,by go_num,rfl,by omega,HW⟩
        case measure=>simp [intOf];omega
       ·obtain ⟨i,hin2⟩:=Classical.not_forall.1 hno
        have hi:i<n:=by
         rcases Nat.lt_or_ge i n with h | h
         ·exact h
         ·exact absurd (fun h2=>absurd h2 (by omega)) hin2
        have hpi:(F i).p.toNat=p:=by
         rcases Nat.decEq (F i).p.toNat p with h | h
         ·exact absurd (fun _=>h) hin2
         ·exact h
        obtain ⟨pp,hpp,hpm⟩:=HIN.out i hi
        have hppp:(F i).p=(p:Int):=by rw [hpp] at hpi ⊢;simp at hpi;rw [hpi]
        obtain ⟨sb,so,rfl,hcs⟩:=HCS.out (by omega)
        obtain ⟨kb,kf,rfl,hck⟩:=HCK.out (by omega)
        obtain ⟨s0,s1,s2,s3⟩:=hcs wr HW.out i hi
        rw [hppp] at s0
        have e1:=HBYS.out i hi
        obtain ⟨q1,q2,q3,q4⟩:=HR2.out i hi
        rw [hpi] at e1 q1 q2 q3 q4
        rw [e1] at z0
        obtain ⟨x,hx⟩:∃ x,x=l p:=⟨_,rfl⟩
        obtain ⟨sf,hsf⟩:∃ x,x=(F i).f:=⟨_,rfl⟩
        obtain ⟨se,hse⟩:∃ x,x=(F i).t:=⟨_,rfl⟩
        obtain ⟨sh,hsh⟩:∃ x,x=(F i).h:=⟨_,rfl⟩
        rw [← hx] at z1 q1 q2 q3 q4
        rw [← hsf] at s1
        rw [← hse] at s2
        rw [← hsh] at s3 q4
        obtain ⟨kv,hkv⟩:∃ x,x=ks.getD p 0:=⟨_,rfl⟩
        have hkd:kdL ks p=kv.toNat:=by rw [hkv];rfl
        rw [hkd] at q4
        obtain ⟨W4,hW4⟩:∃ W,W=wr.alloc (.cells #[.int .i64 p,.int .i64 sf,.int .i64 se,.bool sh] 56):=⟨_,rfl⟩
        have HB4:Hid (Below w3.heap.size w3 W4):=lh (by rw [hW4];exact HW.out.alloc HW.out.size _)
        have HS4:Hid (Blk W4 wr.heap.size 56 #[.int .i64 p,.int .i64 sf,.int .i64 se,.bool sh]):=lh (by rw [hW4];exact Blk.new _ _ _)
        have t1:W4.cell? ⟨wr.heap.size,1,none⟩=some (.int .i64 sf):=HS4.out.cell 1
        have t2:W4.cell? ⟨wr.heap.size,2,none⟩=some (.int .i64 se):=HS4.out.cell 2
        have t3:W4.cell? ⟨wr.heap.size,3,none⟩=some (.bool sh):=HS4.out.cell 3
        have t4:=HCG.out W4 HB4.out
        have t5:W4.cell? ⟨kb,kf+p,none⟩=some (.int .u8 kv):=by rw [hkv];exact hck W4 HB4.out p hlt
        obtain ⟨M,hM⟩:∃ M,M=mostF l (byF F n) p:=⟨_,rfl⟩
        obtain ⟨M2,hM2⟩:∃ M,M=mostF l (byF F n) (p+1):=⟨_,rfl⟩
        have HM2:Hid (M2=if M<x then x else M):=lh (by
         rw [hM2,hM,hx]
         show (if 0≤byF F n p∧_ then _ else _)=_
         by_cases c:mostF l (byF F n) p<l p
         ·rw [if_pos ⟨by rw [e1];omega,c⟩,if_pos c]
         ·rw [if_neg (fun h=>c h.2),if_neg c])
        have HMM:=lh hM2
        rw [← hM]
        have HQ4:=lh q4
        have HXX:=lh (And.intro hx (And.intro hsf (And.intro hse (And.intro hkv hpi))))
        have HEI:=lh e1
        have hiz:¬ (i:Int)<0:=by omega
        have HCLL:=lh hcl
        have HCSS:=lh hcs
        have HCKK:=lh hck
        have HII:=lh hi
        clear hno hin2 hpp hppp e1 q4 hx hsf hse hsh hkv hkd hM hM2 hpi hcl hcs hck
        go_upto_region 23 with fail
        rw [← hW4]
        clear hW4 s0 s1 s2 s3 z0 z1
        go_cut [93] (fun t wx=>t=.bool false∧wx=W4)
        case first =>
         have g1:¬ x<0:=by omega
         have g3:¬ x≥16+(m:Int):=by omega
         rcases q2 with h11 | h16
         ·have g2:¬ x > 11:=by omega
          go_wp2
          go_meet
          exact ⟨by simp <;> omega,rfl⟩
         ·have g2:x > 11:=by omega
          have g4:¬ x<16:=by omega
          go_wp2
          go_meet
          exact ⟨by simp <;> omega,rfl⟩
        case rest =>
         obtain ⟨rfl,hwc⟩:=hcut
         obtain rfl:W4=wc:=hwc.symm
         go_upto_region 25 with fail
         go_cut [111] (fun t wx=>t=.bool false∧wx=W4)
         case first =>
          cases sh with
          | false =>
           go_wp2
           go_meet
           exact ⟨by simp,rfl⟩
          | true =>
           obtain ⟨q5,q6⟩:=HQ4.out rfl
           have g1:¬ x<6:=by omega
           by_cases h16:x<16
           ·have g2:(kv == 1)=false:=by
             have:=q6 h16
             simp
             intro e
             exact this (by rw [e];rfl)
            go_wp2
            go_meet
            exact ⟨by simp <;> omega,rfl⟩
           ·go_wp2
            go_meet
            exact ⟨by simp <;> omega,rfl⟩
         case rest =>
          obtain ⟨rfl,hwc⟩:=hcut
          obtain rfl:W4=wc:=hwc.symm
          go_upto_if 114 with fail
          go_cut [10] (fun t wx=>t=.int .i64 M2∧wx=W4)
          case first =>
           by_cases c:M<x
           ·go_wp2
            go_meet
            exact ⟨by rw [HM2.out,if_pos c],rfl⟩
           ·go_wp2
            go_meet
            exact ⟨by rw [HM2.out,if_neg (by omega)],rfl⟩
          case rest =>
           obtain ⟨rfl,hwc⟩:=hcut
           obtain rfl:W4=wc:=hwc.symm
           go_wp2
           obtain ⟨wrO,hwrO⟩:∃ x,x=wr:=⟨_,rfl⟩
           rw [← hwrO] at HS4 t1 t2 t3 ⊢
           clear hwrO
           go_loopw [118] (fun sl wq=>∃ q:Nat,sl=.int .i64 q∧q≤m∧Hid (Below W4.heap.size W4 wq)) (fun sl _=>m-(intOf sl).toNat)
           case atStart=>exact ⟨0,rfl,by omega,lh (Below.refl _ _)⟩
           case round =>
            obtain ⟨q,rfl,hq,HWq⟩:=hrel
            obtain ⟨W5,hW5⟩:∃ x,x=wr:=⟨_,rfl⟩
            by_cases hqm:q<m
            ·have hbw:Below w3.heap.size w3 wr:=HB4.out.trans (HWq.out.mono HB4.out.size)
             have z0:=HCB.out wr hbw q hqm
             have z1:=HCLL.out wr hbw q hqm
             by_cases hqp:q=p
             ·subst hqp
              have g1:((q:Int) == (q:Int))=true:=by simp
              clear hbw
              go_wp2
              go_roundw
              case rel=>exact ⟨q+1,by go_num,by omega,HWq⟩
              case measure=>simp [intOf];omega
             ·have g1:((q:Int) == (p:Int))=false:=by simp;omega
              by_cases hno:∀ j,j<n→(F j).p.toNat≠q
              ·have e1:=HBN.out q hno
               rw [e1] at z0
               clear hbw hno e1
               go_wp2
               go_roundw
               case rel=>exact ⟨q+1,by go_num,by omega,HWq⟩
               case measure=>simp [intOf];omega
              ·obtain ⟨j,hjn,hjq⟩:∃ j,j<n∧(F j).p.toNat=q:=by
                refine Classical.byContradiction fun hc=>hno fun j hj he=>hc ⟨j,hj,he⟩
               have e1:=HBYS.out j hjn
               rw [hjq] at e1
               rw [e1] at z0
               obtain ⟨y,hy⟩:∃ y,y=l q:=⟨_,rfl⟩
               rw [← hy] at z1
               have hjz:¬ (j:Int)<0:=by omega
               by_cases hxy:x=y
               ·have g2:(x != y)=false:=by simpa using hxy
                obtain ⟨pj,hpj,_⟩:=HIN.out j hjn
                have hpq:(F j).p=(q:Int):=by rw [hpj] at hjq ⊢;simp at hjq;rw [hjq]
                obtain ⟨v0,v1,v2,v3⟩:=HCSS.out wr hbw j hjn
                rw [hpq] at v0
                have hij:i≠j:=fun e=>by
                 have h1:=HXX.out.2.2.2.2
                 rw [e,hjq] at h1
                 exact hqp h1
                have h3:=HR3.out i j HII.out hjn hij (by rw [HXX.out.2.2.2.2,hjq,← HXX.out.1,← hy];exact hxy)
                rw [HXX.out.2.2.2.2,hjq,← HXX.out.1,← HXX.out.2.1,← HXX.out.2.2.1] at h3
                obtain ⟨tf,htf⟩:∃ x,x=(F j).f:=⟨_,rfl⟩
                obtain ⟨te,hte⟩:∃ x,x=(F j).t:=⟨_,rfl⟩
                obtain ⟨th,hth⟩:∃ x,x=(F j).h:=⟨_,rfl⟩
                rw [← htf] at v1 h3
                rw [← hte] at v2 h3
                rw [← hth] at v3
                obtain ⟨W6,hW6⟩:∃ W,W=wr.alloc (.cells #[.int .i64 q,.int .i64 tf,.int .i64 te,.bool th] 56):=⟨_,rfl⟩
                have hb46:Below W4.heap.size W4 W6:=by rw [hW6];exact HWq.out.alloc HWq.out.size _
                have HB46:=lh hb46
                have hb36:Below w3.heap.size w3 W6:=HB4.out.trans (hb46.mono HB4.out.size)
                have hS6:=HS4.out.below hb46 HS4.out.lt
                have hT6:Blk W6 wr.heap.size 56 #[.int .i64 q,.int .i64 tf,.int .i64 te,.bool th]:=by rw [hW6];exact Blk.new _ _ _
                have HT6:=lh hT6
                have u1:W6.cell? ⟨wrO.heap.size,1,none⟩=some (.int .i64 sf):=hS6.cell 1
                have u2:W6.cell? ⟨wrO.heap.size,2,none⟩=some (.int .i64 se):=hS6.cell 2
                have u3:W6.cell? ⟨wr.heap.size,1,none⟩=some (.int .i64 tf):=hT6.cell 1
                have u4':W6.cell? ⟨wr.heap.size,2,none⟩=some (.int .i64 te):=hT6.cell 2
                have u5:=HCG.out W6 hb36
                have u6:=HCKK.out W6 hb36 p (by omega)
                have u7:=HCKK.out W6 hb36 q hqm
                obtain ⟨kq,hkq⟩:∃ x,x=ks.getD q 0:=⟨_,rfl⟩
                rw [← hkq] at u7
                rw [← HXX.out.2.2.2.1] at u6
                have hkk2:16≤x→kv=kq:=fun h=>by
                 have h5:=h3.2 h
                 have h6:=HKK.out p
                 have h7:=HKK.out q
                 unfold kdL at h5
                 rw [← HXX.out.2.2.2.1] at h5 h6
                 rw [← hkq] at h5 h7
                 omega
                have hov:=h3.1
                clear hbw hno e1 hy hij h3 hS6 hT6 hb46 hb36 hpj hpq hkq htf hte hth hjq
                go_upto_region 34 with fail
                rw [← hW6]
                clear hW6 v0 v1 v2 v3 z0 z1
                go_cut [173] (fun t wx=>t=.bool false∧∃ k,wx=W6.drewN k)
                case first =>
                 clear hxy
                 by_cases c1:sf≤te
                 ·have cc2:¬ tf≤se:=fun h=>hov ⟨c1,h⟩
                  clear hov
                  by_cases c3:16≤x
                  ·have c4:(kv != kq)=false:=by simpa using hkk2 c3
                   clear hkk2
                   go_region
                   all_goals
                    go_wp2
                    go_meet
                    exact ⟨by simp <;> omega,1,rfl⟩
                  ·clear hkk2
                   go_region
                   all_goals
                    go_wp2
                    go_meet
                    exact ⟨by simp <;> omega,1,rfl⟩
                 ·clear hov
                  by_cases c3:16≤x
                  ·have c4:(kv != kq)=false:=by simpa using hkk2 c3
                   clear hkk2
                   go_region
                   all_goals
                    go_wp2
                    go_meet
                    exact ⟨by simp <;> omega,1,rfl⟩
                  ·clear hkk2
                   go_region
                   all_goals
                    go_wp2
                    go_meet
                    exact ⟨by simp <;> omega,1,rfl⟩
                case rest =>
                 obtain ⟨rfl,k6,hwc⟩:=hcut
                 have HN6:Hid (Below W4.heap.size W4 wc):=lh (by rw [hwc];exact below_drewN HB46.out k6)
                 clear hwc
                 go_wp2
                 go_roundw
                 case rel=>exact ⟨q+1,by go_num,by omega,HN6⟩
                 case measure=>simp [intOf];omega
               ·have g2:(x != y)=true:=by simpa using hxy
                clear hbw hno e1 hy hxy
                go_wp2
                go_roundw
                case rel=>exact ⟨q+1,by go_num,by omega,HWq⟩
                case measure=>simp [intOf];omega
            ·obtain rfl:m=q:=by omega
             have HWN:Hid (Below w3.heap.size w3 wr):=lh (HB4.out.trans (HWq.out.mono HB4.out.size))
             rw [HMM.out]
             go_wp2
             go_roundw
             case rel=>exact ⟨p+1,by go_num,rfl,by omega,HWN⟩
             case measure=>simp [intOf];omega
      ·obtain rfl:m=p:=by omega
       obtain ⟨M,hM⟩:∃ M,M=mostF l (byF F n) m:=⟨_,rfl⟩
       have hplace:∀ q,0≤byF F n q→∃ i,i<n∧(F i).p.toNat=q:=fun q hq=>by
        refine Classical.byContradiction fun hc=>?_
        have:=HBN.out q (fun i hi he=>hc ⟨i,hi,he⟩)
        omega
       have hM15:15≤M∧M≤15+(m:Int):=by
        rw [hM]
        refine mostF_le l (byF F n) _ (by omega) (fun q hq=>?_) m
        obtain ⟨i,hi,he⟩:=hplace q hq
        have:=(HR2.out i hi).2.2.1
        rw [he] at this
        omega
       have HXS:Hid (∀ x:Int,16≤x→x≤M→∃ q,q<m∧l q=x):=lh fun x h1 h2=>by
        rcases mostF_or l (byF F n) m with h | ⟨q,hq,hb,h⟩
        ·omega
        ·obtain ⟨i,hi,he⟩:=hplace q hb
         obtain ⟨j,hj,hx⟩:=HR4.out i x hi h1 (by rw [he,← h,← hM];exact h2)
         obtain ⟨pj,hpj,hpm⟩:=HIN.out j hj
         exact ⟨(F j).p.toNat,by rw [hpj];simp;exact hpm,hx⟩
       rw [← hM]
       clear hM hplace
       obtain ⟨w9,hw9⟩:∃ x,x=wr:=⟨_,rfl⟩
       rw [← hw9] at HW ⊢
       clear hw9
       go_wp2
       go_loopw [17] (fun s17 wr=>∃ x:Int,s17=.int .i64 x∧16≤x∧x≤M+1∧Hid (Below w3.heap.size w3 wr)) (fun s _=>(M+1-intOf s).toNat)
       case atStart=>exact ⟨16,rfl,by omega,by omega,HW⟩
       case round =>
        clear HW
        obtain ⟨x,rfl,hx1,hx2,HW⟩:=hrel
        by_cases hxM:x≤M
        ·obtain ⟨q0,hq0,hlq⟩:=HXS.out x hx1 hxM
         obtain ⟨lb,rfl,hcl⟩:=HCL.out (by omega)
         have HCLL:=lh hcl
         have HF0:Hid (fndF l x m=true):=lh (fndF_yes l x hlq hq0)
         clear hcl hlq
         obtain ⟨wa,hwa⟩:∃ x,x=wr:=⟨_,rfl⟩
         rw [← hwa] at HW ⊢
         clear hwa
         go_wp2
         go_loopw [18,183] (fun s18 s183 wr=>∃ (q:Nat) (b:Bool),s18=.bool b∧s183=.int .i64 q∧q≤m∧Hid (b=fndF l x q)∧Hid (Below w3.heap.size w3 wr)) (fun _ s _=>m-(intOf s).toNat)
         case atStart=>exact ⟨0,false,rfl,rfl,by omega,lh rfl,HW⟩
         case round =>
          clear HW
          obtain ⟨q,b,rfl,rfl,hq,HB,HW⟩:=hrel
          by_cases hqm:q<m
          ·have z1:=HCLL.out wr HW.out q hqm
           obtain ⟨y,hy⟩:∃ y,y=l q:=⟨_,rfl⟩
           rw [← hy] at z1
           have HY:=lh hy
           clear hy
           cases b with
           | true =>
            go_wp2
            go_roundw
            case rel=>exact ⟨q+1,true,rfl,by go_num,by omega,lh (by unfold fndF;rw [← HB.out];rfl),HW⟩
            case measure=>simp [intOf];omega
           | false =>
            go_wp2
            go_roundw
            case rel=>exact ⟨q+1,(x == y),by simp,by go_num,by omega,lh (by unfold fndF;rw [← HB.out,HY.out];rfl),HW⟩
            case measure=>simp [intOf];omega
          ·obtain rfl:m=q:=by omega
           obtain rfl:b=true:=by rw [HB.out,HF0.out]
           go_wp2
           go_roundw
           case rel=>exact ⟨x+1,by go_num,by omega,by omega,HW⟩
           case measure=>simp [intOf];omega
        ·have HBW:Hid (Below w.heap.size w wr):=lh (HB3.out.trans (HW.out.mono HB3.out.size))
         clear HW
         go_wp2
         first | go_end0 | go_ret
         exact ⟨rfl,HBW.out⟩
theorem cells8 {w:World} {g:Nat} {t:TypeId} {a0 a1 a2 a3 a4 a5 a6 a7:Value} (h:Blk w g t #[a0,a1,a2,a3,a4,a5,a6,a7]) :
  w.cell? ⟨g,0,none⟩=some a0∧w.cell? ⟨g,1,none⟩=some a1∧w.cell? ⟨g,2,none⟩=some a2∧w.cell? ⟨g,3,none⟩=some a3∧w.cell? ⟨g,4,none⟩=some a4∧w.cell? ⟨g,5,none⟩=some a5∧w.cell? ⟨g,6,none⟩=some a6∧w.cell? ⟨g,7,none⟩=some a7 :=
 ⟨h.cell 0,h.cell 1,h.cell 2,h.cell 3,h.cell 4,h.cell 5,h.cell 6,h.cell 7⟩
theorem cells12 {w:World} {g:Nat} {t:TypeId} {a0 a1 a2 a3 a4 a5 a6 a7 a8 a9 a10 a11:Value} (h:Blk w g t #[a0,a1,a2,a3,a4,a5,a6,a7,a8,a9,a10,a11]) :
  w.cell? ⟨g,0,none⟩=some a0∧w.cell? ⟨g,1,none⟩=some a1∧w.cell? ⟨g,2,none⟩=some a2∧w.cell? ⟨g,3,none⟩=some a3∧w.cell? ⟨g,4,none⟩=some a4∧w.cell? ⟨g,5,none⟩=some a5∧w.cell? ⟨g,6,none⟩=some a6∧w.cell? ⟨g,7,none⟩=some a7∧w.cell? ⟨g,8,none⟩=some a8∧w.cell? ⟨g,9,none⟩=some a9∧w.cell? ⟨g,10,none⟩=some a10∧w.cell? ⟨g,11,none⟩=some a11 :=
 ⟨h.cell 0,h.cell 1,h.cell 2,h.cell 3,h.cell 4,h.cell 5,h.cell 6,h.cell 7,h.cell 8,h.cell 9,h.cell 10,h.cell 11⟩
def wantOf (op:Int):List Int :=
 if op=1 then [110,45,45,45] else if op=2 then [61,45,61,45] else if op=3 then [110,45,110,110] else if op=4 then [110,45,45,45]
 else if op=5 then [45,45,110,45] else if op=6 then [112,45,45,45] else if op=7 then [110,45,112,45] else if op=8 then [45,45,112,110]
 else if op=9 then [45,45,110,45] else if op=10 then [45,45,45,45] else if op=11 then [45,45,45,45] else if op=12 then [45,45,45,45]
 else if op=13 then [45,45,45,45] else if op=14 then [45,45,110,45] else if op=15 then [110,110,45,45] else if op=16 then [110,45,45,45]
 else [45,45,110,45]
def asked (ks:List Int) (bd:Bool) (c p:Int):Prop:=(c=110→fits ks bd p 0)∧(c=112→fits ks bd p 1)
def restOf (gs:List Gr) (g:Gr) (bd:Bool) (n:Nd):Prop :=
 if n.op=2 then (fits g.kinds bd n.d 0∧fits g.kinds bd n.a 0)∨(fits g.kinds bd n.d 1∧fits g.kinds bd n.a 1)
 else if n.op=3 then 7≤n.bop∧n.bop≤20
 else if n.op=4∨n.op=5∨n.op=6 then isOne n.cell g.cells
 else if n.op=15 then n.d≠n.e
 else if n.op=12 then (if n.a=-1 then g.result=false else g.result=true∧fits g.kinds bd n.a 0)
 else if n.op=11 then hands gs g bd n.f n.args∧gets gs g bd n.f n.d
 else if n.op=13 then hands gs g bd n.f n.args
 else True
instance (gs:List Gr) (g:Gr) (bd:Bool) (n:Nd):Decidable (restOf gs g bd n):=by unfold restOf;infer_instance
def rnode (gs:List Gr) (g:Gr) (bd:Bool) (n:Nd):Prop :=
 (1≤n.op∧n.op≤18)∧(∀ x ∈ nextsOf n,isOne x g.nodes.length)∧(∀ i,i<4→asked g.kinds bd ((wantOf n.op).getD i 45) ([n.d,n.e,n.a,n.b].getD i 0))∧restOf gs g bd n
theorem all4 (Q:Nat→Prop):(∀ i,i<4→Q i)↔Q 0∧Q 1∧Q 2∧Q 3 :=
 ⟨fun h=>⟨h 0 (by omega),h 1 (by omega),h 2 (by omega),h 3 (by omega)⟩,fun ⟨h0,h1,h2,h3⟩ i hi=>by
  match i,hi with
  | 0,_=>exact h0
  | 1,_=>exact h1
  | 2,_=>exact h2
  | 3,_=>exact h3⟩
theorem kind_mem {ks:List Int} {p:Int} (h:isOne p ks.length):kindAt ks p ∈ ks:=by
 unfold kindAt
 have hl:p.toNat<ks.length:=by have:=h.1;have:=h.2;omega
 rw [List.getD_eq_getElem?_getD,List.getElem?_eq_getElem hl]
 exact List.getElem_mem hl
theorem move_eq {ks:List Int} {bd:Bool} {d a:Int} (hk:∀ k ∈ ks,k=0∨k=1) :
  ((fits ks bd d 0∧fits ks bd a 0)∨(fits ks bd d 1∧fits ks bd a 1))↔isOne a ks.length∧fits ks bd d (kindAt ks a):=by
 cases bd
 ·constructor
  ·rintro (⟨h1,h2⟩ | ⟨h1,h2⟩)
   ·have e:kindAt ks a=0:=by rcases h2.2 with h | h;cases h;exact h
    rw [e];exact ⟨h2.1,h1⟩
   ·have e:kindAt ks a=1:=by rcases h2.2 with h | h;cases h;exact h
    rw [e];exact ⟨h2.1,h1⟩
  ·rintro ⟨h1,h2⟩
   rcases hk _ (kind_mem h1) with h | h
   ·rw [h] at h2;exact .inl ⟨h2,h1,.inr h⟩
   ·rw [h] at h2;exact .inr ⟨h2,h1,.inr h⟩
 ·constructor
  ·rintro (⟨h1,h2⟩ | ⟨h1,h2⟩)
   ·exact ⟨h2.1,h1.1,.inl rfl⟩
   ·exact ⟨h2.1,h1.1,.inl rfl⟩
  ·rintro ⟨h1,h2⟩
   exact .inl ⟨⟨h2.1,.inl rfl⟩,h1,.inl rfl⟩
theorem ret_eq {ks:List Int} {bd:Bool} {a:Int} {r:Bool}:(if a=-1 then r=false else r=true∧fits ks bd a 0)↔(if r=true then fits ks bd a 0 else a=-1):=by
 by_cases h:a=-1
 ·rw [if_pos h]
  cases r
  ·simp [h]
  ·rw [if_pos rfl]
   constructor
   ·intro h1;cases h1
   ·intro h1;exfalso;have:=h1.1.1;omega
 ·rw [if_neg h]
  cases r
  ·simp [h]
  ·simp
theorem rnode_eq {gs:List Gr} {g:Gr} {bd:Bool} {n:Nd} (hk:∀ k ∈ g.kinds,k=0∨k=1) (h0:0≤n.op) (h1:n.op≤255):rnode gs g bd n↔nodeHolds gs g bd n:=by
 obtain ⟨op,bop,d,e,a,b,f,cell,imm,args,nx,el⟩:=n
 have h0:0≤op:=h0
 have h1:op≤255:=h1
 unfold rnode nodeHolds
 rw [all4]
 have hm:=@move_eq g.kinds bd d a hk
 have hr:=@ret_eq g.kinds bd a g.result
 rcases op_cases h0 h1 with rfl | rfl | rfl | rfl | rfl | rfl | rfl | rfl | rfl | rfl | rfl | rfl | rfl | rfl | rfl | rfl | rfl | rfl | h
 case inr.inr.inr.inr.inr.inr.inr.inr.inr.inr.inr.inr.inr.inr.inr.inr.inr.inr =>
  constructor
  ·rintro ⟨⟨h2,h3⟩,_⟩
   have h2:1≤op:=h2
   have h3:op≤18:=h3
   omega
  ·rintro ⟨h2,_⟩
   exfalso
   unfold uses at h2
   simp only at h2
   repeat (rw [if_neg (by omega)] at h2)
   exact h2
 case inl=>simp [asked,wantOf,restOf,uses,and_comm]
 case inr.inl=>simp only [restOf,uses,if_pos];rw [hm];simp [asked,wantOf,and_comm]
 all_goals first
  | (simp [asked,wantOf,restOf,uses,and_comm,and_assoc];done)
  | (simp [asked,wantOf,restOf,uses,hr,and_comm];done)
  | skip

def rparam (g:Gr) (bd:Bool) (i:Nat):Prop :=
 isOne (g.params.getD i 0) g.kinds.length∧g.params.getD i 0 ∉ g.params.take i∧(bd=true→g.params.getD i 0=i) ∧
  -1≤g.init.getD i 0∧g.init.getD i 0<g.cells∧(0≤g.init.getD i 0→fits g.kinds bd (g.params.getD i 0) 0)
def rhead (g:Gr) (bd:Bool):Prop :=
 g.kinds.length≤1024∧(bd=true→16≤g.kinds.length)∧g.params.length≤4∧g.init.length=g.params.length∧0≤g.cells∧g.cells≤64∧-1≤g.keep∧g.keep<g.cells ∧
  (∀ k ∈ g.kinds,k≤1)∧(∀ i,i<g.params.length→rparam g bd i)∧1≤g.nodes.length∧g.nodes.length≤4096∧isOne g.entry g.nodes.length
theorem not_take {l:List Int} {i:Nat} (h:∀ j,j<l.length→l.getD j 0=j) (hi:i<l.length):l.getD i 0 ∉ l.take i:=by
 intro hm
 obtain ⟨j,hj,e⟩:=List.mem_iff_getElem.1 hm
 rw [List.length_take] at hj
 rw [List.getElem_take] at e
 have h1:=h j (by omega)
 have h2:=h i hi
 rw [List.getD_eq_getElem?_getD,List.getElem?_eq_getElem (by omega)] at h1
 simp only [Option.getD_some] at h1
 rw [h1,h2] at e
 omega
theorem rhead_eq {g:Gr} {bd:Bool} (hb:Byt g.kinds):rhead g bd↔headHolds g bd:=by
 obtain ⟨ps,ks,cells,is,res,keep,nodes,entry⟩:=g
 have hb:Byt ks:=hb
 constructor
 ·rintro ⟨h1,h2,h3,h4,h5,h6,h7,h8,h9,h10,h11,h12,h13⟩
  have h10:∀ i,i<ps.length→rparam ⟨ps,ks,cells,is,res,keep,nodes,entry⟩ bd i:=h10
  have h3:ps.length≤4:=h3
  have h4:is.length=ps.length:=h4
  have h7:-1≤keep:=h7
  have h8:keep<cells:=h8
  refine ⟨⟨h1,h2,fun k hk=>?_⟩,h5,h6,⟨h3,?_⟩,⟨h4,fun i hi=>?_⟩,?_,h12,h13⟩
  ·have:=(hb k hk).1;have:=h9 k hk;omega
  ·show if bd=true then inOrder ps else ∀ i,i<ps.length→isOne (ps.getD i 0) ks.length∧ps.getD i 0 ∉ ps.take i
   cases bd
   ·rw [if_neg (by decide)]
    intro i hi
    exact ⟨(h10 i hi).1,(h10 i hi).2.1⟩
   ·rw [if_pos rfl]
    intro i hi
    exact (h10 i hi).2.2.1 rfl
  ·have hi:i<is.length:=hi
   obtain ⟨k1,k2,k3,k4,k5,k6⟩:=h10 i (by omega)
   have k4:-1≤is.getD i 0:=k4
   have k5:is.getD i 0<cells:=k5
   by_cases hn:is.getD i 0=-1
   ·exact .inl hn
   ·have k0:0≤is.getD i 0:=by omega
    exact .inr ⟨⟨k0,k5⟩,(k6 k0).2⟩
  ·show keep=-1∨isOne keep cells
   by_cases hn:keep=-1
   ·exact .inl hn
   ·exact .inr ⟨by omega,h8⟩
 ·rintro ⟨⟨h1,h2,h9⟩,h5,h6,⟨h3,h10⟩,⟨h4,h11⟩,h7,h12,h13⟩
  have h3:ps.length≤4:=h3
  have h4:is.length=ps.length:=h4
  have h5:0≤cells:=h5
  have h7:keep=-1∨isOne keep cells:=h7
  have h10:if bd=true then inOrder ps else ∀ i,i<ps.length→isOne (ps.getD i 0) ks.length∧ps.getD i 0 ∉ ps.take i:=h10
  have h13':isOne entry nodes.length:=h13
  have h2':bd=true→16≤ks.length:=h2
  refine ⟨h1,h2,h3,h4,h5,h6,?_,?_,fun k hk=>?_,fun i hi=>?_,?_,h12,h13⟩
  ·show -1≤keep
   rcases h7 with h | h
   ·omega
   ·have:=h.1;omega
  ·show keep<cells
   rcases h7 with h | h
   ·omega
   ·exact h.2
  ·rcases h9 k hk with h | h <;> omega
  ·have hi:i<ps.length:=hi
   have h14:=h11 i (by show i<is.length;omega)
   have hone:isOne (ps.getD i 0) ks.length∧ps.getD i 0 ∉ ps.take i∧(bd=true→ps.getD i 0=i):=by
    cases bd
    ·rw [if_neg (by decide)] at h10
     exact ⟨(h10 i hi).1,(h10 i hi).2,fun h=>by cases h⟩
    ·rw [if_pos rfl] at h10
     have h15:=h10 i hi
     have h16:=h2' rfl
     refine ⟨?_,not_take h10 hi,fun _=>h15⟩
     rw [h15]
     exact ⟨by omega,by omega⟩
   refine ⟨hone.1,hone.2.1,hone.2.2,?_,?_,fun h0=>⟨hone.1,?_⟩⟩
   ·show -1≤is.getD i 0
    rcases h14 with h | h
    ·have h:is.getD i 0=-1:=h
     omega
    ·have:=h.1.1;have h:0≤is.getD i 0:=this;omega
   ·show is.getD i 0<cells
    rcases h14 with h | h
    ·have h:is.getD i 0=-1:=h
     omega
    ·exact h.1.2
   ·rcases h14 with h | h
    ·exfalso
     have h:is.getD i 0=-1:=h
     have h0:0≤is.getD i 0:=h0
     omega
    ·exact h.2
  ·show 1≤nodes.length
   have:=h13'.1;have:=h13'.2;omega
theorem own_set {w:World} {base size n c g i:Nat} {e:TypeId} {xs:List Value} {u:Value} (h:w.ownsRow base e size (.slice (some ⟨g,0,none⟩) n c) n xs):(w.setCell ⟨g,i,none⟩ u).ownsRow base e size (.slice (some ⟨g,0,none⟩) n c) n (xs.set i u):=by
 obtain ⟨h1,h2⟩:=h
 refine ⟨by rw [List.length_set];exact h1,?_⟩
 rcases h2 with ⟨h2,_⟩ | ⟨g',cap,cur,he,hg,hb,hn,hm,hc,ht⟩
 ·cases h2
 ·injection he with he hc1 hc2
  injection he with he
  injection he with he
  subst he hc2
  refine .inr ⟨g,c,cur.setIfInBounds i u,rfl,hg,Blk.set_ (t:=e) (cs:=cur) hb i u,hn,hm,by simpa using hc,?_⟩
  rw [← ht]
  simp [List.take_set]
def OwnN (w:World) (base:Nat) (i:RN):Prop:=w.ownsRow base 3 1 (.slice i.ao i.nd.args.length i.ac) i.nd.args.length (i64c i.nd.args)
structure OwnG (w:World) (base:Nat) (r:RG):Prop where
 params:w.ownsRow base 3 1 (.slice r.po r.gr.params.length r.pc) r.gr.params.length (i64c r.gr.params)
 kinds:w.ownsRow base 42 1 (.slice r.ko r.gr.kinds.length r.kc) r.gr.kinds.length (u8c r.gr.kinds)
 init:w.ownsRow base 3 1 (.slice r.io r.gr.init.length r.ic) r.gr.init.length (i64c r.gr.init)
 nodes:w.ownsRow base 47 12 (.slice r.no r.gr.nodes.length r.nc) r.gr.nodes.length (rnc r.ns)
 each:∀ i ∈ r.ns,OwnN w base i
 nd:nds r.ns=r.gr.nodes
theorem own_below {w w':World} {base size n:Nat} {e:TypeId} {v:Value} {xs:List Value} (h:w.ownsRow base e size v n xs) (hb:Below w.heap.size w w'):w'.ownsRow base e size v n xs :=
 own_kept h fun i hi=>hb.block i (own_block_le h hi).2
theorem OwnN.below {w w':World} {base:Nat} {i:RN} (h:OwnN w base i) (hb:Below w.heap.size w w'):OwnN w' base i:=own_below h hb
theorem OwnG.below {w w':World} {base:Nat} {r:RG} (h:OwnG w base r) (hb:Below w.heap.size w w'):OwnG w' base r :=
 ⟨own_below h.params hb,own_below h.kinds hb,own_below h.init hb,own_below h.nodes hb,fun i hi=>(h.each i hi).below hb,h.nd⟩
theorem OwnG.more {w:World} {base base':Nat} {r:RG} (h:OwnG w base r) (hb:base'≤base):OwnG w base' r :=
 ⟨own_more h.params hb,own_more h.kinds hb,own_more h.init hb,own_more h.nodes hb,fun i hi=>own_more (h.each i hi) hb,h.nd⟩
theorem rnc_set {ns:List RN} {k:Nat} {i:RN} (h:ns[k]?=some i) (ao:Option Addr) (ac:Nat):(rnc ns).set (k*12+9) (.slice ao i.nd.args.length ac)=rnc (ns.set k ⟨i.nd,ao,ac⟩):=by
 induction ns generalizing k with
 | nil=>cases h
 | cons x ns ih =>
  cases k with
  | zero =>
   obtain rfl:x=i:=by simpa using h
   show (rnOne x ++ rnc ns).set (0*12+9) _=rnOne _ ++ rnc ns
   rfl
  | succ k =>
   show (rnOne x ++ rnc ns).set ((k+1)*12+9) _=rnOne x ++ rnc (ns.set k _)
   rw [← ih (by simpa using h),List.set_append_right _ _ (by show 12≤_;omega)]
   congr 2
   show (k+1)*12+9-12=_
   omega
structure CgI (w:World) (r:RG) (Ap Ak Ai An:Option Addr) (cp ck ci cn nP nK nI nN:Nat) (k:Nat) (ns:List RN) (wr:World):Prop where
 box:Blk wr w.heap.size 35 #[.slice Ap nP cp,.slice Ak nK ck,.int .i64 r.gr.cells,.slice Ai nI ci,.bool r.gr.result,.int .i64 r.gr.keep,.slice An nN cn,.int .i64 r.gr.entry]
 res:Blk wr (w.heap.size+1) 35 #[.slice none 0 0,.slice none 0 0,.int .i64 0,.slice none 0 0,.bool false,.int .i64 0,.slice none 0 0,.int .i64 0]
 params:wr.ownsRow w.heap.size 3 1 (.slice Ap nP cp) nP (i64c r.gr.params)
 kinds:wr.ownsRow w.heap.size 42 1 (.slice Ak nK ck) nK (u8c r.gr.kinds)
 init:wr.ownsRow w.heap.size 3 1 (.slice Ai nI ci) nI (i64c r.gr.init)
 nodes:wr.ownsRow w.heap.size 47 12 (.slice An nN cn) nN (rnc ns)
 nd:nds ns=r.gr.nodes
 new:∀ j i,j<k→ns[j]?=some i→OwnN wr w.heap.size i
 old:∀ j,k≤j→ns[j]?=r.ns[j]?
 below:Below w.heap.size w wr
theorem CgI.step {w:World} {r:RG} {Ap Ak Ai An:Option Addr} {cp ck ci cn nP nK nI nN k g c':Nat} {A':Option Addr} {ns:List RN} {wr w2:World} {i:RN} (h:CgI w r Ap Ak Ai An cp ck ci cn nP nK nI nN k ns wr) (hi:ns[k]?=some i) (hA:An=some ⟨g,0,none⟩) (hb:Below wr.heap.size wr w2)
  (ho:w2.ownsRow wr.heap.size 3 1 (.slice A' i.nd.args.length c') i.nd.args.length (i64c i.nd.args)) :
  CgI w r Ap Ak Ai An cp ck ci cn nP nK nI nN (k+1) (ns.set k ⟨i.nd,A',c'⟩) (w2.setCell ⟨g,k*12+9,none⟩ (.slice A' i.nd.args.length c')):=by
 subst hA
 have hn2:=own_below h.nodes hb
 obtain ⟨cur,hcur⟩:=own_blk hn2
 have hx2:=h.box.below hb h.box.lt
 have hy2:=h.res.below hb h.res.lt
 have hz:=h.below.size
 have hbl2:=h.below.trans (hb.mono hz)
 have hkl:k<ns.length:=(List.getElem?_eq_some_iff.1 hi).1
 have hgb:w.heap.size≤g:=(own_block_le hn2 (i:=g) (by rfl)).1
 refine ⟨hx2.far (p:=⟨g,k*12+9,none⟩) (hx2.ne_ hcur (by decide)) _,hy2.far (p:=⟨g,k*12+9,none⟩) (hy2.ne_ hcur (by decide)) _,own_far (own_below h.params hb) hcur (by decide) _ _,own_far (own_below h.kinds hb) hcur (by decide) _ _,own_far (own_below h.init hb) hcur (by decide) _ _,?_,?_,?_,?_,hbl2.setCell (p:=⟨g,k*12+9,none⟩) hgb _⟩
 ·have:=own_set (i:=k*12+9) (u:=.slice A' i.nd.args.length c') hn2
  rwa [rnc_set hi] at this
 ·rw [← h.nd]
  unfold nds
  rw [List.map_set]
  show (ns.map RN.nd).set k i.nd=_
  refine List.ext_getElem? fun j=>?_
  rw [List.getElem?_set]
  split
  ·rename_i hkj
   subst hkj
   rw [List.getElem?_map,hi]
   simp [hkl]
  ·rfl
 ·intro j i' hj hij
  rw [List.getElem?_set] at hij
  split at hij
  ·rename_i hkj
   subst hkj
   injection hij with hij
   subst hij
   exact own_far (own_more ho hz) hcur (by decide) _ _
  ·rename_i hkj
   exact own_far (own_below (h.new j i' (by omega) hij) hb) hcur (by decide) _ _
 ·intro j hj
  rw [List.getElem?_set,if_neg (by omega)]
  exact h.old j (by omega)
theorem OwnG.set {w:World} {base p j:Nat} {r:RG} {u:Value} {cs:Array Value} (h:OwnG w base r) (hb:Blk w p 35 cs):OwnG (w.setCell ⟨p,j,none⟩ u) base r :=
 ⟨own_far h.params hb (by decide) _ _,own_far h.kinds hb (by decide) _ _,own_far h.init hb (by decide) _ _,own_far h.nodes hb (by decide) _ _,fun i hi=>own_far (h.each i hi) hb (by decide) _ _,h.nd⟩
theorem blk_2nd (w:World) (a b:Array Value) (s t:TypeId):Blk ((w.alloc (.cells a s)).alloc (.cells b t)) (w.heap.size+1) t b:=by
 have:=Blk.new (w.alloc (.cells a s)) t b
 rwa [show (w.alloc (.cells a s)).heap.size=w.heap.size+1 by simp] at this
end Go.Proofs.YtedmcfaghfgpoaaGreatDoor
