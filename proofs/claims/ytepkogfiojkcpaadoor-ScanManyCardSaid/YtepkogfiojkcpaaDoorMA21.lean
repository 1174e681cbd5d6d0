/-
  Texts of one seat, one behind the other: Mk.
-/
import Derived.Deep.DeepCutAuto
import Derived.Test.YtepkogfiojkcpaaDoorMA20

set_option linter.unusedVariables false
set_option linter.unusedSimpArgs false
set_option maxRecDepth 100000
set_option maxHeartbeats 51200000
namespace Go.Proofs.YtepkogfiojkcpaaDoor
open Go.ChangeShapes Go.WideShapes Go.ChangeAt Go.RowKit
theorem many_walk (n:Int) (b:Bool) (w:World) (hT:TzTab w):Calls Tryd.prog 4 #[.int .i64 n,.bool b] w fun e w'=>e=.returned (.bool true)∧Below w.heap.size w w':=by
 have HF:=Lib.hid (jfirst_any w hT)
 have HT:=Lib.hid hT
 have hU:∀ v:Int,0≤IntKind.u64.wrap v:=fun v=>by rw [IntKind.wrap_u64];omega
 obtain ⟨K0,gK⟩:∃ K0:Nat,(IntKind.u64.wrap n).tmod 40=(K0:Int):=⟨((IntKind.u64.wrap n).tmod 40).toNat,by have:=hU n;rw [Int.tmod_eq_emod_of_nonneg this];omega⟩
 have hK0:K0<40:=by have:=hU n;rw [Int.tmod_eq_emod_of_nonneg this] at gK;omega
 obtain ⟨k,hk⟩:∃ k,k=1+K0:=⟨_,rfl⟩
 have gk:(1:Int)+(K0:Int)=(k:Int):=by omega
 have hk1:1≤k∧k≤40:=by omega
 have hmk:∀ W:World,(Instr.makeSlice 35 (.int .i64 k) (.int .i64 k)).run Tryd.prog W=.ok (.slice (some ⟨W.heap.size,0,none⟩) k k) (W.alloc (.cells (madeCells #[.int .u8 0] k) 64)):=fun W=>run_make_row' _ _ _ 1 Tryd.underlying35 info_k8 rfl .i64 .i64 k (by omega) (by omega) W
 obtain ⟨c,hc⟩:∃ c:Nat,c=if b=true then 1 else 0:=⟨_,rfl⟩
 have HC:Hid (c=if b=true then 1 else 0):=Lib.hid hc
 have hc1:c≤1:=by rw [hc];split <;> omega
 clear hU hK0 hk hT hc
 go_enter Tryd.func4,Tryd.ntmps4
 go_wp2_with (go_at_call 13;refine HF.out.mono ?_;rintro e w1 ⟨rfl,hb1⟩;have HB1:=Lib.hid hb1;clear hb1)
 have HI0:Hid (MkI w1 w1.heap.size (w1.heap.size+1) k 0 (mS k c 0 0) none 0 ((w1.alloc (.cells (madeCells #[.int .u8 0] k) 64)).alloc (.cells #[.slice none 0 0,.slice (some ⟨w1.heap.size,0,none⟩) k k,.int .i64 0,.slice none 0 0,.bool false,.int .i64 (-1),.slice none 0 0,.int .i64 0] 38))):=Lib.hid (MkI.start w1 k)
 obtain ⟨z,hz⟩:∃ z,z=w1.heap.size:=⟨_,rfl⟩
 obtain ⟨pf,hpf⟩:∃ p,p=z+1:=⟨_,rfl⟩
 rw [← hz] at HI0 ⊢
 rw [← hpf] at HI0 ⊢
 clear hz hpf
 go_loopw [28] (fun i wr=>∃ (j:Nat) (A:Option Addr) (cp:Nat),j≤k∧i=.int .i64 j∧Hid (MkI w1 z pf k j (mS k c j 0) A cp wr)) (fun i _=>k-(intOf i).toNat)
 case atStart=>exact ⟨0,none,0,by omega,rfl,HI0⟩
 case round =>
  clear HI0
  obtain ⟨j,A,cp,hj,rfl,HI⟩:=hrel
  by_cases hlt:j<k
  ·have HN:Hid (mS k c j 0 ++ [(⟨16,0,(j:Int),0,0,0,0,0,0,[],0,0⟩:Nd)]=mS k c (j+1) 0):=Lib.hid (by rw [mS_succ,mN_in hlt];rfl)
   have HRd:Hid (Reads (wr.alloc (.cells #[.int .u8 16,.int .u8 0,.int .i64 j,.int .i64 0,.int .i64 0,.int .i64 0,.int .i64 0,.int .i64 0,.int .u64 0,.slice none 0 0,.int .i64 0,.int .i64 0] 60)) (wr.heap.size+1) 12 (some ⟨wr.heap.size,0,none⟩) 1 (rnOne (mrn ⟨16,0,(j:Int),0,0,0,0,0,0,[],0,0⟩))):=Lib.hid (one_reads wr 60 (rnOne (mrn ⟨16,0,(j:Int),0,0,0,0,0,0,[],0,0⟩)) 12 rfl)
   have HA:∀ o,Hid ((wr.alloc o).ownsRow (pf+1) 60 12 (.slice A j cp) j (rnc ((mS k c j 0).map mrn))):=fun o=>Lib.hid (own_alloc HI.out.own o)
   have g6:∀ o,(wr.alloc o).cell? ⟨pf,6,none⟩=some (.slice A j cp):=fun o=>(HI.out.gr.alloc o).cell 6
   have g6':wr.cell? ⟨pf,6,none⟩=some (.slice A j cp):=HI.out.gr.cell 6
   have hz0:=HI.out.below.size
   have hp0:=HI.out.gr.lt
   go_wp2_with (at_builtin;refine app_node rfl (.tmp 32) (.tmp 35) rfl (pf+1) (.slice A j cp) j (rnc ((mS k c j 0).map mrn)) rfl (HA _).out (wr.heap.size+1) (some ⟨wr.heap.size,0,none⟩) 1 1 (rnOne (mrn ⟨16,0,(j:Int),0,0,0,0,0,0,[],0,0⟩)) rfl HRd.out (rnOne_one _) (by omega) (by simp;omega) ?_;intro v' w8 hown hgr hor;obtain ⟨A8,c8,rfl,f8,⟨y8,hy8⟩,HI8⟩:=HI.out.push ⟨16,0,(j:Int),0,0,0,0,0,0,[],0,0⟩ hown hgr;clear hown hgr hor)
   rw [HN.out] at HI8
   go_roundw
   case rel=>exact ⟨j+1,A8,c8,by omega,by go_num,HI8⟩
   case measure=>simp [intOf];omega
  ·obtain hjk:j=k:=by omega
   rw [hjk] at HI
   clear hjk
   go_upto_if 39 with fail
   go_cut [] (fun wx=>∃ A cp,Hid (MkI w1 z pf k (k+c) (mS k c (k+c) 0) A cp wx))
   case first =>
    cases b with
    | false =>
     have hc0:c=0:=by have:=HC.out;simpa using this
     go_wp2
     go_meet
     exact ⟨A,cp,by rw [hc0,Nat.add_zero];rw [hc0] at HI;exact HI⟩
    | true =>
     have hc0:c=1:=by have:=HC.out;simpa using this
     have HN:Hid (mS k c k 0 ++ [(⟨11,0,-1,0,0,0,1,0,0,[],0,0⟩:Nd)]=mS k c (k+1) 0):=Lib.hid (by rw [mS_succ,mN_call (Nat.le_refl _) (by omega)];rfl)
     have HC1:=Lib.hid hc0
     clear hc0
     have HRd:Hid (Reads (wr.alloc (.cells #[.int .u8 11,.int .u8 0,.int .i64 (-1),.int .i64 0,.int .i64 0,.int .i64 0,.int .i64 1,.int .i64 0,.int .u64 0,.slice none 0 0,.int .i64 0,.int .i64 0] 60)) (wr.heap.size+1) 12 (some ⟨wr.heap.size,0,none⟩) 1 (rnOne (mrn ⟨11,0,-1,0,0,0,1,0,0,[],0,0⟩))):=Lib.hid (one_reads wr 60 (rnOne (mrn ⟨11,0,-1,0,0,0,1,0,0,[],0,0⟩)) 12 rfl)
     have HA:∀ o,Hid ((wr.alloc o).ownsRow (pf+1) 60 12 (.slice A k cp) k (rnc ((mS k c k 0).map mrn))):=fun o=>Lib.hid (own_alloc HI.out.own o)
     have g6:∀ o,(wr.alloc o).cell? ⟨pf,6,none⟩=some (.slice A k cp):=fun o=>(HI.out.gr.alloc o).cell 6
     have g6':wr.cell? ⟨pf,6,none⟩=some (.slice A k cp):=HI.out.gr.cell 6
     have hz0:=HI.out.below.size
     have hp0:=HI.out.gr.lt
     go_wp2_with (at_builtin;refine app_node rfl (.tmp 41) (.tmp 43) rfl (pf+1) (.slice A k cp) k (rnc ((mS k c k 0).map mrn)) rfl (HA _).out (wr.heap.size+1) (some ⟨wr.heap.size,0,none⟩) 1 1 (rnOne (mrn ⟨11,0,-1,0,0,0,1,0,0,[],0,0⟩)) rfl HRd.out (rnOne_one _) (by omega) (by simp;omega) ?_;intro v' w8 hown hgr hor;obtain ⟨A8,c8,rfl,f8,⟨y8,hy8⟩,HI8⟩:=HI.out.push ⟨11,0,-1,0,0,0,1,0,0,[],0,0⟩ hown hgr;clear hown hgr hor)
     rw [HN.out] at HI8
     go_meet
     exact ⟨A8,c8,by rw [HC1.out] at HI8 ⊢;exact HI8⟩
   case rest =>
    clear HI A cp
    obtain ⟨A,cp,HI⟩:=hcut
    obtain ⟨m0,hm0⟩:∃ m0,m0=k+c:=⟨_,rfl⟩
    rw [← hm0] at HI
    have HM0:=Lib.hid hm0
    have hm1:m0≤41:=by omega
    clear hm0
    go_wp2
    go_loopw [47] (fun i wr=>∃ (j:Nat) (A:Option Addr) (cp:Nat),j≤k∧i=.int .i64 j∧Hid (MkI w1 z pf k (m0+j) (mS k c (m0+j) 0) A cp wr)) (fun i _=>k-(intOf i).toNat)
    case atStart=>exact ⟨0,A,cp,by omega,rfl,HI⟩
    case round =>
     clear HI A cp
     obtain ⟨j,A,cp,hj,rfl,HI⟩:=hrel
     by_cases hlt:j<k
     ·have HN:Hid (mS k c (m0+j) 0 ++ [(⟨17,0,0,0,(j:Int),0,0,0,0,[],0,0⟩:Nd)]=mS k c (m0+(j+1)) 0):=Lib.hid (by rw [show m0+(j+1)=m0+j+1 by omega,mS_succ,mN_out (by rw [HM0.out];omega),show m0+j-(k+c)=j by rw [HM0.out];omega];rfl)
      obtain ⟨q,hq⟩:∃ q,q=m0+j:=⟨_,rfl⟩
      rw [← hq] at HI HN
      have HQ:=Lib.hid hq
      have hq1:q≤90:=by omega
      clear hq
      have HRd:Hid (Reads (wr.alloc (.cells #[.int .u8 17,.int .u8 0,.int .i64 0,.int .i64 0,.int .i64 j,.int .i64 0,.int .i64 0,.int .i64 0,.int .u64 0,.slice none 0 0,.int .i64 0,.int .i64 0] 60)) (wr.heap.size+1) 12 (some ⟨wr.heap.size,0,none⟩) 1 (rnOne (mrn ⟨17,0,0,0,(j:Int),0,0,0,0,[],0,0⟩))):=Lib.hid (one_reads wr 60 (rnOne (mrn ⟨17,0,0,0,(j:Int),0,0,0,0,[],0,0⟩)) 12 rfl)
      have HA:∀ o,Hid ((wr.alloc o).ownsRow (pf+1) 60 12 (.slice A q cp) q (rnc ((mS k c q 0).map mrn))):=fun o=>Lib.hid (own_alloc HI.out.own o)
      have g6:∀ o,(wr.alloc o).cell? ⟨pf,6,none⟩=some (.slice A q cp):=fun o=>(HI.out.gr.alloc o).cell 6
      have g6':wr.cell? ⟨pf,6,none⟩=some (.slice A q cp):=HI.out.gr.cell 6
      have hz0:=HI.out.below.size
      have hp0:=HI.out.gr.lt
      go_wp2_with (at_builtin;refine app_node rfl (.tmp 51) (.tmp 54) rfl (pf+1) (.slice A q cp) q (rnc ((mS k c q 0).map mrn)) rfl (HA _).out (wr.heap.size+1) (some ⟨wr.heap.size,0,none⟩) 1 1 (rnOne (mrn ⟨17,0,0,0,(j:Int),0,0,0,0,[],0,0⟩)) rfl HRd.out (rnOne_one _) (by omega) (by simp;omega) ?_;intro v' w8 hown hgr hor;obtain ⟨A8,c8,rfl,f8,⟨y8,hy8⟩,HI8⟩:=HI.out.push ⟨17,0,0,0,(j:Int),0,0,0,0,[],0,0⟩ hown hgr;clear hown hgr hor)
      rw [HN.out] at HI8
      have HI9:Hid (MkI w1 z pf k (m0+(j+1)) (mS k c (m0+(j+1)) 0) A8 c8 (w8.setCell ⟨pf,6,none⟩ (.slice A8 (q+1) c8))):=Lib.hid (by have h:=HI8.out;rw [show q+1=m0+(j+1) by rw [HQ.out];omega] at h ⊢;exact h)
      go_roundw
      case rel=>exact ⟨j+1,A8,c8,by omega,by go_num,HI9⟩
      case measure=>simp [intOf];omega
     ·obtain hjk:j=k:=by omega
      rw [hjk] at HI
      clear hjk
      obtain ⟨N,hN⟩:∃ N,N=m0+k:=⟨_,rfl⟩
      rw [← hN] at HI
      have hN1:N≤81:=by omega
      have HNN:Hid (N=2*k+c):=Lib.hid (by rw [hN,HM0.out];omega)
      clear hN
      have g6:wr.cell? ⟨pf,6,none⟩=some (.slice A N cp):=HI.out.gr.cell 6
      go_wp2
      go_loopw [61] (fun i wr=>∃ (j:Nat),j≤N∧i=.int .i64 j∧Hid (MkI w1 z pf k N (mS k c N j) A cp wr)) (fun i _=>N-(intOf i).toNat)
      case atStart=>exact ⟨0,by omega,rfl,HI⟩
      case round =>
       clear HI g6
       obtain ⟨j,hj,rfl,HI⟩:=hrel
       have g6:wr.cell? ⟨pf,6,none⟩=some (.slice A N cp):=HI.out.gr.cell 6
       by_cases hlt:j<N
       ·have hn:(mS k c N j)[j]?=some (mN k c j 0):=by rw [mS_at hlt];unfold mX;rw [if_neg (by omega)]
        obtain ⟨g,rfl,f1,⟨y1,hy1⟩,HNX⟩:=HI.out.next_ hn
        have HI8:=Lib.hid (HNX.out ((j:Int)+1))
        rw [mN_with,show ((j:Int)+1)=((j+1:Nat):Int) by omega,mS_set hlt,show ((j+1:Nat):Int)=(j:Int)+1 by omega] at HI8
        clear HNX hn
        go_wp2
        go_roundw
        case rel=>exact ⟨j+1,by omega,by go_num,HI8⟩
        case measure=>simp [intOf];omega
       ·obtain hjk:j=N:=by omega
        rw [hjk] at HI
        clear hjk
        have HRd:Hid (Reads (wr.alloc (.cells #[.int .u8 12,.int .u8 0,.int .i64 0,.int .i64 0,.int .i64 (-1),.int .i64 0,.int .i64 0,.int .i64 0,.int .u64 0,.slice none 0 0,.int .i64 0,.int .i64 0] 60)) (wr.heap.size+1) 12 (some ⟨wr.heap.size,0,none⟩) 1 (rnOne (mrn mRet))):=Lib.hid (one_reads wr 60 (rnOne (mrn mRet)) 12 rfl)
        have HA:∀ o,Hid ((wr.alloc o).ownsRow (pf+1) 60 12 (.slice A N cp) N (rnc ((mS k c N N).map mrn))):=fun o=>Lib.hid (own_alloc HI.out.own o)
        have g6:∀ o,(wr.alloc o).cell? ⟨pf,6,none⟩=some (.slice A N cp):=fun o=>(HI.out.gr.alloc o).cell 6
        have g6':wr.cell? ⟨pf,6,none⟩=some (.slice A N cp):=HI.out.gr.cell 6
        have hz0:=HI.out.below.size
        have hp0:=HI.out.gr.lt
        go_upto_region 23 with (at_builtin;refine app_node rfl (.tmp 73) (.tmp 75) rfl (pf+1) (.slice A N cp) N (rnc ((mS k c N N).map mrn)) rfl (HA _).out (wr.heap.size+1) (some ⟨wr.heap.size,0,none⟩) 1 1 (rnOne (mrn mRet)) rfl HRd.out (rnOne_one _) (by omega) (by simp;omega) ?_;intro v' w8 hown hgr hor;obtain ⟨A8,c8,rfl,f8,⟨y8,hy8⟩,HI8⟩:=HI.out.push mRet hown hgr;clear hown hgr hor)
        obtain ⟨wA,hwA⟩:∃ x,x=w8.setCell ⟨pf,6,none⟩ (.slice A8 (N+1) c8):=⟨_,rfl⟩
        rw [← hwA] at HI8 ⊢
        clear hwA f8 hy8 y8 g6 g6' HA HRd hz0 hp0
        have HJ:Hid (MkI w1 z pf k (2*k+c+1) (mG k c).nodes A8 c8 wA):=Lib.hid (by
         have h:=HI8.out
         rw [HNN.out] at h
         exact h)
        have v0:wA.cell? ⟨pf,0,none⟩=some (.slice none 0 0):=HI8.out.gr.cell 0
        have v1:wA.cell? ⟨pf,1,none⟩=some (.slice (some ⟨z,0,none⟩) k k):=HI8.out.gr.cell 1
        have v2:wA.cell? ⟨pf,2,none⟩=some (.int .i64 0):=HI8.out.gr.cell 2
        have v3:wA.cell? ⟨pf,3,none⟩=some (.slice none 0 0):=HI8.out.gr.cell 3
        have v4:wA.cell? ⟨pf,4,none⟩=some (.bool false):=HI8.out.gr.cell 4
        have v5:wA.cell? ⟨pf,5,none⟩=some (.int .i64 (-1)):=HI8.out.gr.cell 5
        have v6:wA.cell? ⟨pf,6,none⟩=some (.slice A8 (N+1) c8):=HI8.out.gr.cell 6
        have v7:wA.cell? ⟨pf,7,none⟩=some (.int .i64 0):=HI8.out.gr.cell 7
        have hk0:0<k:=hk1.1
        have HV:Hid (valid (grs [mrgG k c z A8 c8,mrgH wA.heap.size]) false):=Lib.hid (mvalid hk0 hk1.2 hc1)
        have HB2:Hid (Below wA.heap.size wA ((wA.alloc (.cells #[.int .u8 12,.int .u8 0,.int .i64 0,.int .i64 0,.int .i64 (-1),.int .i64 0,.int .i64 0,.int .i64 0,.int .u64 0,.slice none 0 0,.int .i64 0,.int .i64 0] 60)).alloc (.cells #[.slice none 0 0,.slice (some ⟨z,0,none⟩) k k,.int .i64 0,.slice none 0 0,.bool false,.int .i64 (-1),.slice A8 (N+1) c8,.int .i64 0,.slice none 0 0,.slice none 0 0,.int .i64 0,.slice none 0 0,.bool false,.int .i64 (-1),.slice (some ⟨wA.heap.size,0,none⟩) 1 1,.int .i64 0] 38))):=Lib.hid (((Below.refl _ _).alloc (Nat.le_refl _) _).alloc (by simp) _)
        have HRP:Hid (RdP ((wA.alloc (.cells #[.int .u8 12,.int .u8 0,.int .i64 0,.int .i64 0,.int .i64 (-1),.int .i64 0,.int .i64 0,.int .i64 0,.int .u64 0,.slice none 0 0,.int .i64 0,.int .i64 0] 60)).alloc (.cells #[.slice none 0 0,.slice (some ⟨z,0,none⟩) k k,.int .i64 0,.slice none 0 0,.bool false,.int .i64 (-1),.slice A8 (N+1) c8,.int .i64 0,.slice none 0 0,.slice none 0 0,.int .i64 0,.slice none 0 0,.bool false,.int .i64 (-1),.slice (some ⟨wA.heap.size,0,none⟩) 1 1,.int .i64 0] 38)) (wA.heap.size+2) (some ⟨wA.heap.size+1,0,none⟩) 2 [mrgG k c z A8 c8,mrgH wA.heap.size]):=Lib.hid (by
         refine m_rd hk0 hk1.2 hc1 HJ.out HB2.out (Nat.le_refl _) ((Blk.new wA _ _).alloc _) ?_
         have h:=Blk.new (wA.alloc (.cells #[.int .u8 12,.int .u8 0,.int .i64 0,.int .i64 0,.int .i64 (-1),.int .i64 0,.int .i64 0,.int .i64 0,.int .u64 0,.slice none 0 0,.int .i64 0,.int .i64 0] 60)) 38 #[.slice none 0 0,.slice (some ⟨z,0,none⟩) k k,.int .i64 0,.slice none 0 0,.bool false,.int .i64 (-1),.slice A8 (N+1) c8,.int .i64 0,.slice none 0 0,.slice none 0 0,.int .i64 0,.slice none 0 0,.bool false,.int .i64 (-1),.slice (some ⟨wA.heap.size,0,none⟩) 1 1,.int .i64 0]
         rw [show (wA.alloc (.cells #[.int .u8 12,.int .u8 0,.int .i64 0,.int .i64 0,.int .i64 (-1),.int .i64 0,.int .i64 0,.int .i64 0,.int .u64 0,.slice none 0 0,.int .i64 0,.int .i64 0] 60)).heap.size=wA.heap.size+1 by simp] at h
         rw [HNN.out] at h ⊢
         exact h)
        have HAS:=Lib.hid (asg_any (wA.heap.size+2) (some ⟨wA.heap.size+1,0,none⟩) 2 2 _ 0 _ HRP.out (by simp) ((HT.out.below (HB1.out.trans (HJ.out.below.mono HB1.out.size))).below HB2.out))
        have HBW:Hid (Below w.heap.size w ((wA.alloc (.cells #[.int .u8 12,.int .u8 0,.int .i64 0,.int .i64 0,.int .i64 (-1),.int .i64 0,.int .i64 0,.int .i64 0,.int .u64 0,.slice none 0 0,.int .i64 0,.int .i64 0] 60)).alloc (.cells #[.slice none 0 0,.slice (some ⟨z,0,none⟩) k k,.int .i64 0,.slice none 0 0,.bool false,.int .i64 (-1),.slice A8 (N+1) c8,.int .i64 0,.slice none 0 0,.slice none 0 0,.int .i64 0,.slice none 0 0,.bool false,.int .i64 (-1),.slice (some ⟨wA.heap.size,0,none⟩) 1 1,.int .i64 0] 38))):=Lib.hid ((HB1.out.trans (HJ.out.below.mono HB1.out.size)).trans (HB2.out.mono (Nat.le_trans HB1.out.size HJ.out.below.size)))
        have HMI:=Lib.hid (many_asg hk0 hk1.2 hc1)
        clear HI HI8 HJ HRP HB2 HM0 hm1 HF HT
        go_upto_region 24 with (go_at_call 14;refine HAS.out.mono ?_;rintro e w2 hl;obtain ⟨hb2,b2,rfl,hg2,hk2⟩:=AsPost.ok (k:=0) (g:=mG k c) hl HV.out rfl;rw [show (mG k c).kinds.length=k from List.length_replicate] at hk2 ⊢;have HK2:=Lib.hid hk2;have HW2:=Lib.hid (HBW.out.trans (hb2.mono HBW.out.size));clear hl hb2 hk2 hg2)
        obtain ⟨L,hL⟩:∃ L,L=asgG (mG k c):=⟨_,rfl⟩
        rw [← hL] at HK2 HMI
        clear hL HAS HBW HV v0 v1 v2 v3 v4 v5 v6 v7 HB1 HNN
        go_wp2
        go_loopw [98,12] (fun i t wr=>∃ q s:Nat,q≤k∧s≤q∧Hid (k≤6→s=0)∧i=.int .i64 q∧t=.int .i64 s∧wr=w2) (fun i _ _=>k-(intOf i).toNat)
        case atStart=>exact ⟨0,0,by omega,by omega,Lib.hid (fun _=>rfl),rfl,rfl,rfl⟩
        case round =>
         obtain ⟨q,s,hq,hs,HS,rfl,rfl,rfl⟩:=hrel
         by_cases hlt:q<k
         ·have hd:=HMI.out.dom q hlt
          have HTW:Hid (∀ r,r<q→L q≠L r):=Lib.hid fun r hr=>HMI.out.two q r hlt (by omega) (by omega)
          have z0:wr.cell? ⟨b2,q,none⟩=some (.int .i64 (L q)):=by rw [HK2.out.cell];exact rowA_at _ hlt
          obtain ⟨x,hxx⟩:∃ x,x=L q:=⟨_,rfl⟩
          rw [← hxx] at hd z0 HTW
          clear hxx
          obtain ⟨d1,d2,d3,d4,d5⟩:=hd
          have d6:b=true→6≤x:=fun hb=>d4 (by rw [HC.out,if_pos hb])
          have g1:¬ x<0:=by omega
          have HD5:=Lib.hid d5
          have d7:¬ x<6∨b=false:=by
           cases b with
           | false=>exact .inr rfl
           | true=>exact .inl (by have:=d6 rfl;omega)
          clear d4 d5 d6
          rcases d2 with d2 | d2
          ·have g2:¬ x > 11:=by omega
           have g4:¬ x≥16:=by omega
           rcases d7 with g5 | g5
           all_goals cases b
           all_goals first | (cases g5;done) | skip
           all_goals
            go_wp2
            obtain ⟨wo,rfl⟩:∃ wo,wo=wr:=⟨_,rfl⟩
            go_loopw [128] (fun i wx=>∃ r:Nat,r≤q∧i=.int .i64 r∧wx=wo) (fun i _=>q-(intOf i).toNat)
            case atStart=>exact ⟨0,by omega,rfl,rfl⟩
            case round =>
             obtain ⟨r,hr,rfl,rfl⟩:=hrel
             by_cases hrq:r<q
             ·have z1:wr.cell? ⟨b2,r,none⟩=some (.int .i64 (L r)):=by rw [HK2.out.cell];exact rowA_at _ (by omega)
              have hne:=HTW.out r hrq
              obtain ⟨y,hy⟩:∃ y,y=L r:=⟨_,rfl⟩
              rw [← hy] at z1 hne
              have g9:(x == y)=false:=beq_eq_false_iff_ne.2 hne
              clear hy hne
              go_wp2
              go_roundw
              case rel=>exact ⟨r+1,by omega,by go_num,by trivial⟩
              case measure=>simp [intOf] <;> omega
             ·have hrq2:r=q:=by omega
              go_wp2
              go_roundw
              case rel=>exact ⟨q+1,s,by omega,by omega,Lib.hid (HS.out),by go_num,by first | rfl | go_num,by trivial⟩
              case measure=>simp [intOf] <;> omega
          ·have g2:x > 11:=by omega
           have g3:¬ x<16:=by omega
           have g4:x≥16:=by omega
           have HS2:Hid (k≤6→s+1=0):=Lib.hid fun h=>by have:=HD5.out h;omega
           rcases d7 with g5 | g5
           all_goals cases b
           all_goals first | (cases g5;done) | skip
           all_goals
            go_wp2
            obtain ⟨wo,rfl⟩:∃ wo,wo=wr:=⟨_,rfl⟩
            go_loopw [128] (fun i wx=>∃ r:Nat,r≤q∧i=.int .i64 r∧wx=wo) (fun i _=>q-(intOf i).toNat)
            case atStart=>exact ⟨0,by omega,rfl,rfl⟩
            case round =>
             obtain ⟨r,hr,rfl,rfl⟩:=hrel
             by_cases hrq:r<q
             ·have z1:wr.cell? ⟨b2,r,none⟩=some (.int .i64 (L r)):=by rw [HK2.out.cell];exact rowA_at _ (by omega)
              have hne:=HTW.out r hrq
              obtain ⟨y,hy⟩:∃ y,y=L r:=⟨_,rfl⟩
              rw [← hy] at z1 hne
              have g9:(x == y)=false:=beq_eq_false_iff_ne.2 hne
              clear hy hne
              go_wp2
              go_roundw
              case rel=>exact ⟨r+1,by omega,by go_num,by trivial⟩
              case measure=>simp [intOf] <;> omega
             ·have hrq2:r=q:=by omega
              go_wp2
              go_roundw
              case rel=>exact ⟨q+1,s+1,by omega,by omega,Lib.hid (HS2.out),by go_num,by first | rfl | go_num,by trivial⟩
              case measure=>simp [intOf] <;> omega
         ·have hqk:q=k:=by omega
          by_cases h6:k≤6
          ·obtain rfl:s=0:=HS.out h6
           have g1:¬ k > 6:=by omega
           have g2:¬ (k:Int) > 6:=by omega
           clear hqk
           go_wp2
           first | go_end0 | go_ret
           exact ⟨rfl,HW2.out⟩
          ·have g1:k > 6:=by omega
           have g2:(k:Int) > 6:=by omega
           clear hqk
           go_wp2
           first | go_end0 | go_ret
           exact ⟨rfl,HW2.out⟩
end Go.Proofs.YtepkogfiojkcpaaDoor
