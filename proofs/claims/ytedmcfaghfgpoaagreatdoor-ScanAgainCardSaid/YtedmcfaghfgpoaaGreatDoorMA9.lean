/-
  Texts of one seat, one behind the other: LSp, LAt, Ch, Cwa.
-/
import Derived.Deep.LoopGhost
import Derived.Deep.RegionLaw
import Derived.Deep.DeepCutAuto
import Derived.Deep.RegionHeld3
import Derived.Test.YtedmcfaghfgpoaaGreatDoorMA8

set_option linter.unusedVariables false
set_option linter.unusedSimpArgs false
set_option maxRecDepth 100000
set_option maxHeartbeats 51200000
namespace Go.Proofs.YtedmcfaghfgpoaaGreatDoor
open Go.ChangeShapes Go.WideShapes Go.ChangeAt Go.RowKit
theorem llens (n:Nd):(writesOf n).length≤2:=by
 have:=addL_len [] (writeF n)
 unfold writesOf
 have h2:(writeF n).length≤2:=by unfold writeF;split <;> (try split) <;> simp
 simp at this
 omega
theorem lown_cut {W:World} {base size n k c:Nat} {e:TypeId} {A:Option Addr} {xs:List Value} (h:W.ownsRow base e size (.slice A n c) n xs) (hk:k≤n):W.ownsRow base e size (.slice A k c) k (xs.take (k*size)):=by
 have hl:=h.1
 refine ⟨by rw [List.length_take,hl];exact Nat.min_eq_left (Nat.mul_le_mul_right _ hk),?_⟩
 rcases h.2 with ⟨he,h0⟩ | ⟨g,cap,cur,he,hb,hh,hnc,hcm,hcs,hx⟩
 ·injection he with h1 h2 h3
  subst h1 h3
  have:k=0:=by omega
  subst this
  exact .inl ⟨rfl,rfl⟩
 ·injection he with h1 h2 h3
  subst h1 h3
  refine .inr ⟨g,c,cur,rfl,hb,hh,by omega,hcm,hcs,?_⟩
  rw [← hx,List.take_take,Nat.min_eq_left (Nat.mul_le_mul_right _ hk)]
theorem lown_cut1 {W:World} {base c L:Nat} {A:Option Addr} {init:List Int} {x:Int} (h:W.ownsRow base 3 1 (.slice A (L+1) c) (L+1) (i64c (init ++ [x]))) (hL:init.length=L):W.ownsRow base 3 1 (.slice A L c) L (i64c init):=by
 have h1:=lown_cut h (Nat.le_succ L)
 rw [Nat.mul_one,i64c_append,List.take_append_of_le_length (by rw [length_i64c];omega),List.take_of_length_le (by rw [length_i64c];omega)] at h1
 exact h1
theorem all_in (x:List Int):∀ y ∈ i64c x,y.oneCell'=true:=i64c_one x
theorem spread_any {ns:List Nd} {nd:Nd} (E base bb R1 R2 R n q m:Nat) (vs:Nat→Value) (ls:Nat→List Int) (wss:List (List Nat)) (p r:Nat) (w:World) (h:BwI w E base bb R1 R2 R n q m vs ls wss) (hns:ns.length=n) (hn:n≤4096)
  (hlb:∀ i,i<n→ls (2*i)=(befK n ns n).getD i []) (hlw:∀ i x,ns[i]?=some x→ls (2*i+1)=writesOf x) (hv:NextIn ns) (hp:p<m) (hr:ns[r]?=some nd) (hpr:(p:Int) ∈ readsOf nd)
  (hc:∀ a,hasS wss a p=true→∀ (i:Nat) n,ns[i]?=some n→(p:Int) ∉ writesOf n→(a:Int) ∈ nextsOf n→hasS wss i p=true) :
  Calls Tryz.prog 67 #[.pointer (some ⟨bb,0,none⟩),.int .i64 p,.int .i64 r] w fun e w'=>e=.returned (.tuple #[])∧∃ wss',BwI w' E base bb R1 R2 R n q m vs ls wss'∧KpS w w' w.heap.size R n∧SpI ns p r wss wss' []:=by
 have HSP:=Lib.hid (SpI.start hr hpr hc)
 have HO0:=Lib.hid (lit_own w 3 (i64c [(r:Int)]) 1 rfl)
 have HB0:=Lib.hid (h.alloc (.cells #[.int .i64 r] 3))
 have HK0:Hid (KpS w (w.alloc (.cells #[.int .i64 r] 3)) w.heap.size R n):=Lib.hid ((KpS.refl w w.heap.size R n).below (E':=w.heap.size) ((Below.refl _ _).alloc (Nat.le_refl _) _) (Nat.le_refl _))
 have HEE:=Lib.hid h.eE
 have hq:p / 64<q:=by have:=h.sets.qm;omega
 have hm:m≤1024:=h.sets.mb
 have hqm:m≤64*q:=by have:=h.sets.qm;omega
 have HLB:=Lib.hid hlb
 have HLW:=Lib.hid hlw
 have HNS:=Lib.hid hns
 have HBM:=Lib.hid (fun a y=>befK_mem hv a y n (by omega))
 have HBE:=Lib.hid (fun a=>befK_el n ns a n)
 have HST:=Lib.hid (owes_start hn wss p)
 have HHR:Hid (∀ i,i<n→R+2+2*i<E):=Lib.hid h.es
 rw [hns] at HBM
 clear h hlb hlw hns hv hr hpr hc
 go_enter Tryz.func67,Tryz.ntmps67
 go_wp2
 go_loopg [6] (owes n wss p 1) (fun gk s wr=>∃ (wss2:List (List Nat)) (wait:List Int) (A:Option Addr) (M c:Nat),gk=owes n wss2 p M∧wait.length=M∧s=.slice A M c∧gk≤33554433∧Hid (BwI wr E base bb R1 R2 R n q m vs ls wss2)∧Hid (KpS w wr w.heap.size R n)∧Hid (wr.ownsRow w.heap.size 3 1 (.slice A M c) M (i64c wait))∧Hid (SpI ns p r wss wss2 wait))
 case atStart=>exact ⟨wss,[(r:Int)],_,1,1,rfl,rfl,rfl,HST.out,HB0,HK0,HO0,HSP⟩
 case round =>
  clear HB0 HK0 HO0 HSP HST
  obtain ⟨wss2,wait,A,M,c,hgk,hwl,rfl,hgb,HB,HK,HO,HS⟩:=hrel
  by_cases hM:M=0
  ·subst hM
   have HF:Hid (SpI ns p r wss wss2 []):=by
    have:wait=[]:=List.eq_nil_of_length_eq_zero hwl
    rw [this] at HS
    exact HS
   go_wp2
   go_end0
   exact ⟨rfl,wss2,HB.out,HK.out,HF.out⟩
  ·have hMl:M≤33554433:=by have:=owes_le n wss2 p M;omega
   obtain ⟨init,x,rfl⟩:=list_last (l:=wait) (by omega)
   obtain ⟨L,hL⟩:∃ L,L=init.length:=⟨_,rfl⟩
   have hML:M=L+1:=by rw [← hwl,List.length_append,← hL];rfl
   have HML:=Lib.hid hML
   have hm1:(M:Int)-1=(L:Int):=by omega
   have hLM:L<M:=by omega
   obtain ⟨k,rfl,hkn,_⟩:=HS.out.wl x (by simp)
   rw [HNS.out] at hkn
   obtain ⟨bx,ox,x',hxe,hbx,HXX,x1⟩:=(Reads.of_own HO.out).int hLM
   obtain rfl:x'=(k:Int):=by
    have h1:=HXX.out
    rw [hL,List.getElem?_append_right (Nat.le_refl _),Nat.sub_self] at h1
    simpa using h1.symm
   have hcap:=own_cap HO.out
   have HC:Hid (wr.ownsRow w.heap.size 3 1 (.slice A L c) L (i64c init)):=Lib.hid (by
    have h1:=HO.out
    rw [hML] at h1
    exact lown_cut1 h1 hL.symm)
   have HLL:=Lib.hid hL
   have hGK:Hid (gk=owes n wss2 p (L+1)):=Lib.hid (by rw [hgk,hML])
   have b2:wr.cell? ⟨bb,2,none⟩=some (.slice (some ⟨R,0,none⟩) n n):=HB.out.box.cell 2
   have s0:wr.cell? ⟨R,k,none⟩=some (.pointer (some ⟨R+2+2*k,0,none⟩)):=by rw [HB.out.sets.row.cell,rowA_at _ hkn]
   have hle:(wss2.getD k []).length=q:=HB.out.sets.wf.each _ (getD_mem _ (by rw [HB.out.sets.wf.len];exact hkn))
   have HLT:Hid (∀ x ∈ wss2.getD k [],x<18446744073709551616):=Lib.hid (HB.out.sets.wf.lt _ (getD_mem _ (by rw [HB.out.sets.wf.len];exact hkn)))
   rw [hxe] at HC ⊢
   clear hgk hwl hML hL hxe hM HO HXX
   rcases hhas:hasS wss2 k p with _ | _
   ·have HAD:=Lib.hid (ladd_new (R+2+2*k) (R+1+2*k) m q p (wss2.getD k []) wr (HB.out.sets.box k hkn) (HB.out.sets.words k hkn) hle HLT.out (by omega) hp hqm hhas)
    have HW:=Lib.hid (HB.out.add hkn hp)
    have HKW:=Lib.hid (HK.out.set hkn (p / 64) (.int .u64 (((addW (wss2.getD k []) p).getD (p / 64) 0:Nat):Int)))
    have HCW:=Lib.hid (own_far HC.out (HB.out.sets.words k hkn) (by decide) (p / 64) (.int .u64 (((addW (wss2.getD k []) p).getD (p / 64) 0:Nat):Int)))
    obtain ⟨W2,hW2⟩:∃ W2,W2=wr.setCell ⟨R+1+2*k,p / 64,none⟩ (.int .u64 (((addW (wss2.getD k []) p).getD (p / 64) 0:Nat):Int)):=⟨_,rfl⟩
    rw [← hW2] at HAD HW HKW HCW
    have HSTEP:Hid (∀ b,b≤2*n→owes n (addS wss2 k p) p (L+b)<gk):=Lib.hid fun b hb=>by
     rw [hGK.out]
     exact owes_step HB.out.sets.wf hkn hq hhas hb
    have HSS:Hid (SpI ns p r wss (addS wss2 k p) (init ++ keepB ns p (ls (2*k)))):=Lib.hid (HS.out.step HB.out.sets.wf hkn hq (ls (2*k)) (fun y=>by
     rw [HLB.out k hkn,HBM.out k y]
     constructor
     ·rintro ⟨i,_,h2,h3⟩
      exact ⟨i,h2,h3⟩
     ·rintro ⟨i,h2,nd,h3,h4⟩
      exact ⟨i,by have:=(List.getElem?_eq_some_iff.1 h3).1;rw [HNS.out] at this;exact this,h2,nd,h3,h4⟩))
    have HBK:Hid (∀ y ∈ ls (2*k),∃ i:Nat,y=i∧i<n∧∃ nd,ns[i]?=some nd):=Lib.hid fun y hy=>by
     rw [HLB.out k hkn,HBM.out k y] at hy
     obtain ⟨i,h1,h2,nd,h3,_⟩:=hy
     exact ⟨i,h2,h1,nd,h3⟩
    have hbl:(ls (2*k)).length≤2*n:=by rw [HLB.out k hkn];exact HBE.out k
    obtain ⟨Ak,ck,hsk⟩:=HB.out.fam.slice (i:=2*k) (by omega)
    have HSK:=Lib.hid hsk
    obtain ⟨mk,hmk⟩:∃ x,x=(ls (2*k)).length:=⟨_,rfl⟩
    have HMK:=Lib.hid hmk
    rw [← hmk] at hbl hsk
    have HRK:Hid (∀ nq,(W2.drewN nq).cell? ⟨R1,k,none⟩=some (.slice Ak mk ck)):=Lib.hid fun nq=>by rw [((HW.out.drewN nq).r1).cell,rowA_at _ hkn,hsk]
    have HB0':Hid (∀ nq,(W2.drewN nq).cell? ⟨bb,0,none⟩=some (.slice (some ⟨R1,0,none⟩) n n)):=Lib.hid fun nq=>((HW.out.drewN nq).box).cell 0
    clear hsk hmk hhas hW2 HB HK HC hGK HS
    go_wp2_with (go_at_call 86;refine HAD.out.mono ?_;rintro e w5 ⟨rfl,nq,hw5⟩;rw [hw5];clear hw5;have r0:=HRK.out nq;have b0:=HB0'.out nq)
    have HW5:=Lib.hid (HW.out.drewN nq)
    have HK5:=Lib.hid (HKW.out.drewN nq)
    have HC5:Hid ((W2.drewN nq).ownsRow w.heap.size 3 1 (.slice (some ⟨bx,ox,none⟩) L c) L (i64c init)):=Lib.hid HCW.out
    obtain ⟨W5,hW5⟩:∃ W5,W5=W2.drewN nq:=⟨_,rfl⟩
    rw [← hW5] at HW5 HK5 HC5 ⊢
    clear b2 s0 x1 r0 b0 hW5 HRK HB0' HW HKW HCW HAD
    go_loopw [6,44] (fun v i wr=>∃ (j ll:Nat) (A:Option Addr) (c:Nat),j≤mk∧i=.int .i64 j∧ll=(keepB ns p ((ls (2*k)).take j)).length∧ll≤j∧v=.slice A (L+ll) c∧Hid (BwI wr E base bb R1 R2 R n q m vs ls (addS wss2 k p))∧Hid (KpS w wr w.heap.size R n)∧Hid (wr.ownsRow w.heap.size 3 1 (.slice A (L+ll) c) (L+ll) (i64c (init ++ keepB ns p ((ls (2*k)).take j))))) (fun _ i _=>mk-(intOf i).toNat)
    case atStart=>exact ⟨0,0,_,c,by omega,rfl,by simp [keepB],by omega,rfl,HW5,HK5,by simpa [keepB] using HC5⟩
    case round =>
     clear HW5 HK5 HC5
     obtain ⟨j,ll,A2,c2,hj,rfl,hll,hllj,rfl,HB,HK,HO⟩:=hrel
     have HLJ:=Lib.hid hll
     clear hll
     by_cases hjl:j<mk
     ·obtain ⟨by_,oy,y,hye,hby,HYY,y1⟩:=(Reads.of_own (by have h1:=HB.out.fam.own (2*k) (by omega);rw [HSK.out] at h1;exact h1)).int (show j<(ls (2*k)).length by rw [← HMK.out];exact hjl)
      obtain ⟨i,rfl,hi,nd2,hnd2⟩:=HBK.out y (List.mem_of_getElem? HYY.out)
      have HTK:=Lib.hid (take_at HYY.out)
      have HK1:=Lib.hid (keepB_one (p:=p) hnd2)
      obtain ⟨Ai,ci,hsi⟩:=HB.out.fam.slice (i:=2*i+1) (by omega)
      have hwi:ls (2*i+1)=writesOf nd2:=HLW.out i nd2 hnd2
      obtain ⟨mi,hmi⟩:∃ x,x=(ls (2*i+1)).length:=⟨_,rfl⟩
      have b1:wr.cell? ⟨bb,1,none⟩=some (.slice (some ⟨R2,0,none⟩) n n):=HB.out.box.cell 1
      have r2:wr.cell? ⟨R2,i,none⟩=some (.slice Ai mi ci):=by rw [HB.out.r2.cell,rowA_at _ hi,hsi,hmi]
      have hml2:mi≤2:=by rw [hmi,hwi];exact llens nd2
      have HCT:=Lib.hid (contains_eq wr.heap.size Ai mi ci (ls (2*i+1)) p wr (by
       have h1:=HB.out.fam.own (2*i+1) (by omega)
       rw [hsi,← hmi] at h1
       exact Reads.of_own h1) hmi.symm (by omega))
      rw [hwi] at HCT
      have HYE:=Lib.hid hye
      rw [hye]
      clear hye hsi hmi hwi hnd2 HYY
      by_cases hcon:(p:Int) ∈ writesOf nd2
      ·have H1:Hid (decide ((p:Int) ∈ writesOf nd2)=true):=Lib.hid (decide_eq_true hcon)
       have HK2:Hid (keepB ns p ((ls (2*k)).take (j+1))=keepB ns p ((ls (2*k)).take j)):=Lib.hid (by
        rw [HTK.out,keepB_snoc,HK1.out,if_pos hcon,List.append_nil])
       clear hcon
       go_wp2_with (go_at_call 48;refine HCT.out.mono ?_;rintro e w6 ⟨rfl,hw6⟩;rw [hw6];clear hw6;rw [H1.out])
       go_roundw
       case rel=>exact ⟨j+1,ll,A2,c2,by omega,by go_num,by rw [HK2.out];exact HLJ.out,by omega,rfl,HB,HK,by rw [HK2.out];exact HO⟩
       case measure=>simp [intOf];omega
      ·have H1:Hid (decide ((p:Int) ∈ writesOf nd2)=false):=Lib.hid (decide_eq_false hcon)
       have HK2:Hid (keepB ns p ((ls (2*k)).take (j+1))=keepB ns p ((ls (2*k)).take j) ++ [(i:Int)]):=Lib.hid (by
        rw [HTK.out,keepB_snoc,HK1.out,if_neg hcon])
       have hEw:=HB.out.eE
       have hwz:=HK.out.size
       clear hcon
       go_wp2_with (first
        | (go_at_call 48;refine HCT.out.mono ?_;rintro e w6 ⟨rfl,hw6⟩;rw [hw6];clear hw6;rw [H1.out])
        | (at_builtin;refine app_int rfl (.tmp 58) (.tmp 60) rfl w.heap.size _ _ _ rfl (own_alloc HO.out _) (wr.heap.size+1) (some ⟨wr.heap.size,0,none⟩) 1 1 [.int .i64 i] rfl (one_reads wr _ _ 1 rfl) (ints_oneCell .i64 [(i:Int)]) (by omega) (by simp;omega) ?_;intro v' w8 hown hgr hor;obtain ⟨A8,c8,rfl⟩:=own_slice hown;have HO8:=Lib.hid hown;have HB8:Hid (Below w.heap.size wr w8):=Lib.hid (((Below.refl _ _).alloc (by omega) _).grown hgr (by simp;omega) fun g hg=>(own_block_le HO.out hg).1);clear hown hgr hor))
       go_roundw
       case rel =>
        refine ⟨j+1,ll+1,A8,c8,by omega,by go_num,by rw [HK2.out,List.length_append,← HLJ.out];rfl,by omega,by rw [Nat.add_assoc],Lib.hid (HB.out.on (HB8.out.mono HEE.out)),Lib.hid (HK.out.below HB8.out (Nat.le_refl _)),?_⟩
        rw [HK2.out,← List.append_assoc,i64c_append]
        exact HO8
       case measure=>simp [intOf];omega
     ·obtain rfl:mk=j:=by omega
      have HTA:Hid ((ls (2*k)).take mk=ls (2*k)):=Lib.hid (List.take_of_length_le (by rw [HMK.out];exact Nat.le_refl _))
      rw [HTA.out] at HLJ HO
      go_wp2
      go_roundg (owes n (addS wss2 k p) p (L+ll))
      case measure=>exact HSTEP.out ll (by omega)
      case rel=>exact ⟨_,_,A2,L+ll,c2,rfl,by rw [List.length_append,← HLL.out,← HLJ.out],rfl,by have:=HSTEP.out ll (by omega);omega,HB,HK,HO,HSS⟩
   ·have HAD:=Lib.hid (ladd_there (R+2+2*k) (R+1+2*k) m q p (wss2.getD k []) wr (HB.out.sets.box k hkn) (HB.out.sets.words k hkn) hle HLT.out (by omega) hp hqm hhas)
    have HSS:=Lib.hid (HS.out.skip hhas)
    have HLTG:Hid (owes n wss2 p L<gk):=Lib.hid (by rw [hGK.out];exact owes_skip n wss2 p L)
    clear hhas HS
    go_wp2_with (go_at_call 86;refine HAD.out.mono ?_;rintro e w5 ⟨rfl,nq,hw5⟩;rw [hw5];clear hw5)
    go_roundg (owes n wss2 p L)
    case measure=>exact HLTG.out
    case rel=>exact ⟨wss2,init,_,L,c,rfl,HLL.out.symm,rfl,by have:=HLTG.out;omega,Lib.hid (HB.out.drewN nq),Lib.hid (HK.out.drewN nq),Lib.hid HC.out,HSS⟩
theorem reads_kps {w w':World} {B E R n q m k:Nat} {A:Option Addr} {l:List Int} {wss:List (List Nat)} (h:Reads w B 1 A k (i64c l)) (hB:B≤E) (hk:KpS w w' E R n) (hs:SetsI w R n q m wss):Reads w' B 1 A k (i64c l):=by
 refine ⟨h.1,fun hn=>?_⟩
 obtain ⟨b,off,rfl,hb,hc⟩:=h.lit hn (by omega)
 have hne:∀ j,j<n→b≠R+1+2*j:=by
  intro j hj e
  subst e
  have hl:0<l.length:=by have:=h.1;rw [length_i64c] at this;omega
  have h1:=hc 0 _ (i64c_at (List.getElem?_eq_getElem hl))
  have hw:=(hs.words j hj).cell (off+0)
  rw [hw,List.getElem?_toArray] at h1
  unfold u64n at h1
  rw [List.getElem?_map] at h1
  rcases e2:(wss.getD j [])[off+0]? with _ | y
  ·rw [e2] at h1;cases h1
  ·rw [e2] at h1
   injection h1 with h1
   injection h1 with h1
   cases h1
 refine ⟨⟨b,off,none⟩,rfl,hb,fun j u hu=>?_⟩
 have ea:(⟨b,off,none⟩:Addr).add j=⟨b,off+j,none⟩:=by simp [Addr.add]
 rw [ea]
 exact (World.cell?_of_block (hk.block b (by omega) hne)).trans (hc j u hu)
theorem llenr (n:Nd) (h:n.args.length*8≤140737488351232):(readsOf n).length≤140737488351232:=by
 have:=addL_len [] (readF n)
 unfold readsOf
 have h2:(readF n).length≤n.args.length+2:=by unfold readF;split <;> (try split) <;> (try split) <;> simp <;> omega
 simp at this
 omega
def ReadIn (ns:List Nd) (m:Nat):Prop:=∀ n ∈ ns,∀ x ∈ readsOf n,0≤x∧x<m
theorem liveAt_any (B:Nat) (po ko io no:Option Addr) (nP pc nK kc nI ic n nc q:Nat) (cells keep entry:Int) (res:Bool) (rn:List RN) (w:World) (hN:RdNs w B no n rn) (hB:B≤w.heap.size) (hn:n≤4096) (hK:nK≤1024) (hq:q=(nK+63) / 64) (hv:NextIn (nds rn)) (hrd:ReadIn (nds rn) nK) :
  Calls Tryz.prog 44 #[.agg #[.slice po nP pc,.slice ko nK kc,.int .i64 cells,.slice io nI ic,.bool res,.int .i64 keep,.slice no n nc,.int .i64 entry]] w fun e w' =>
   ∃ R wss,e=.returned (.slice (some ⟨R,0,none⟩) n n)∧SetsI w' R n q nK wss∧(∀ i p,hasS wss i p=true↔Live (nds rn) p i)∧Below w.heap.size w w'∧w.heap.size<R:=by
 obtain ⟨cs,hcs⟩:∃ cs:Array Value,cs=#[.slice po nP pc,.slice ko nK kc,.int .i64 cells,.slice io nI ic,.bool res,.int .i64 keep,.slice no n nc,.int .i64 entry]:=⟨_,rfl⟩
 have hb1:Below w.heap.size w (w.alloc (.cells #[.slice po nP pc,.slice ko nK kc,.int .i64 cells,.slice io nI ic,.bool res,.int .i64 keep,.slice no n nc,.int .i64 entry] 35)):=(Below.refl _ _).alloc (Nat.le_refl _) _
 have HG1:=Lib.hid (Blk.new w 35 #[.slice po nP pc,.slice ko nK kc,.int .i64 cells,.slice io nI ic,.bool res,.int .i64 keep,.slice no n nc,.int .i64 entry])
 have HNB:=Lib.hid (newBack_any B po ko io no nP pc nK kc nI ic n nc q cells keep entry res rn _ (hN.below (hb1.mono hB)) (by simp;omega) hn hK hq hv)
 have HB1:=Lib.hid hb1
 have HRN:=Lib.hid hN
 have HV:=Lib.hid hv
 have HRI:=Lib.hid hrd
 have HLN:Hid ((nds rn).length=n):=Lib.hid (by rw [length_nds];exact hN.len)
 have HZ1:Hid ((w.alloc (.cells #[.slice po nP pc,.slice ko nK kc,.int .i64 cells,.slice io nI ic,.bool res,.int .i64 keep,.slice no n nc,.int .i64 entry] 35)).heap.size=w.heap.size+1):=Lib.hid (by simp)
 clear hcs hq hN hv hrd hb1
 go_enter Tryz.func44,Tryz.ntmps44
 go_wp2_with (go_at_call 65;refine HNB.out.mono ?_;rintro e w1 ⟨bb,R1,R2,R,vs,ls,rfl,hi,hlb,hlw⟩;have HI:=Lib.hid hi;have HLB:=Lib.hid hlb;have HLW:=Lib.hid hlw;clear hi hlb hlw;have g6:w1.cell? ⟨w.heap.size,6,none⟩=some (.slice no n nc):=(HG1.out.below HI.out.below HG1.out.lt).cell 6)
 clear g6
 have HBW:=Lib.hid HI.out.bw
 have HL3:Hid (w.heap.size+1<R):=Lib.hid (by have:=HI.out.l3;rw [HZ1.out] at this;exact this)
 have HW1:=Lib.hid (HB1.out.trans (HI.out.below.mono HB1.out.size))
 obtain ⟨E,hE⟩:∃ E,E=w1.heap.size:=⟨_,rfl⟩
 rw [← hE] at HBW
 have HEE:=Lib.hid hE
 obtain ⟨base,hbase⟩:∃ b,b=(w.alloc (.cells #[.slice po nP pc,.slice ko nK kc,.int .i64 cells,.slice io nI ic,.bool res,.int .i64 keep,.slice no n nc,.int .i64 entry] 35)).heap.size:=⟨_,rfl⟩
 rw [← hbase] at HBW
 clear hE hbase HI HNB HG1 HB1 HZ1
 go_loopw [13] (fun i wr=>∃ (k:Nat) (wss:List (List Nat)),k≤n∧i=.int .i64 k∧Hid (BwI wr E base bb R1 R2 R n q nK vs ls wss)∧Hid (KpS w1 wr E R n)∧Hid (LvI (nds rn) wss k 0)) (fun i _=>n-(intOf i).toNat)
 case atStart=>exact ⟨0,_,by omega,rfl,HBW,Lib.hid (KpS.refl _ _ _ _),Lib.hid (LvI.start _ _ _)⟩
 case round =>
  clear HBW
  obtain ⟨k,wss,hk,rfl,HB,HK,HLV⟩:=hrel
  have HBK:Hid (Below w.heap.size w wr):=Lib.hid (HW1.out.trans (HK.out.out (by have:=HL3.out;have:=HB.out.eR;omega) (by have:=HL3.out;omega)))
  by_cases hlt:k<n
  ·obtain ⟨bn,on,i,hno,hbn,HXI,HRN1,HWI,u0,u1,u2,u3,u4,u5,u6,u7,u8,u9,u10,u11⟩:=(HRN.out.below (HBK.out.mono hB)).nd hlt
   have HXN:Hid ((nds rn)[k]?=some i.nd):=Lib.hid (by unfold nds;rw [List.getElem?_map,HXI.out];rfl)
   have hwz:=HBK.out.size
   have hbnr:bn<wr.heap.size:=by omega
   have hb6:Below wr.heap.size wr (wr.alloc (.cells #[.int .u8 i.nd.op,.int .u8 i.nd.bop,.int .i64 i.nd.d,.int .i64 i.nd.e,.int .i64 i.nd.a,.int .i64 i.nd.b,.int .i64 i.nd.f,.int .i64 i.nd.cell,.int .u64 i.nd.imm,.slice i.ao i.nd.args.length i.ac,.int .i64 i.nd.next,.int .i64 i.nd.els] 47)):=(Below.refl _ _).alloc (Nat.le_refl _) _
   have HRE:=Lib.hid (reads_any B i.nd.op i.nd.bop i.nd.d i.nd.e i.nd.a i.nd.b i.nd.f i.nd.cell i.nd.imm i.nd.args i.nd.next i.nd.els i.ao i.nd.args.length i.ac _ HWI.out.o0 HWI.out.o1 HWI.out.d HWI.out.e HWI.out.a HWI.out.b HWI.out.next HWI.out.els (HRN1.out.below (hb6.mono (by omega))).args rfl HWI.out.args HWI.out.al HRN1.out.cap (show B≤(wr.alloc (.cells #[.int .u8 i.nd.op,.int .u8 i.nd.bop,.int .i64 i.nd.d,.int .i64 i.nd.e,.int .i64 i.nd.a,.int .i64 i.nd.b,.int .i64 i.nd.f,.int .i64 i.nd.cell,.int .u64 i.nd.imm,.slice i.ao i.nd.args.length i.ac,.int .i64 i.nd.next,.int .i64 i.nd.els] 47)).heap.size by simp;omega))
   have HB6:=Lib.hid hb6
   rw [hno]
   have HNO:=Lib.hid hno
   clear hno hb6
   obtain ⟨xs,hxs⟩:∃ xs,xs=readsOf ⟨i.nd.op,i.nd.bop,i.nd.d,i.nd.e,i.nd.a,i.nd.b,i.nd.f,i.nd.cell,i.nd.imm,i.nd.args,i.nd.next,i.nd.els⟩:=⟨_,rfl⟩
   rw [← hxs] at HRE
   have HXS:Hid (xs=readsOf i.nd):=Lib.hid hxs
   clear hxs
   go_wp2_with (go_at_call 66;refine HRE.out.mono ?_;rintro e w5 ⟨A5,c5,rfl,hr5,hc5,hb5⟩;have HR5:=Lib.hid hr5;have HB5:=Lib.hid (HB6.out.trans (hb5.mono HB6.out.size));clear hr5 hb5)
   clear u0 u1 u2 u3 u4 u5 u6 u7 u8 u9 u10 u11 hbnr
   have hEr:=HB.out.eE
   have HBi:=Lib.hid (HB.out.on (HB5.out.mono hEr))
   have HKi:=Lib.hid (HK.out.below HB5.out hEr)
   obtain ⟨l,hl⟩:∃ l,l=xs.length:=⟨_,rfl⟩
   rw [← hl] at HR5 hc5 ⊢
   have HL:=Lib.hid hl
   have hlb:l≤140737488351232:=by rw [hl,HXS.out];exact llenr _ HWI.out.al
   obtain ⟨B7,hB7⟩:∃ b,b=w5.heap.size:=⟨_,rfl⟩
   rw [← hB7] at HR5
   have hB7':B7≤w5.heap.size:=by omega
   clear hl HB HK HRE HB6 hB7 HRN1
   go_loopw [21] (fun i wr=>∃ (j:Nat) (wss:List (List Nat)),j≤l∧i=.int .i64 j∧B7≤wr.heap.size∧Hid (BwI wr E base bb R1 R2 R n q nK vs ls wss)∧Hid (KpS w1 wr E R n)∧Hid (LvI (nds rn) wss k j)∧Hid (Reads wr B7 1 A5 l (i64c xs))) (fun i _=>l-(intOf i).toNat)
   case atStart=>exact ⟨0,wss,by omega,rfl,hB7',HBi,HKi,HLV,HR5⟩
   case round =>
    clear HBi HKi HR5 HLV hB7'
    obtain ⟨j,wss,hj,rfl,hB7,HB,HK,HLV,HR⟩:=hrel
    by_cases hjl:j<l
    ·obtain ⟨bx,ox,x,hxe,hbx,HXX,x1⟩:=HR.out.int hjl
     have hxm:(readsOf i.nd)[j]?=some x:=by rw [← HXS.out];exact HXX.out
     obtain ⟨hx0,hx1⟩:=HRI.out i.nd (List.mem_of_getElem? HXN.out) x (List.mem_of_getElem? hxm)
     obtain ⟨p,rfl⟩:∃ p:Nat,x=(p:Int):=⟨x.toNat,by omega⟩
     have HSP:=Lib.hid (spread_any E base bb R1 R2 R n q nK vs ls wss p k wr HB.out HLN.out hn HLB.out HLW.out HV.out (by omega) HXN.out (List.mem_of_getElem? hxm) (fun a ha=>HLV.out.clo p a ha))
     have HXM:=Lib.hid hxm
     rw [hxe]
     have HXE:=Lib.hid hxe
     clear hxe hxm hx0 hx1
     go_wp2_with (go_at_call 67;refine HSP.out.mono ?_;rintro e w7 ⟨rfl,wss7,hb7,hk7,hs7⟩;have HB7:=Lib.hid hb7;have HK7:=Lib.hid hk7;have HS7:=Lib.hid hs7;clear hb7 hk7 hs7)
     go_roundw
     case rel =>
      rw [← HXE.out]
      exact ⟨j+1,wss7,by omega,by go_num,by have:=HK7.out.size;omega,HB7,Lib.hid (HK.out.trans HK7.out HB.out.eE),Lib.hid (HLV.out.spread HXN.out HXM.out HS7.out),Lib.hid (reads_kps HR.out hB7 HK7.out HB.out.sets)⟩
     case measure=>simp [intOf];omega
    ·obtain rfl:l=j:=by omega
     have HNXT:=Lib.hid (HLV.out.next HXN.out (by rw [← HXS.out,← HL.out];exact Nat.le_refl _))
     go_wp2
     go_roundw
     case rel=>exact ⟨k+1,wss,by omega,by go_num,HB,HK,HNXT⟩
     case measure=>simp [intOf];omega
  ·have hkn:k=n:=by omega
   have HALL:Hid (∀ i p,hasS wss i p=true↔Live (nds rn) p i):=Lib.hid (by
    have h:=HLV.out
    rw [hkn,← HLN.out] at h
    exact h.all)
   have b2:wr.cell? ⟨bb,2,none⟩=some (.slice (some ⟨R,0,none⟩) n n):=HB.out.box.cell 2
   go_wp2
   go_ret
   exact ⟨R,wss,rfl,HB.out.sets,HALL.out,HBK.out,by have:=HL3.out;omega⟩
theorem hands_any (B:Nat) (rs:List RG) (ps ks is:List Int) (nodes:List Nd) (fo:Option Addr) (nF cF:Nat) (po ko io no:Option Addr) (nP pc nK kc nI ic nN nc:Nat) (cells keep entry:Int) (res bd:Bool) (op bop d e a b f cell imm:Int) (args:List Int) (nx el:Int) (ao:Option Addr) (nA ac:Nat) (w:World) (HF0:RdP w B fo nF rs) (hk:Reads w B 1 ko nK (u8c ks)) (hkl:ks.length=nK) (ha:Reads w B 1 ao nA (i64c args)) (hal:args.length=nA) (hnA:nA*8≤140737488351232) (hB:B≤w.heap.size)
  (hh:bd=false→∀ g ∈ grs rs,headHolds g false) :
  Calls Tryz.prog 111 #[.agg #[.slice fo nF cF,.slice po nP pc,.slice ko nK kc,.int .i64 cells,.slice io nI ic,.bool res,.int .i64 keep,.slice no nN nc,.int .i64 entry,.bool bd],.agg #[.int .u8 op,.int .u8 bop,.int .i64 d,.int .i64 e,.int .i64 a,.int .i64 b,.int .i64 f,.int .i64 cell,.int .u64 imm,.slice ao nA ac,.int .i64 nx,.int .i64 el]] w fun ee w'=>ee=.returned (.bool (decide (hands (grs rs) ⟨ps,ks,cells,is,res,keep,nodes,entry⟩ bd f args)))∧Below w.heap.size w w':=by
 have HB2:Hid (Below w.heap.size w ((w.alloc (.cells #[.slice fo nF cF,.slice po nP pc,.slice ko nK kc,.int .i64 cells,.slice io nI ic,.bool res,.int .i64 keep,.slice no nN nc,.int .i64 entry,.bool bd] 142)).alloc (.cells #[.int .u8 op,.int .u8 bop,.int .i64 d,.int .i64 e,.int .i64 a,.int .i64 b,.int .i64 f,.int .i64 cell,.int .u64 imm,.slice ao nA ac,.int .i64 nx,.int .i64 el] 47))):=((Below.refl _ _).alloc (Nat.le_refl _) _).alloc (by simp) _
 have HCB:Hid (Blk ((w.alloc (.cells #[.slice fo nF cF,.slice po nP pc,.slice ko nK kc,.int .i64 cells,.slice io nI ic,.bool res,.int .i64 keep,.slice no nN nc,.int .i64 entry,.bool bd] 142)).alloc (.cells #[.int .u8 op,.int .u8 bop,.int .i64 d,.int .i64 e,.int .i64 a,.int .i64 b,.int .i64 f,.int .i64 cell,.int .u64 imm,.slice ao nA ac,.int .i64 nx,.int .i64 el] 47)) w.heap.size 142 #[.slice fo nF cF,.slice po nP pc,.slice ko nK kc,.int .i64 cells,.slice io nI ic,.bool res,.int .i64 keep,.slice no nN nc,.int .i64 entry,.bool bd]):=Lib.hid ((Blk.new w 142 #[.slice fo nF cF,.slice po nP pc,.slice ko nK kc,.int .i64 cells,.slice io nI ic,.bool res,.int .i64 keep,.slice no nN nc,.int .i64 entry,.bool bd]).alloc _)
 have HNB:Hid (Blk ((w.alloc (.cells #[.slice fo nF cF,.slice po nP pc,.slice ko nK kc,.int .i64 cells,.slice io nI ic,.bool res,.int .i64 keep,.slice no nN nc,.int .i64 entry,.bool bd] 142)).alloc (.cells #[.int .u8 op,.int .u8 bop,.int .i64 d,.int .i64 e,.int .i64 a,.int .i64 b,.int .i64 f,.int .i64 cell,.int .u64 imm,.slice ao nA ac,.int .i64 nx,.int .i64 el] 47)) (w.heap.size+1) 47 #[.int .u8 op,.int .u8 bop,.int .i64 d,.int .i64 e,.int .i64 a,.int .i64 b,.int .i64 f,.int .i64 cell,.int .u64 imm,.slice ao nA ac,.int .i64 nx,.int .i64 el]):=Lib.hid (by
  have:=Blk.new (w.alloc (.cells #[.slice fo nF cF,.slice po nP pc,.slice ko nK kc,.int .i64 cells,.slice io nI ic,.bool res,.int .i64 keep,.slice no nN nc,.int .i64 entry,.bool bd] 142)) 47 #[.int .u8 op,.int .u8 bop,.int .i64 d,.int .i64 e,.int .i64 a,.int .i64 b,.int .i64 f,.int .i64 cell,.int .u64 imm,.slice ao nA ac,.int .i64 nx,.int .i64 el]
  rwa [show (w.alloc (.cells #[.slice fo nF cF,.slice po nP pc,.slice ko nK kc,.int .i64 cells,.slice io nI ic,.bool res,.int .i64 keep,.slice no nN nc,.int .i64 entry,.bool bd] 142)).heap.size=w.heap.size+1 by simp] at this)
 have HF:=Lib.hid HF0
 have HK:=Lib.hid hk
 have HKL:=Lib.hid hkl
 have HA:=Lib.hid ha
 have HAL:=Lib.hid hal
 have HH:=Lib.hid hh
 have HGL:Hid ((grs rs).length=nF):=Lib.hid (by rw [length_grs,HF0.len])
 clear hk hkl HF0 ha hal hh
 by_cases hf:isOne f nF
 rotate_left
 ·have HI:Hid (decide (isOne f nF)=false):=Lib.hid (decide_eq_false hf)
  have HD:Hid (decide (hands (grs rs) ⟨ps,ks,cells,is,res,keep,nodes,entry⟩ bd f args)=false):=Lib.hid (by
   rw [decide_eq_false_iff_not]
   rintro ⟨h,_⟩
   rw [HGL.out] at h
   exact hf h)
  clear hf
  go_enter Tryz.func111,Tryz.ntmps111
  go_wp2_with (first | (go_at_call 95;refine (isOne_any _ _ _).mono ?_;rintro ee w2 ⟨rfl,rfl⟩;rw [HI.out]))
  go_ret
  exact ⟨by rw [HD.out];rfl,HB2.out⟩
 have HI:Hid (decide (isOne f nF)=true):=Lib.hid (decide_eq_true hf)
 have HI0:=Lib.hid hf
 obtain ⟨j,rfl⟩:∃ j:Nat,f=(j:Int):=⟨f.toNat,by have:=hf.1;omega⟩
 have hj:j<nF:=by have:=hf.2;omega
 clear hf
 obtain ⟨bf,off,r,rfl,hbf,HX,HRG,HWG,x0,x1,x2,x3,x4,x5,x6,x7⟩:=HF.out.gr hj
 have HGR:=Lib.hid (grAt_of HX.out)
 have hbr:bf<w.heap.size:=by omega
 obtain ⟨pl,hpl⟩:∃ x,x=r.gr.params.length:=⟨_,rfl⟩
 rw [← hpl] at x0
 have HPL:=Lib.hid hpl
 clear hpl
 by_cases hne:nA=pl
 rotate_left
 ·have HD:Hid (decide (hands (grs rs) ⟨ps,ks,cells,is,res,keep,nodes,entry⟩ bd j args)=false):=Lib.hid (by
   rw [decide_eq_false_iff_not]
   rintro ⟨_,h,_⟩
   rw [HGR.out,← HPL.out,HAL.out] at h
   exact hne h)
  have g:((nA:Int) != (pl:Int))=true:=by rw [bne_iff_ne];omega
  clear hne
  go_enter Tryz.func111,Tryz.ntmps111
  go_wp2_with (first | (go_at_call 95;refine (isOne_any _ _ _).mono ?_;rintro ee w2 ⟨rfl,rfl⟩;rw [HI.out]))
  go_ret
  exact ⟨by rw [HD.out];rfl,HB2.out.alloc (by simp;omega) _⟩
 subst hne
 have HB3:Hid (Below w.heap.size w (((w.alloc (.cells #[.slice (some ⟨bf,off,none⟩) nF cF,.slice po nP pc,.slice ko nK kc,.int .i64 cells,.slice io nI ic,.bool res,.int .i64 keep,.slice no nN nc,.int .i64 entry,.bool bd] 142)).alloc (.cells #[.int .u8 op,.int .u8 bop,.int .i64 d,.int .i64 e,.int .i64 a,.int .i64 b,.int .i64 j,.int .i64 cell,.int .u64 imm,.slice ao nA ac,.int .i64 nx,.int .i64 el] 47)).alloc (.cells #[.slice r.po nA r.pc,.slice r.ko r.gr.kinds.length r.kc,.int .i64 r.gr.cells,.slice r.io r.gr.init.length r.ic,.bool r.gr.result,.int .i64 r.gr.keep,.slice r.no r.gr.nodes.length r.nc,.int .i64 r.gr.entry] 35))):=HB2.out.alloc (by simp;omega) _
 have g:((nA:Int) != (nA:Int))=false:=by simp
 cases bd
 rotate_left
 ·have HD:Hid (decide (hands (grs rs) ⟨ps,ks,cells,is,res,keep,nodes,entry⟩ true j args)=decide (inOrder args)):=Lib.hid (by
   rw [decide_eq_decide]
   unfold hands
   rw [HGL.out,HGR.out,← HPL.out,HAL.out]
   simp only [if_true,true_and]
   exact ⟨fun h=>h.2,fun h=>⟨HI0.out,h⟩⟩)
  have HA3:=Lib.hid (HA.out.below (HB3.out.mono hB))
  go_enter Tryz.func111,Tryz.ntmps111
  go_wp2_with (first
   | (go_at_call 95;refine (isOne_any _ _ _).mono ?_;rintro ee w2 ⟨rfl,rfl⟩;rw [HI.out])
   | (go_at_call 107;refine (inOrder_any B _ _ _ args _ HA3.out HAL.out (by omega)).mono ?_;rintro ee w2 ⟨rfl,rfl⟩))
  go_ret
  exact ⟨by rw [HD.out];rfl,HB3.out⟩
 have HHD:Hid (headHolds r.gr false):=Lib.hid (HH.out rfl _ (List.mem_map_of_mem (List.mem_of_getElem? HX.out)))
 have HCB3:=Lib.hid (HCB.out.alloc (.cells #[.slice r.po nA r.pc,.slice r.ko r.gr.kinds.length r.kc,.int .i64 r.gr.cells,.slice r.io r.gr.init.length r.ic,.bool r.gr.result,.int .i64 r.gr.keep,.slice r.no r.gr.nodes.length r.nc,.int .i64 r.gr.entry] 35))
 have HNB3:=Lib.hid (HNB.out.alloc (.cells #[.slice r.po nA r.pc,.slice r.ko r.gr.kinds.length r.kc,.int .i64 r.gr.cells,.slice r.io r.gr.init.length r.ic,.bool r.gr.result,.int .i64 r.gr.keep,.slice r.no r.gr.nodes.length r.nc,.int .i64 r.gr.entry] 35))
 have HGB3:Hid (Blk (((w.alloc (.cells #[.slice (some ⟨bf,off,none⟩) nF cF,.slice po nP pc,.slice ko nK kc,.int .i64 cells,.slice io nI ic,.bool res,.int .i64 keep,.slice no nN nc,.int .i64 entry,.bool false] 142)).alloc (.cells #[.int .u8 op,.int .u8 bop,.int .i64 d,.int .i64 e,.int .i64 a,.int .i64 b,.int .i64 j,.int .i64 cell,.int .u64 imm,.slice ao nA ac,.int .i64 nx,.int .i64 el] 47)).alloc (.cells #[.slice r.po nA r.pc,.slice r.ko r.gr.kinds.length r.kc,.int .i64 r.gr.cells,.slice r.io r.gr.init.length r.ic,.bool r.gr.result,.int .i64 r.gr.keep,.slice r.no r.gr.nodes.length r.nc,.int .i64 r.gr.entry] 35)) (w.heap.size+1+1) 35 #[.slice r.po nA r.pc,.slice r.ko r.gr.kinds.length r.kc,.int .i64 r.gr.cells,.slice r.io r.gr.init.length r.ic,.bool r.gr.result,.int .i64 r.gr.keep,.slice r.no r.gr.nodes.length r.nc,.int .i64 r.gr.entry]):=Lib.hid (by
  have:=Blk.new ((w.alloc (.cells #[.slice (some ⟨bf,off,none⟩) nF cF,.slice po nP pc,.slice ko nK kc,.int .i64 cells,.slice io nI ic,.bool res,.int .i64 keep,.slice no nN nc,.int .i64 entry,.bool false] 142)).alloc (.cells #[.int .u8 op,.int .u8 bop,.int .i64 d,.int .i64 e,.int .i64 a,.int .i64 b,.int .i64 j,.int .i64 cell,.int .u64 imm,.slice ao nA ac,.int .i64 nx,.int .i64 el] 47)) 35 #[.slice r.po nA r.pc,.slice r.ko r.gr.kinds.length r.kc,.int .i64 r.gr.cells,.slice r.io r.gr.init.length r.ic,.bool r.gr.result,.int .i64 r.gr.keep,.slice r.no r.gr.nodes.length r.nc,.int .i64 r.gr.entry]
  rwa [show ((w.alloc (.cells #[.slice (some ⟨bf,off,none⟩) nF cF,.slice po nP pc,.slice ko nK kc,.int .i64 cells,.slice io nI ic,.bool res,.int .i64 keep,.slice no nN nc,.int .i64 entry,.bool false] 142)).alloc (.cells #[.int .u8 op,.int .u8 bop,.int .i64 d,.int .i64 e,.int .i64 a,.int .i64 b,.int .i64 j,.int .i64 cell,.int .u64 imm,.slice ao nA ac,.int .i64 nx,.int .i64 el] 47)).heap.size=w.heap.size+1+1 by simp] at this)
 have HZ3:Hid ((((w.alloc (.cells #[.slice (some ⟨bf,off,none⟩) nF cF,.slice po nP pc,.slice ko nK kc,.int .i64 cells,.slice io nI ic,.bool res,.int .i64 keep,.slice no nN nc,.int .i64 entry,.bool false] 142)).alloc (.cells #[.int .u8 op,.int .u8 bop,.int .i64 d,.int .i64 e,.int .i64 a,.int .i64 b,.int .i64 j,.int .i64 cell,.int .u64 imm,.slice ao nA ac,.int .i64 nx,.int .i64 el] 47)).alloc (.cells #[.slice r.po nA r.pc,.slice r.ko r.gr.kinds.length r.kc,.int .i64 r.gr.cells,.slice r.io r.gr.init.length r.ic,.bool r.gr.result,.int .i64 r.gr.keep,.slice r.no r.gr.nodes.length r.nc,.int .i64 r.gr.entry] 35)).heap.size=w.heap.size+1+1+1):=Lib.hid (by simp)
 obtain ⟨W3,HW3⟩:∃ W,Hid (W=(((w.alloc (.cells #[.slice (some ⟨bf,off,none⟩) nF cF,.slice po nP pc,.slice ko nK kc,.int .i64 cells,.slice io nI ic,.bool res,.int .i64 keep,.slice no nN nc,.int .i64 entry,.bool false] 142)).alloc (.cells #[.int .u8 op,.int .u8 bop,.int .i64 d,.int .i64 e,.int .i64 a,.int .i64 b,.int .i64 j,.int .i64 cell,.int .u64 imm,.slice ao nA ac,.int .i64 nx,.int .i64 el] 47)).alloc (.cells #[.slice r.po nA r.pc,.slice r.ko r.gr.kinds.length r.kc,.int .i64 r.gr.cells,.slice r.io r.gr.init.length r.ic,.bool r.gr.result,.int .i64 r.gr.keep,.slice r.no r.gr.nodes.length r.nc,.int .i64 r.gr.entry] 35))):=⟨_,rfl⟩
 go_enter Tryz.func111,Tryz.ntmps111
 go_wp2_with (first | (go_at_call 95;refine (isOne_any _ _ _).mono ?_;rintro ee w2 ⟨rfl,rfl⟩;rw [HI.out]))
 rw [← HW3.out] at HB3 HCB3 HNB3 HGB3 HZ3 ⊢
 go_loopw [36] (fun i wr=>∃ k:Nat,k≤nA∧i=.int .i64 k∧Hid (Below W3.heap.size W3 wr)∧Hid (∀ i,i<k→fits ks false (args.getD i 0) (kindAt r.gr.kinds (r.gr.params.getD i 0)))) (fun i _=>nA-(intOf i).toNat)
 case atStart=>exact ⟨0,Nat.zero_le _,rfl,Below.refl _ _,Lib.hid (by intro i hi;omega)⟩
 case round =>
  obtain ⟨k,hkk,rfl,HBW,HFT⟩:=hrel
  have hz3:=HZ3.out
  have hzr:=HBW.out.size
  have HBB:Hid (Below w.heap.size w wr):=HB3.out.trans (HBW.out.mono (by omega))
  have HCR:=Lib.hid (HCB3.out.below HBW.out HCB3.out.lt)
  have HNR:=Lib.hid (HNB3.out.below HBW.out HNB3.out.lt)
  have HGR3:=Lib.hid (HGB3.out.below HBW.out HGB3.out.lt)
  have q0:wr.cell? ⟨w.heap.size+1+1,0,none⟩=some (.slice r.po nA r.pc):=HGR3.out.cell 0
  have q1:wr.cell? ⟨w.heap.size+1+1,1,none⟩=some (.slice r.ko r.gr.kinds.length r.kc):=HGR3.out.cell 1
  have hzc:w.heap.size<wr.heap.size:=by omega
  have hzg:w.heap.size+1+1<wr.heap.size:=by omega
  by_cases hlt:k<nA
  ·obtain ⟨ba,oa,x,rfl,hba,HXA,a1⟩:=(HA.out.below (HBB.out.mono hB)).int hlt
   have hPR:Reads wr B 1 r.po nA (i64c r.gr.params):=by
    have:=HRG.out.params.below (HBB.out.mono hB)
    rwa [← HPL.out] at this
   obtain ⟨bp,op2,z,hpo,hbp,HXP,p1⟩:=hPR.int hlt
   have hzo:isOne z r.gr.kinds.length:=by
    have h1:=HHD.out.2.2.2.1.2
    rw [if_neg (by simp)] at h1
    have h2:=(h1 k (by rw [← HPL.out];exact hlt)).1
    rwa [show r.gr.params.getD k 0=z by simp [List.getD,HXP.out]] at h2
   obtain ⟨m,rfl⟩:∃ m:Nat,z=(m:Int):=⟨z.toNat,by have:=hzo.1;omega⟩
   have hm:m<r.gr.kinds.length:=by have:=hzo.2;omega
   obtain ⟨bk,ok,y,hko,hbk,HXK,k1⟩:=(HRG.out.kinds.below (HBB.out.mono hB)).byte hm
   rw [hpo] at q0
   rw [hko] at q1
   have hka:kindAt r.gr.kinds (r.gr.params.getD k 0)=y:=by
    rw [show r.gr.params.getD k 0=(m:Int) by simp [List.getD,HXP.out]]
    simp [kindAt,List.getD,HXK.out]
   have hax:args.getD k 0=x:=by simp [List.getD,HXA.out]
   have HKA:=Lib.hid hka
   have HAX:=Lib.hid hax
   have l1:ba<wr.heap.size:=by omega
   have l2:bp<wr.heap.size:=by omega
   have l3:bk<wr.heap.size:=by omega
   have HKR:=Lib.hid (HK.out.below (HBB.out.mono hB))
   have hBr:B≤wr.heap.size:=by omega
   have c0:wr.cell? ⟨w.heap.size,0,none⟩=some (.slice (some ⟨bf,off,none⟩) nF cF):=HCR.out.cell 0
   have c1:wr.cell? ⟨w.heap.size,1,none⟩=some (.slice po nP pc):=HCR.out.cell 1
   have c2:wr.cell? ⟨w.heap.size,2,none⟩=some (.slice ko nK kc):=HCR.out.cell 2
   have c3:wr.cell? ⟨w.heap.size,3,none⟩=some (.int .i64 cells):=HCR.out.cell 3
   have c4:wr.cell? ⟨w.heap.size,4,none⟩=some (.slice io nI ic):=HCR.out.cell 4
   have c5:wr.cell? ⟨w.heap.size,5,none⟩=some (.bool res):=HCR.out.cell 5
   have c6:wr.cell? ⟨w.heap.size,6,none⟩=some (.int .i64 keep):=HCR.out.cell 6
   have c7:wr.cell? ⟨w.heap.size,7,none⟩=some (.slice no nN nc):=HCR.out.cell 7
   have c8:wr.cell? ⟨w.heap.size,8,none⟩=some (.int .i64 entry):=HCR.out.cell 8
   have c9:wr.cell? ⟨w.heap.size,9,none⟩=some (.bool false):=HCR.out.cell 9

   clear hPR hpo hko hka hax hzo hz3 hzr
   by_cases hft:fits ks false x y
   ·have HT:Hid (decide (∀ p ∈ [x],fits ks false p y)=true):=Lib.hid (by rw [all_one (fun p=>fits ks false p y)];exact decide_eq_true hft)
    have HFT2:Hid (∀ i,i<k+1→fits ks false (args.getD i 0) (kindAt r.gr.kinds (r.gr.params.getD i 0))):=Lib.hid (by
     intro i hi
     by_cases hik:i<k
     ·exact HFT.out i hik
     ·obtain rfl:i=k:=by omega
      rw [HKA.out,HAX.out];exact hft)
    clear hft
    go_wp2
    go_region_held3 (fun W=>W.cell? ⟨w.heap.size,0,none⟩=some (.slice (some ⟨bf,off,none⟩) nF cF)∧W.cell? ⟨w.heap.size,1,none⟩=some (.slice po nP pc)∧W.cell? ⟨w.heap.size,2,none⟩=some (.slice ko nK kc)∧W.cell? ⟨w.heap.size,3,none⟩=some (.int .i64 cells)∧W.cell? ⟨w.heap.size,4,none⟩=some (.slice io nI ic)∧W.cell? ⟨w.heap.size,5,none⟩=some (.bool res)∧W.cell? ⟨w.heap.size,6,none⟩=some (.int .i64 keep)∧W.cell? ⟨w.heap.size,7,none⟩=some (.slice no nN nc)∧W.cell? ⟨w.heap.size,8,none⟩=some (.int .i64 entry)∧W.cell? ⟨w.heap.size,9,none⟩=some (.bool false)∧W.cell? ⟨w.heap.size+1+1,0,none⟩=some (.slice (some ⟨bp,op2,none⟩) nA r.pc)∧W.cell? ⟨w.heap.size+1+1,1,none⟩=some (.slice (some ⟨bk,ok,none⟩) r.gr.kinds.length r.kc)∧W.cell? ⟨bp,op2+k,none⟩=some (.int .i64 m)∧W.cell? ⟨bk,ok+m,none⟩=some (.int .u8 y))
     (first | go_keep | exact hS5)
     (first
      | (go_at_call 108;refine (are_lit B _ [x] 1 ks y _ _ _ _ _ _ _ _ _ _ _ _ _ _ _ _ _ _ _ _ wr _ rfl (by omega) HKR.out HKL.out hBr (by first | rfl | simp) (by first | exact .inl rfl | exact .inr rfl)).mono ?_;rintro ee w5 ⟨rfl,hb5⟩;have hS5:=And.intro ((hb5.cell (p:=⟨w.heap.size,0,none⟩) hzc).trans c0) (And.intro ((hb5.cell (p:=⟨w.heap.size,1,none⟩) hzc).trans c1) (And.intro ((hb5.cell (p:=⟨w.heap.size,2,none⟩) hzc).trans c2) (And.intro ((hb5.cell (p:=⟨w.heap.size,3,none⟩) hzc).trans c3) (And.intro ((hb5.cell (p:=⟨w.heap.size,4,none⟩) hzc).trans c4) (And.intro ((hb5.cell (p:=⟨w.heap.size,5,none⟩) hzc).trans c5) (And.intro ((hb5.cell (p:=⟨w.heap.size,6,none⟩) hzc).trans c6) (And.intro ((hb5.cell (p:=⟨w.heap.size,7,none⟩) hzc).trans c7) (And.intro ((hb5.cell (p:=⟨w.heap.size,8,none⟩) hzc).trans c8) (And.intro ((hb5.cell (p:=⟨w.heap.size,9,none⟩) hzc).trans c9) (And.intro ((hb5.cell (p:=⟨w.heap.size+1+1,0,none⟩) hzg).trans q0) (And.intro ((hb5.cell (p:=⟨w.heap.size+1+1,1,none⟩) hzg).trans q1) (And.intro ((hb5.cell (p:=⟨bp,op2+k,none⟩) l2).trans p1) ((hb5.cell (p:=⟨bk,ok+m,none⟩) l3).trans k1)))))))))))));have HB5:=Lib.hid hb5;clear hb5;rw [HT.out]))
    go_wp2
    go_roundw
    case rel=>exact ⟨k+1,by omega,by go_num,HBW.out.trans (HB5.out.mono HBW.out.size),HFT2⟩
    case measure=>simp [intOf];omega
   ·have HT:Hid (decide (∀ p ∈ [x],fits ks false p y)=false):=Lib.hid (by rw [all_one (fun p=>fits ks false p y)];exact decide_eq_false hft)
    have HD:Hid (decide (hands (grs rs) ⟨ps,ks,cells,is,res,keep,nodes,entry⟩ false j args)=false):=Lib.hid (by
     rw [decide_eq_false_iff_not]
     rintro ⟨_,_,h⟩
     rw [if_neg (by simp),HGR.out] at h
     have:=h k (by rw [HAL.out];exact hlt)
     rw [HKA.out,HAX.out] at this
     exact hft this)
    clear hft
    go_wp2
    go_region_held3 (fun W=>W.cell? ⟨w.heap.size,0,none⟩=some (.slice (some ⟨bf,off,none⟩) nF cF)∧W.cell? ⟨w.heap.size,1,none⟩=some (.slice po nP pc)∧W.cell? ⟨w.heap.size,2,none⟩=some (.slice ko nK kc)∧W.cell? ⟨w.heap.size,3,none⟩=some (.int .i64 cells)∧W.cell? ⟨w.heap.size,4,none⟩=some (.slice io nI ic)∧W.cell? ⟨w.heap.size,5,none⟩=some (.bool res)∧W.cell? ⟨w.heap.size,6,none⟩=some (.int .i64 keep)∧W.cell? ⟨w.heap.size,7,none⟩=some (.slice no nN nc)∧W.cell? ⟨w.heap.size,8,none⟩=some (.int .i64 entry)∧W.cell? ⟨w.heap.size,9,none⟩=some (.bool false)∧W.cell? ⟨w.heap.size+1+1,0,none⟩=some (.slice (some ⟨bp,op2,none⟩) nA r.pc)∧W.cell? ⟨w.heap.size+1+1,1,none⟩=some (.slice (some ⟨bk,ok,none⟩) r.gr.kinds.length r.kc)∧W.cell? ⟨bp,op2+k,none⟩=some (.int .i64 m)∧W.cell? ⟨bk,ok+m,none⟩=some (.int .u8 y))
     (first | go_keep | exact hS5)
     (first
      | (go_at_call 108;refine (are_lit B _ [x] 1 ks y _ _ _ _ _ _ _ _ _ _ _ _ _ _ _ _ _ _ _ _ wr _ rfl (by omega) HKR.out HKL.out hBr (by first | rfl | simp) (by first | exact .inl rfl | exact .inr rfl)).mono ?_;rintro ee w5 ⟨rfl,hb5⟩;have hS5:=And.intro ((hb5.cell (p:=⟨w.heap.size,0,none⟩) hzc).trans c0) (And.intro ((hb5.cell (p:=⟨w.heap.size,1,none⟩) hzc).trans c1) (And.intro ((hb5.cell (p:=⟨w.heap.size,2,none⟩) hzc).trans c2) (And.intro ((hb5.cell (p:=⟨w.heap.size,3,none⟩) hzc).trans c3) (And.intro ((hb5.cell (p:=⟨w.heap.size,4,none⟩) hzc).trans c4) (And.intro ((hb5.cell (p:=⟨w.heap.size,5,none⟩) hzc).trans c5) (And.intro ((hb5.cell (p:=⟨w.heap.size,6,none⟩) hzc).trans c6) (And.intro ((hb5.cell (p:=⟨w.heap.size,7,none⟩) hzc).trans c7) (And.intro ((hb5.cell (p:=⟨w.heap.size,8,none⟩) hzc).trans c8) (And.intro ((hb5.cell (p:=⟨w.heap.size,9,none⟩) hzc).trans c9) (And.intro ((hb5.cell (p:=⟨w.heap.size+1+1,0,none⟩) hzg).trans q0) (And.intro ((hb5.cell (p:=⟨w.heap.size+1+1,1,none⟩) hzg).trans q1) (And.intro ((hb5.cell (p:=⟨bp,op2+k,none⟩) l2).trans p1) ((hb5.cell (p:=⟨bk,ok+m,none⟩) l3).trans k1)))))))))))));have HB5:=Lib.hid hb5;clear hb5;rw [HT.out]))
    go_wp2
    go_ret
    exact ⟨by rw [HD.out];rfl,HBB.out.trans (HB5.out.mono HBB.out.size)⟩
  ·obtain rfl:nA=k:=by omega
   have HD:Hid (decide (hands (grs rs) ⟨ps,ks,cells,is,res,keep,nodes,entry⟩ false j args)=true):=Lib.hid (by
    rw [decide_eq_true_eq]
    refine ⟨by rw [HGL.out];exact HI0.out,by rw [HGR.out,← HPL.out,HAL.out],?_⟩
    rw [if_neg (by simp),HGR.out,HAL.out]
    exact HFT.out)
   go_wp2
   go_ret
   exact ⟨by rw [HD.out];rfl,HBB.out⟩
theorem uses_a (B:Nat) (rs:List RG) (ps ks is:List Int) (nodes:List Nd) (fo:Option Addr) (nF cF:Nat) (po ko io no:Option Addr) (nP pc nK kc nI ic nN nc:Nat) (cells keep entry:Int) (res bd:Bool) (op bop d e a b f cell imm:Int) (args:List Int) (nx el:Int) (ao:Option Addr) (nA ac:Nat) (w:World) (HF0:RdP w B fo nF rs) (hk:Reads w B 1 ko nK (u8c ks)) (hkl:ks.length=nK) (ha:Reads w B 1 ao nA (i64c args)) (hal:args.length=nA) (hnA:nA*8≤140737488351232) (hB:B≤w.heap.size)
  (hh:bd=false→∀ g ∈ grs rs,headHolds g false) (hop:op=1∨op=16∨op=9∨op=14∨op=17∨op=18∨op=10) :
  Calls Tryz.prog 98 #[.agg #[.slice fo nF cF,.slice po nP pc,.slice ko nK kc,.int .i64 cells,.slice io nI ic,.bool res,.int .i64 keep,.slice no nN nc,.int .i64 entry,.bool bd],.agg #[.int .u8 op,.int .u8 bop,.int .i64 d,.int .i64 e,.int .i64 a,.int .i64 b,.int .i64 f,.int .i64 cell,.int .u64 imm,.slice ao nA ac,.int .i64 nx,.int .i64 el]] w fun ee w'=>ee=.returned (.bool (decide (uses (grs rs) ⟨ps,ks,cells,is,res,keep,nodes,entry⟩ bd ⟨op,bop,d,e,a,b,f,cell,imm,args,nx,el⟩)))∧Below w.heap.size w w':=by
 have HB2:Hid (Below w.heap.size w ((w.alloc (.cells #[.slice fo nF cF,.slice po nP pc,.slice ko nK kc,.int .i64 cells,.slice io nI ic,.bool res,.int .i64 keep,.slice no nN nc,.int .i64 entry,.bool bd] 142)).alloc (.cells #[.int .u8 op,.int .u8 bop,.int .i64 d,.int .i64 e,.int .i64 a,.int .i64 b,.int .i64 f,.int .i64 cell,.int .u64 imm,.slice ao nA ac,.int .i64 nx,.int .i64 el] 47))):=((Below.refl _ _).alloc (Nat.le_refl _) _).alloc (by simp) _
 have HCB:Hid (Blk ((w.alloc (.cells #[.slice fo nF cF,.slice po nP pc,.slice ko nK kc,.int .i64 cells,.slice io nI ic,.bool res,.int .i64 keep,.slice no nN nc,.int .i64 entry,.bool bd] 142)).alloc (.cells #[.int .u8 op,.int .u8 bop,.int .i64 d,.int .i64 e,.int .i64 a,.int .i64 b,.int .i64 f,.int .i64 cell,.int .u64 imm,.slice ao nA ac,.int .i64 nx,.int .i64 el] 47)) w.heap.size 142 #[.slice fo nF cF,.slice po nP pc,.slice ko nK kc,.int .i64 cells,.slice io nI ic,.bool res,.int .i64 keep,.slice no nN nc,.int .i64 entry,.bool bd]):=Lib.hid ((Blk.new w 142 #[.slice fo nF cF,.slice po nP pc,.slice ko nK kc,.int .i64 cells,.slice io nI ic,.bool res,.int .i64 keep,.slice no nN nc,.int .i64 entry,.bool bd]).alloc _)
 have HNB:Hid (Blk ((w.alloc (.cells #[.slice fo nF cF,.slice po nP pc,.slice ko nK kc,.int .i64 cells,.slice io nI ic,.bool res,.int .i64 keep,.slice no nN nc,.int .i64 entry,.bool bd] 142)).alloc (.cells #[.int .u8 op,.int .u8 bop,.int .i64 d,.int .i64 e,.int .i64 a,.int .i64 b,.int .i64 f,.int .i64 cell,.int .u64 imm,.slice ao nA ac,.int .i64 nx,.int .i64 el] 47)) (w.heap.size+1) 47 #[.int .u8 op,.int .u8 bop,.int .i64 d,.int .i64 e,.int .i64 a,.int .i64 b,.int .i64 f,.int .i64 cell,.int .u64 imm,.slice ao nA ac,.int .i64 nx,.int .i64 el]):=Lib.hid (by
  have:=Blk.new (w.alloc (.cells #[.slice fo nF cF,.slice po nP pc,.slice ko nK kc,.int .i64 cells,.slice io nI ic,.bool res,.int .i64 keep,.slice no nN nc,.int .i64 entry,.bool bd] 142)) 47 #[.int .u8 op,.int .u8 bop,.int .i64 d,.int .i64 e,.int .i64 a,.int .i64 b,.int .i64 f,.int .i64 cell,.int .u64 imm,.slice ao nA ac,.int .i64 nx,.int .i64 el]
  rwa [show (w.alloc (.cells #[.slice fo nF cF,.slice po nP pc,.slice ko nK kc,.int .i64 cells,.slice io nI ic,.bool res,.int .i64 keep,.slice no nN nc,.int .i64 entry,.bool bd] 142)).heap.size=w.heap.size+1 by simp] at this)
 have HF:=Lib.hid (HF0.below (HB2.out.mono hB))
 have HK:=Lib.hid (hk.below (HB2.out.mono hB))
 have HKL:=Lib.hid hkl
 have HA:=Lib.hid (ha.below (HB2.out.mono hB))
 have HAL:=Lib.hid hal
 have HH:=Lib.hid hh
 have HGL:Hid ((grs rs).length=nF):=Lib.hid (by rw [length_grs,HF0.len])
 have hB2:B≤((w.alloc (.cells #[.slice fo nF cF,.slice po nP pc,.slice ko nK kc,.int .i64 cells,.slice io nI ic,.bool res,.int .i64 keep,.slice no nN nc,.int .i64 entry,.bool bd] 142)).alloc (.cells #[.int .u8 op,.int .u8 bop,.int .i64 d,.int .i64 e,.int .i64 a,.int .i64 b,.int .i64 f,.int .i64 cell,.int .u64 imm,.slice ao nA ac,.int .i64 nx,.int .i64 el] 47)).heap.size:=by simp;omega
 have HZ2:Hid (w.heap.size+1+1=((w.alloc (.cells #[.slice fo nF cF,.slice po nP pc,.slice ko nK kc,.int .i64 cells,.slice io nI ic,.bool res,.int .i64 keep,.slice no nN nc,.int .i64 entry,.bool bd] 142)).alloc (.cells #[.int .u8 op,.int .u8 bop,.int .i64 d,.int .i64 e,.int .i64 a,.int .i64 b,.int .i64 f,.int .i64 cell,.int .u64 imm,.slice ao nA ac,.int .i64 nx,.int .i64 el] 47)).heap.size):=Lib.hid (by simp)
 clear hk hkl HF0 ha hal hh
 rcases hop with rfl | rfl | rfl | rfl | rfl | rfl | rfl
 ·-- 1
  have HU:Hid (uses (grs rs) ⟨ps,ks,cells,is,res,keep,nodes,entry⟩ bd ⟨1,bop,d,e,a,b,f,cell,imm,args,nx,el⟩↔fits ks bd d 0):=Lib.hid (by unfold uses;rw [if_pos (by simp)];all_goals exact Iff.rfl)
  have HD:Hid (decide (∀ p ∈ [d],fits ks bd p 0)=decide (uses (grs rs) ⟨ps,ks,cells,is,res,keep,nodes,entry⟩ bd ⟨1,bop,d,e,a,b,f,cell,imm,args,nx,el⟩)):=Lib.hid (by rw [decide_eq_decide,HU.out];simp)
  go_enter Tryz.func98,Tryz.ntmps98
  go_wp2_with (first | (go_at_call 108;refine (are_lit B _ [d] 1 ks 0 _ _ _ _ _ _ _ _ _ _ _ _ _ _ _ _ _ _ _ _ _ _ rfl (by omega) HK.out HKL.out hB2 HZ2.out (by first | exact .inl rfl | exact .inr rfl)).mono ?_;rintro ee w3 ⟨rfl,hb3⟩;have HB3:=Lib.hid hb3;clear hb3;rw [HD.out]))
  go_ret
  exact ⟨rfl,HB2.out.trans (HB3.out.mono (by simp;omega))⟩
 ·-- 16
  have HU:Hid (uses (grs rs) ⟨ps,ks,cells,is,res,keep,nodes,entry⟩ bd ⟨16,bop,d,e,a,b,f,cell,imm,args,nx,el⟩↔fits ks bd d 0):=Lib.hid (by unfold uses;rw [if_pos (by simp)];all_goals exact Iff.rfl)
  have HD:Hid (decide (∀ p ∈ [d],fits ks bd p 0)=decide (uses (grs rs) ⟨ps,ks,cells,is,res,keep,nodes,entry⟩ bd ⟨16,bop,d,e,a,b,f,cell,imm,args,nx,el⟩)):=Lib.hid (by rw [decide_eq_decide,HU.out];simp)
  go_enter Tryz.func98,Tryz.ntmps98
  go_wp2_with (first | (go_at_call 108;refine (are_lit B _ [d] 1 ks 0 _ _ _ _ _ _ _ _ _ _ _ _ _ _ _ _ _ _ _ _ _ _ rfl (by omega) HK.out HKL.out hB2 HZ2.out (by first | exact .inl rfl | exact .inr rfl)).mono ?_;rintro ee w3 ⟨rfl,hb3⟩;have HB3:=Lib.hid hb3;clear hb3;rw [HD.out]))
  go_ret
  exact ⟨rfl,HB2.out.trans (HB3.out.mono (by simp;omega))⟩
 ·-- 9
  have HU:Hid (uses (grs rs) ⟨ps,ks,cells,is,res,keep,nodes,entry⟩ bd ⟨9,bop,d,e,a,b,f,cell,imm,args,nx,el⟩↔fits ks bd a 0):=Lib.hid (by unfold uses;rw [if_neg (by simp)];rw [if_neg (by simp)];rw [if_neg (by simp)];rw [if_neg (by simp)];rw [if_neg (by simp)];rw [if_neg (by simp)];rw [if_neg (by simp)];rw [if_neg (by simp)];rw [if_pos (by simp)];all_goals exact Iff.rfl)
  have HD:Hid (decide (∀ p ∈ [a],fits ks bd p 0)=decide (uses (grs rs) ⟨ps,ks,cells,is,res,keep,nodes,entry⟩ bd ⟨9,bop,d,e,a,b,f,cell,imm,args,nx,el⟩)):=Lib.hid (by rw [decide_eq_decide,HU.out];simp)
  go_enter Tryz.func98,Tryz.ntmps98
  go_wp2_with (first | (go_at_call 108;refine (are_lit B _ [a] 1 ks 0 _ _ _ _ _ _ _ _ _ _ _ _ _ _ _ _ _ _ _ _ _ _ rfl (by omega) HK.out HKL.out hB2 HZ2.out (by first | exact .inl rfl | exact .inr rfl)).mono ?_;rintro ee w3 ⟨rfl,hb3⟩;have HB3:=Lib.hid hb3;clear hb3;rw [HD.out]))
  go_ret
  exact ⟨rfl,HB2.out.trans (HB3.out.mono (by simp;omega))⟩
 ·-- 14
  have HU:Hid (uses (grs rs) ⟨ps,ks,cells,is,res,keep,nodes,entry⟩ bd ⟨14,bop,d,e,a,b,f,cell,imm,args,nx,el⟩↔fits ks bd a 0):=Lib.hid (by unfold uses;rw [if_neg (by simp)];rw [if_neg (by simp)];rw [if_neg (by simp)];rw [if_neg (by simp)];rw [if_neg (by simp)];rw [if_neg (by simp)];rw [if_neg (by simp)];rw [if_neg (by simp)];rw [if_pos (by simp)];all_goals exact Iff.rfl)
  have HD:Hid (decide (∀ p ∈ [a],fits ks bd p 0)=decide (uses (grs rs) ⟨ps,ks,cells,is,res,keep,nodes,entry⟩ bd ⟨14,bop,d,e,a,b,f,cell,imm,args,nx,el⟩)):=Lib.hid (by rw [decide_eq_decide,HU.out];simp)
  go_enter Tryz.func98,Tryz.ntmps98
  go_wp2_with (first | (go_at_call 108;refine (are_lit B _ [a] 1 ks 0 _ _ _ _ _ _ _ _ _ _ _ _ _ _ _ _ _ _ _ _ _ _ rfl (by omega) HK.out HKL.out hB2 HZ2.out (by first | exact .inl rfl | exact .inr rfl)).mono ?_;rintro ee w3 ⟨rfl,hb3⟩;have HB3:=Lib.hid hb3;clear hb3;rw [HD.out]))
  go_ret
  exact ⟨rfl,HB2.out.trans (HB3.out.mono (by simp;omega))⟩
 ·-- 17
  have HU:Hid (uses (grs rs) ⟨ps,ks,cells,is,res,keep,nodes,entry⟩ bd ⟨17,bop,d,e,a,b,f,cell,imm,args,nx,el⟩↔fits ks bd a 0):=Lib.hid (by unfold uses;rw [if_neg (by simp)];rw [if_neg (by simp)];rw [if_neg (by simp)];rw [if_neg (by simp)];rw [if_neg (by simp)];rw [if_neg (by simp)];rw [if_neg (by simp)];rw [if_neg (by simp)];rw [if_pos (by simp)];all_goals exact Iff.rfl)
  have HD:Hid (decide (∀ p ∈ [a],fits ks bd p 0)=decide (uses (grs rs) ⟨ps,ks,cells,is,res,keep,nodes,entry⟩ bd ⟨17,bop,d,e,a,b,f,cell,imm,args,nx,el⟩)):=Lib.hid (by rw [decide_eq_decide,HU.out];simp)
  go_enter Tryz.func98,Tryz.ntmps98
  go_wp2_with (first | (go_at_call 108;refine (are_lit B _ [a] 1 ks 0 _ _ _ _ _ _ _ _ _ _ _ _ _ _ _ _ _ _ _ _ _ _ rfl (by omega) HK.out HKL.out hB2 HZ2.out (by first | exact .inl rfl | exact .inr rfl)).mono ?_;rintro ee w3 ⟨rfl,hb3⟩;have HB3:=Lib.hid hb3;clear hb3;rw [HD.out]))
  go_ret
  exact ⟨rfl,HB2.out.trans (HB3.out.mono (by simp;omega))⟩
 ·-- 18
  have HU:Hid (uses (grs rs) ⟨ps,ks,cells,is,res,keep,nodes,entry⟩ bd ⟨18,bop,d,e,a,b,f,cell,imm,args,nx,el⟩↔fits ks bd a 0):=Lib.hid (by unfold uses;rw [if_neg (by simp)];rw [if_neg (by simp)];rw [if_neg (by simp)];rw [if_neg (by simp)];rw [if_neg (by simp)];rw [if_neg (by simp)];rw [if_neg (by simp)];rw [if_neg (by simp)];rw [if_pos (by simp)];all_goals exact Iff.rfl)
  have HD:Hid (decide (∀ p ∈ [a],fits ks bd p 0)=decide (uses (grs rs) ⟨ps,ks,cells,is,res,keep,nodes,entry⟩ bd ⟨18,bop,d,e,a,b,f,cell,imm,args,nx,el⟩)):=Lib.hid (by rw [decide_eq_decide,HU.out];simp)
  go_enter Tryz.func98,Tryz.ntmps98
  go_wp2_with (first | (go_at_call 108;refine (are_lit B _ [a] 1 ks 0 _ _ _ _ _ _ _ _ _ _ _ _ _ _ _ _ _ _ _ _ _ _ rfl (by omega) HK.out HKL.out hB2 HZ2.out (by first | exact .inl rfl | exact .inr rfl)).mono ?_;rintro ee w3 ⟨rfl,hb3⟩;have HB3:=Lib.hid hb3;clear hb3;rw [HD.out]))
  go_ret
  exact ⟨rfl,HB2.out.trans (HB3.out.mono (by simp;omega))⟩
 ·-- 10
  have HD:Hid (decide (uses (grs rs) ⟨ps,ks,cells,is,res,keep,nodes,entry⟩ bd ⟨10,bop,d,e,a,b,f,cell,imm,args,nx,el⟩)=true):=Lib.hid (by rw [decide_eq_true_eq];unfold uses;rw [if_neg (by simp)];rw [if_neg (by simp)];rw [if_neg (by simp)];rw [if_neg (by simp)];rw [if_neg (by simp)];rw [if_neg (by simp)];rw [if_neg (by simp)];rw [if_neg (by simp)];rw [if_neg (by simp)];rw [if_pos (by simp)];all_goals exact trivial)
  go_enter Tryz.func98,Tryz.ntmps98
  go_wp2
  go_ret
  exact ⟨by rw [HD.out];rfl,HB2.out⟩
end Go.Proofs.YtedmcfaghfgpoaaGreatDoor
