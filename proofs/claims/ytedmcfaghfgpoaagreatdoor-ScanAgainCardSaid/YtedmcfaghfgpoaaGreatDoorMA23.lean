/-
  Texts of one seat, one behind the other: Rs, JSg.
-/
import Derived.Deep.RegionHeld3
import Derived.Deep.DeepCutAuto
import Derived.StillTailTactics
import Derived.Test.YtedmcfaghfgpoaaGreatDoorMA22
import Derived.Test.YtedmcfaghfgpoaaGreatDoorMA20
import Derived.Test.YtedmcfaghfgpoaaGreatDoorMA21

set_option linter.unusedVariables false
set_option linter.unusedSimpArgs false
set_option maxRecDepth 100000
set_option maxHeartbeats 51200000
namespace Go.Proofs.YtedmcfaghfgpoaaGreatDoor
open Go.ChangeShapes Go.WideShapes Go.ChangeAt Go.RowKit
theorem rsn_rn (B:Nat) (i j:RN) (w:World) (h:RdN w B i) (h':RdN w B j) (hw:WfN i.nd) (hw':WfN j.nd) (hB:B≤w.heap.size) :
  Calls Tryz.prog 20 #[.agg #[.int .u8 i.nd.op,.int .u8 i.nd.bop,.int .i64 i.nd.d,.int .i64 i.nd.e,.int .i64 i.nd.a,.int .i64 i.nd.b,.int .i64 i.nd.f,.int .i64 i.nd.cell,.int .u64 i.nd.imm,.slice i.ao i.nd.args.length i.ac,.int .i64 i.nd.next,.int .i64 i.nd.els],.agg #[.int .u8 j.nd.op,.int .u8 j.nd.bop,.int .i64 j.nd.d,.int .i64 j.nd.e,.int .i64 j.nd.a,.int .i64 j.nd.b,.int .i64 j.nd.f,.int .i64 j.nd.cell,.int .u64 j.nd.imm,.slice j.ao j.nd.args.length j.ac,.int .i64 j.nd.next,.int .i64 j.nd.els]] w fun e w'=>e=.returned (.bool (decide (i.nd=j.nd)))∧Below w.heap.size w w' :=
 rsn_any B _ _ _ _ _ _ _ _ _ _ _ _ _ _ _ _ _ _ _ _ _ _ _ _ _ _ _ _ _ _ w h.args rfl (by have:=hw.al;omega) h'.args rfl (by have:=hw'.al;omega) hB

theorem below_two (w:World) (t u:TypeId) (cs ds:Array Value):Below w.heap.size w ((w.alloc (.cells cs t)).alloc (.cells ds u)).drew:=(((Below.refl _ _).alloc (Nat.le_refl _) _).alloc (by simp) _).drew
theorem rsame_any (B:Nat) (ao bo:Option Addr) (n m c d:Nat) (ra rb:List RG) (w:World) (ha:RdP w B ao n ra) (hb:RdP w B bo m rb) (hB:B≤w.heap.size) :
  Calls Tryz.prog 13 #[.agg #[.slice ao n c],.agg #[.slice bo m d]] w fun e w'=>e=.returned (.bool (decide (grs ra=grs rb)))∧Below w.heap.size w w':=by
 have HA:=Lib.hid ha
 have HB:=Lib.hid hb
 have s1:=ha.sz
 have s2:=hb.sz
 have HN:Hid ((grs ra).length=n):=Lib.hid (by rw [length_grs,ha.len])
 have HM:Hid ((grs rb).length=m):=Lib.hid (by rw [length_grs,hb.len])
 have HW0:Hid (Below w.heap.size w ((w.alloc (.cells #[.slice ao n c] 24)).alloc (.cells #[.slice bo m d] 24))):=((Below.refl _ _).alloc (Nat.le_refl _) _).alloc (by simp) _
 have HX0:Hid (Blk ((w.alloc (.cells #[.slice ao n c] 24)).alloc (.cells #[.slice bo m d] 24)) w.heap.size 24 #[.slice ao n c]):=Lib.hid ((Blk.new w 24 #[.slice ao n c]).alloc _)
 have HY0:Hid (Blk ((w.alloc (.cells #[.slice ao n c] 24)).alloc (.cells #[.slice bo m d] 24)) (w.heap.size+1) 24 #[.slice bo m d]):=Lib.hid (blk_2nd w _ _ _ _)
 clear ha hb
 by_cases hgt:n≠m
 ·have hr:decide (grs ra=grs rb)=false:=eq_len (by rw [HN.out,HM.out];exact hgt)
  have HR:=Lib.hid hr
  clear hr
  go_enter Tryz.func13,Tryz.ntmps13
  go_wp2
  go_ret
  exact ⟨by rw [HR.out];rfl,HW0.out⟩
 ·obtain rfl:n=m:=by omega
  clear hgt
  go_enter Tryz.func13,Tryz.ntmps13
  go_wp2
  go_loopw [19] (fun i wr=>∃ k:Nat,k≤n∧i=.int .i64 k∧Hid ((grs rb).take k=(grs ra).take k)∧Hid (Below w.heap.size w wr)∧Hid (Blk wr w.heap.size 24 #[.slice ao n c])∧Hid (Blk wr (w.heap.size+1) 24 #[.slice bo n d])) (fun i _=>n-(intOf i).toNat)
  case atStart=>exact ⟨0,Nat.zero_le _,rfl,rfl,HW0,HX0,HY0⟩
  case round =>
   clear HX0 HY0 HW0
   obtain ⟨k,hk,rfl,HP,HW,HBX,HBY⟩:=hrel
   have hz:=HW.out.size
   have hz2:=HBY.out.lt
   by_cases hlt:k<n
   ·obtain ⟨b1,o1,r,rfl,hbk1,HX,HRF,HWF,x0,x1,x2,x3,x4,x5,x6,x7⟩:=(HA.out.below (HW.out.mono hB)).gr hlt
    obtain ⟨b2,o2,s,rfl,hbk2,HY,HRG,HWG,y0,y1,y2,y3,y4,y5,y6,y7⟩:=(HB.out.below (HW.out.mono hB)).gr hlt
    have hbr1:b1<wr.heap.size:=by omega
    have hbr2:b2<wr.heap.size:=by omega
    have d0:wr.cell? ⟨w.heap.size,0,none⟩=some (.slice (some ⟨b1,o1,none⟩) n c):=HBX.out.cell 0
    have d1:wr.cell? ⟨w.heap.size+1,0,none⟩=some (.slice (some ⟨b2,o2,none⟩) n d):=HBY.out.cell 0
    have b0:r.gr.params.length≤140737488351232:=by have:=HWF.out.pl;omega
    have b0':s.gr.params.length≤140737488351232:=by have:=HWG.out.pl;omega
    have b1l:=HWF.out.kl
    have b1l':=HWG.out.kl
    have b3:r.gr.init.length≤140737488351232:=by have:=HWF.out.il;omega
    have b3':s.gr.init.length≤140737488351232:=by have:=HWG.out.il;omega
    have b6:r.gr.nodes.length≤140737488351232:=by have:=HWF.out.nl;omega
    have b6':s.gr.nodes.length≤140737488351232:=by have:=HWG.out.nl;omega
    obtain ⟨nP,e0⟩:∃ x,r.gr.params.length=x:=⟨_,rfl⟩
    obtain ⟨nK,e1⟩:∃ x,r.gr.kinds.length=x:=⟨_,rfl⟩
    obtain ⟨nI,e3⟩:∃ x,r.gr.init.length=x:=⟨_,rfl⟩
    obtain ⟨nN,e6⟩:∃ x,r.gr.nodes.length=x:=⟨_,rfl⟩
    obtain ⟨nP',f0⟩:∃ x,s.gr.params.length=x:=⟨_,rfl⟩
    obtain ⟨nK',f1⟩:∃ x,s.gr.kinds.length=x:=⟨_,rfl⟩
    obtain ⟨nI',f3⟩:∃ x,s.gr.init.length=x:=⟨_,rfl⟩
    obtain ⟨nN',f6⟩:∃ x,s.gr.nodes.length=x:=⟨_,rfl⟩
    rw [e0] at b0 x0
    rw [e1] at b1l x1
    rw [e3] at b3 x3
    rw [e6] at b6 x6
    rw [f0] at b0' y0
    rw [f1] at b1l' y1
    rw [f3] at b3' y3
    rw [f6] at b6' y6
    have HE0:=Lib.hid e0
    have HE1:=Lib.hid e1
    have HE3:=Lib.hid e3
    have HE6:=Lib.hid e6
    have HF0:=Lib.hid f0
    have HF1:=Lib.hid f1
    have HF3:=Lib.hid f3
    have HF6:=Lib.hid f6
    clear e0 e1 e3 e6 f0 f1 f3 f6
    go_upto_region 6 with fail
    go_cut [6,7] (fun s6 s7 wx=>∃ q6 q7:Nat,s6=.pointer (some ⟨q6,0,none⟩)∧s7=.pointer (some ⟨q7,0,none⟩)∧Hid (Below wr.heap.size wr wx)∧Hid (Blk wx q6 35 #[.slice r.po nP r.pc,.slice r.ko nK r.kc,.int .i64 r.gr.cells,.slice r.io nI r.ic,.bool r.gr.result,.int .i64 r.gr.keep,.slice r.no nN r.nc,.int .i64 r.gr.entry]) ∧
     Hid (Blk wx q7 35 #[.slice s.po nP' s.pc,.slice s.ko nK' s.kc,.int .i64 s.gr.cells,.slice s.io nI' s.ic,.bool s.gr.result,.int .i64 s.gr.keep,.slice s.no nN' s.nc,.int .i64 s.gr.entry]))
    case first =>
     go_region_held3 (fun W=>W.cell? ⟨w.heap.size,0,none⟩=some (.slice (some ⟨b1,o1,none⟩) n c)∧W.cell? ⟨w.heap.size+1,0,none⟩=some (.slice (some ⟨b2,o2,none⟩) n d) ∧
      W.cell? ⟨b1,o1+k*8,none⟩=some (.slice r.po nP r.pc)∧W.cell? ⟨b1,o1+k*8+1,none⟩=some (.slice r.ko nK r.kc)∧W.cell? ⟨b1,o1+k*8+2,none⟩=some (.int .i64 r.gr.cells)∧W.cell? ⟨b1,o1+k*8+3,none⟩=some (.slice r.io nI r.ic)∧W.cell? ⟨b1,o1+k*8+4,none⟩=some (.bool r.gr.result)∧W.cell? ⟨b1,o1+k*8+5,none⟩=some (.int .i64 r.gr.keep)∧W.cell? ⟨b1,o1+k*8+6,none⟩=some (.slice r.no nN r.nc)∧W.cell? ⟨b1,o1+k*8+7,none⟩=some (.int .i64 r.gr.entry)∧W.cell? ⟨b2,o2+k*8,none⟩=some (.slice s.po nP' s.pc)∧W.cell? ⟨b2,o2+k*8+1,none⟩=some (.slice s.ko nK' s.kc)∧W.cell? ⟨b2,o2+k*8+2,none⟩=some (.int .i64 s.gr.cells)∧W.cell? ⟨b2,o2+k*8+3,none⟩=some (.slice s.io nI' s.ic)∧W.cell? ⟨b2,o2+k*8+4,none⟩=some (.bool s.gr.result)∧W.cell? ⟨b2,o2+k*8+5,none⟩=some (.int .i64 s.gr.keep)∧W.cell? ⟨b2,o2+k*8+6,none⟩=some (.slice s.no nN' s.nc)∧W.cell? ⟨b2,o2+k*8+7,none⟩=some (.int .i64 s.gr.entry))
      (first | go_keep) (fail)
     all_goals
      go_wp2
      go_meet
     case rel=>exact ⟨wr.heap.size,wr.heap.size+1,rfl,rfl,below_two _ _ _ _ _,(Blk.new wr _ _).alloc _,blk_2nd _ _ _ _ _⟩
     case rel=>exact ⟨wr.heap.size+1,wr.heap.size,rfl,rfl,below_two _ _ _ _ _,blk_2nd _ _ _ _ _,(Blk.new wr _ _).alloc _⟩
    case rest =>
     obtain ⟨q6,q7,rfl,rfl,HC,HQ6,HQ7⟩:=hcut
     have HWC:=Lib.hid (HW.out.trans (HC.out.mono hz))
     have HBX2:=Lib.hid (HBX.out.below HC.out HBX.out.lt)
     have HBY2:=Lib.hid (HBY.out.below HC.out HBY.out.lt)
     have HXK:Hid ((grs ra)[k]?=some r.gr):=Lib.hid (by unfold grs;rw [List.getElem?_map,HX.out];rfl)
     have HYK:Hid ((grs rb)[k]?=some s.gr):=Lib.hid (by unfold grs;rw [List.getElem?_map,HY.out];rfl)
     have HRF2:=Lib.hid (HRF.out.keep fun p hp=>HC.out.cell (p:=p) (by omega))
     have HRG2:=Lib.hid (HRG.out.keep fun p hp=>HC.out.cell (p:=p) (by omega))
     have HNE:Hid (r.gr≠s.gr→decide (grs ra=grs rb)=false):=fun h=>eq_at HXK.out HYK.out h
     have HRP:Hid (Reads wc B 1 r.po nP (i64c r.gr.params)):=Lib.hid (by rw [← HE0.out];exact HRF2.out.params)
     have HRK:Hid (Reads wc B 1 r.ko nK (u8c r.gr.kinds)):=Lib.hid (by rw [← HE1.out];exact HRF2.out.kinds)
     have HRI:Hid (Reads wc B 1 r.io nI (i64c r.gr.init)):=Lib.hid (by rw [← HE3.out];exact HRF2.out.init)
     have HRN:Hid (RdNs wc B r.no nN r.ns):=Lib.hid (by rw [← HE6.out];exact HRF2.out.nodes)
     have HSP:Hid (Reads wc B 1 s.po nP' (i64c s.gr.params)):=Lib.hid (by rw [← HF0.out];exact HRG2.out.params)
     have HSK:Hid (Reads wc B 1 s.ko nK' (u8c s.gr.kinds)):=Lib.hid (by rw [← HF1.out];exact HRG2.out.kinds)
     have HSI:Hid (Reads wc B 1 s.io nI' (i64c s.gr.init)):=Lib.hid (by rw [← HF3.out];exact HRG2.out.init)
     have HSN:Hid (RdNs wc B s.no nN' s.ns):=Lib.hid (by rw [← HF6.out];exact HRG2.out.nodes)
     have HNN:Hid (nds r.ns=r.gr.nodes):=HRF.out.nd
     have HNS:Hid (nds s.ns=s.gr.nodes):=HRG.out.nd
     obtain ⟨rb1,hrb1⟩:∃ b,r.gr.result=b:=⟨_,rfl⟩
     obtain ⟨rb2,hrb2⟩:∃ b,s.gr.result=b:=⟨_,rfl⟩
     have HRB1:=Lib.hid hrb1
     have HRB2:=Lib.hid hrb2
     rw [hrb1] at HQ6
     rw [hrb2] at HQ7
     clear x0 x1 x2 x3 x4 x5 x6 x7 y0 y1 y2 y3 y4 y5 y6 y7 d0 d1 hrb1 hrb2 HRF HRG HRF2 HRG2 HX HY
     have z0:wc.cell? ⟨q6,0,none⟩=some (.slice r.po nP r.pc):=HQ6.out.cell 0
     have z1:wc.cell? ⟨q6,1,none⟩=some (.slice r.ko nK r.kc):=HQ6.out.cell 1
     have z2:wc.cell? ⟨q6,2,none⟩=some (.int .i64 r.gr.cells):=HQ6.out.cell 2
     have z3:wc.cell? ⟨q6,3,none⟩=some (.slice r.io nI r.ic):=HQ6.out.cell 3
     have z4:wc.cell? ⟨q6,4,none⟩=some (.bool rb1):=HQ6.out.cell 4
     have z5:wc.cell? ⟨q6,5,none⟩=some (.int .i64 r.gr.keep):=HQ6.out.cell 5
     have z6:wc.cell? ⟨q6,6,none⟩=some (.slice r.no nN r.nc):=HQ6.out.cell 6
     have z7:wc.cell? ⟨q6,7,none⟩=some (.int .i64 r.gr.entry):=HQ6.out.cell 7
     have y0:wc.cell? ⟨q7,0,none⟩=some (.slice s.po nP' s.pc):=HQ7.out.cell 0
     have y1:wc.cell? ⟨q7,1,none⟩=some (.slice s.ko nK' s.kc):=HQ7.out.cell 1
     have y2:wc.cell? ⟨q7,2,none⟩=some (.int .i64 s.gr.cells):=HQ7.out.cell 2
     have y3:wc.cell? ⟨q7,3,none⟩=some (.slice s.io nI' s.ic):=HQ7.out.cell 3
     have y4:wc.cell? ⟨q7,4,none⟩=some (.bool rb2):=HQ7.out.cell 4
     have y5:wc.cell? ⟨q7,5,none⟩=some (.int .i64 s.gr.keep):=HQ7.out.cell 5
     have y6:wc.cell? ⟨q7,6,none⟩=some (.slice s.no nN' s.nc):=HQ7.out.cell 6
     have y7:wc.cell? ⟨q7,7,none⟩=some (.int .i64 s.gr.entry):=HQ7.out.cell 7
     by_cases c0:r.gr.params=s.gr.params
     rotate_left
     ·have HR:=Lib.hid (HNE.out fun h=>c0 (congrArg Gr.params h))
      have HQ0:Hid (decide (r.gr.params=s.gr.params)=false):=Lib.hid (by simpa using c0)
      clear c0
      go_wp2_with (first
      | (go_at_call 12;with_reducible refine (rsi_any B r.po s.po nP nP' r.pc s.pc r.gr.params s.gr.params _ (by with_unfolding_all exact HRP.out.keep fun _ _=>rfl) (by with_unfolding_all exact HSP.out.keep fun _ _=>rfl) HE0.out HF0.out b0 b0').mono ?_;rintro ee w2 ⟨rfl,q0,rfl⟩;rw [HQ0.out])
      | (go_at_call 19;with_reducible refine (rsk_any B r.ko s.ko nK nK' r.kc s.kc r.gr.kinds s.gr.kinds _ (by with_unfolding_all exact HRK.out.keep fun _ _=>rfl) (by with_unfolding_all exact HSK.out.keep fun _ _=>rfl) HE1.out HF1.out b1l b1l').mono ?_;rintro ee w2 ⟨rfl,q1,rfl⟩;rw [HQ1.out])
      | (go_at_call 12;with_reducible refine (rsi_any B r.io s.io nI nI' r.ic s.ic r.gr.init s.gr.init _ (by with_unfolding_all exact HRI.out.keep fun _ _=>rfl) (by with_unfolding_all exact HSI.out.keep fun _ _=>rfl) HE3.out HF3.out b3 b3').mono ?_;rintro ee w2 ⟨rfl,q3,rfl⟩;rw [HQ3.out]))
      go_ret
      exact ⟨by rw [HR.out];rfl,by first | exact HWC.out | exact below_drewN HWC.out _ | exact below_drewN (below_drewN HWC.out _) _ | exact below_drewN (below_drewN (below_drewN HWC.out _) _) _⟩
     have HQ0:Hid (decide (r.gr.params=s.gr.params)=true):=Lib.hid (by simpa using c0)
     by_cases c1:r.gr.kinds=s.gr.kinds
     rotate_left
     ·have HR:=Lib.hid (HNE.out fun h=>c1 (congrArg Gr.kinds h))
      have HQ1:Hid (decide (r.gr.kinds=s.gr.kinds)=false):=Lib.hid (by simpa using c1)
      clear c1 c0
      go_wp2_with (first
      | (go_at_call 12;with_reducible refine (rsi_any B r.po s.po nP nP' r.pc s.pc r.gr.params s.gr.params _ (by with_unfolding_all exact HRP.out.keep fun _ _=>rfl) (by with_unfolding_all exact HSP.out.keep fun _ _=>rfl) HE0.out HF0.out b0 b0').mono ?_;rintro ee w2 ⟨rfl,q0,rfl⟩;rw [HQ0.out])
      | (go_at_call 19;with_reducible refine (rsk_any B r.ko s.ko nK nK' r.kc s.kc r.gr.kinds s.gr.kinds _ (by with_unfolding_all exact HRK.out.keep fun _ _=>rfl) (by with_unfolding_all exact HSK.out.keep fun _ _=>rfl) HE1.out HF1.out b1l b1l').mono ?_;rintro ee w2 ⟨rfl,q1,rfl⟩;rw [HQ1.out])
      | (go_at_call 12;with_reducible refine (rsi_any B r.io s.io nI nI' r.ic s.ic r.gr.init s.gr.init _ (by with_unfolding_all exact HRI.out.keep fun _ _=>rfl) (by with_unfolding_all exact HSI.out.keep fun _ _=>rfl) HE3.out HF3.out b3 b3').mono ?_;rintro ee w2 ⟨rfl,q3,rfl⟩;rw [HQ3.out]))
      go_ret
      exact ⟨by rw [HR.out];rfl,by first | exact HWC.out | exact below_drewN HWC.out _ | exact below_drewN (below_drewN HWC.out _) _ | exact below_drewN (below_drewN (below_drewN HWC.out _) _) _⟩
     have HQ1:Hid (decide (r.gr.kinds=s.gr.kinds)=true):=Lib.hid (by simpa using c1)
     by_cases c2:r.gr.cells=s.gr.cells
     rotate_left
     ·have HR:=Lib.hid (HNE.out fun h=>c2 (congrArg Gr.cells h))
      have g2:(r.gr.cells != s.gr.cells)=true:=by simpa using c2
      clear c2 c0 c1
      go_wp2_with (first
      | (go_at_call 12;with_reducible refine (rsi_any B r.po s.po nP nP' r.pc s.pc r.gr.params s.gr.params _ (by with_unfolding_all exact HRP.out.keep fun _ _=>rfl) (by with_unfolding_all exact HSP.out.keep fun _ _=>rfl) HE0.out HF0.out b0 b0').mono ?_;rintro ee w2 ⟨rfl,q0,rfl⟩;rw [HQ0.out])
      | (go_at_call 19;with_reducible refine (rsk_any B r.ko s.ko nK nK' r.kc s.kc r.gr.kinds s.gr.kinds _ (by with_unfolding_all exact HRK.out.keep fun _ _=>rfl) (by with_unfolding_all exact HSK.out.keep fun _ _=>rfl) HE1.out HF1.out b1l b1l').mono ?_;rintro ee w2 ⟨rfl,q1,rfl⟩;rw [HQ1.out])
      | (go_at_call 12;with_reducible refine (rsi_any B r.io s.io nI nI' r.ic s.ic r.gr.init s.gr.init _ (by with_unfolding_all exact HRI.out.keep fun _ _=>rfl) (by with_unfolding_all exact HSI.out.keep fun _ _=>rfl) HE3.out HF3.out b3 b3').mono ?_;rintro ee w2 ⟨rfl,q3,rfl⟩;rw [HQ3.out]))
      go_ret
      exact ⟨by rw [HR.out];rfl,by first | exact HWC.out | exact below_drewN HWC.out _ | exact below_drewN (below_drewN HWC.out _) _ | exact below_drewN (below_drewN (below_drewN HWC.out _) _) _⟩
     have g2:(r.gr.cells != s.gr.cells)=false:=by simpa using c2
     by_cases c3:r.gr.init=s.gr.init
     rotate_left
     ·have HR:=Lib.hid (HNE.out fun h=>c3 (congrArg Gr.init h))
      have HQ3:Hid (decide (r.gr.init=s.gr.init)=false):=Lib.hid (by simpa using c3)
      clear c3 c0 c1 c2
      go_wp2_with (first
      | (go_at_call 12;with_reducible refine (rsi_any B r.po s.po nP nP' r.pc s.pc r.gr.params s.gr.params _ (by with_unfolding_all exact HRP.out.keep fun _ _=>rfl) (by with_unfolding_all exact HSP.out.keep fun _ _=>rfl) HE0.out HF0.out b0 b0').mono ?_;rintro ee w2 ⟨rfl,q0,rfl⟩;rw [HQ0.out])
      | (go_at_call 19;with_reducible refine (rsk_any B r.ko s.ko nK nK' r.kc s.kc r.gr.kinds s.gr.kinds _ (by with_unfolding_all exact HRK.out.keep fun _ _=>rfl) (by with_unfolding_all exact HSK.out.keep fun _ _=>rfl) HE1.out HF1.out b1l b1l').mono ?_;rintro ee w2 ⟨rfl,q1,rfl⟩;rw [HQ1.out])
      | (go_at_call 12;with_reducible refine (rsi_any B r.io s.io nI nI' r.ic s.ic r.gr.init s.gr.init _ (by with_unfolding_all exact HRI.out.keep fun _ _=>rfl) (by with_unfolding_all exact HSI.out.keep fun _ _=>rfl) HE3.out HF3.out b3 b3').mono ?_;rintro ee w2 ⟨rfl,q3,rfl⟩;rw [HQ3.out]))
      go_ret
      exact ⟨by rw [HR.out];rfl,by first | exact HWC.out | exact below_drewN HWC.out _ | exact below_drewN (below_drewN HWC.out _) _ | exact below_drewN (below_drewN (below_drewN HWC.out _) _) _⟩
     have HQ3:Hid (decide (r.gr.init=s.gr.init)=true):=Lib.hid (by simpa using c3)
     by_cases c4:rb1=rb2
     rotate_left
     ·have HR:=Lib.hid (HNE.out fun h=>c4 (by rw [← HRB1.out,← HRB2.out,h]))
      have HC4:=Lib.hid c4
      clear c4 c0 c1 c2 c3
      cases rb1 <;> cases rb2
      ·exact absurd rfl HC4.out
      rotate_right
      ·exact absurd rfl HC4.out
      all_goals
       go_wp2_with (first
      | (go_at_call 12;with_reducible refine (rsi_any B r.po s.po nP nP' r.pc s.pc r.gr.params s.gr.params _ (by with_unfolding_all exact HRP.out.keep fun _ _=>rfl) (by with_unfolding_all exact HSP.out.keep fun _ _=>rfl) HE0.out HF0.out b0 b0').mono ?_;rintro ee w2 ⟨rfl,q0,rfl⟩;rw [HQ0.out])
      | (go_at_call 19;with_reducible refine (rsk_any B r.ko s.ko nK nK' r.kc s.kc r.gr.kinds s.gr.kinds _ (by with_unfolding_all exact HRK.out.keep fun _ _=>rfl) (by with_unfolding_all exact HSK.out.keep fun _ _=>rfl) HE1.out HF1.out b1l b1l').mono ?_;rintro ee w2 ⟨rfl,q1,rfl⟩;rw [HQ1.out])
      | (go_at_call 12;with_reducible refine (rsi_any B r.io s.io nI nI' r.ic s.ic r.gr.init s.gr.init _ (by with_unfolding_all exact HRI.out.keep fun _ _=>rfl) (by with_unfolding_all exact HSI.out.keep fun _ _=>rfl) HE3.out HF3.out b3 b3').mono ?_;rintro ee w2 ⟨rfl,q3,rfl⟩;rw [HQ3.out]))
       go_ret
       exact ⟨by rw [HR.out];rfl,by first | exact HWC.out | exact below_drewN HWC.out _ | exact below_drewN (below_drewN HWC.out _) _ | exact below_drewN (below_drewN (below_drewN HWC.out _) _) _⟩
     subst c4
     have g4:(rb1 != rb1)=false:=by simp
     by_cases c5:r.gr.keep=s.gr.keep
     rotate_left
     ·have HR:=Lib.hid (HNE.out fun h=>c5 (congrArg Gr.keep h))
      have g5:(r.gr.keep != s.gr.keep)=true:=by simpa using c5
      clear c5 c0 c1 c2 c3
      go_wp2_with (first
      | (go_at_call 12;with_reducible refine (rsi_any B r.po s.po nP nP' r.pc s.pc r.gr.params s.gr.params _ (by with_unfolding_all exact HRP.out.keep fun _ _=>rfl) (by with_unfolding_all exact HSP.out.keep fun _ _=>rfl) HE0.out HF0.out b0 b0').mono ?_;rintro ee w2 ⟨rfl,q0,rfl⟩;rw [HQ0.out])
      | (go_at_call 19;with_reducible refine (rsk_any B r.ko s.ko nK nK' r.kc s.kc r.gr.kinds s.gr.kinds _ (by with_unfolding_all exact HRK.out.keep fun _ _=>rfl) (by with_unfolding_all exact HSK.out.keep fun _ _=>rfl) HE1.out HF1.out b1l b1l').mono ?_;rintro ee w2 ⟨rfl,q1,rfl⟩;rw [HQ1.out])
      | (go_at_call 12;with_reducible refine (rsi_any B r.io s.io nI nI' r.ic s.ic r.gr.init s.gr.init _ (by with_unfolding_all exact HRI.out.keep fun _ _=>rfl) (by with_unfolding_all exact HSI.out.keep fun _ _=>rfl) HE3.out HF3.out b3 b3').mono ?_;rintro ee w2 ⟨rfl,q3,rfl⟩;rw [HQ3.out]))
      go_ret
      exact ⟨by rw [HR.out];rfl,by first | exact HWC.out | exact below_drewN HWC.out _ | exact below_drewN (below_drewN HWC.out _) _ | exact below_drewN (below_drewN (below_drewN HWC.out _) _) _⟩
     have g5:(r.gr.keep != s.gr.keep)=false:=by simpa using c5
     by_cases c7:r.gr.entry=s.gr.entry
     rotate_left
     ·have HR:=Lib.hid (HNE.out fun h=>c7 (congrArg Gr.entry h))
      have g7:(r.gr.entry != s.gr.entry)=true:=by simpa using c7
      clear c7 c0 c1 c2 c3 c5
      go_wp2_with (first
      | (go_at_call 12;with_reducible refine (rsi_any B r.po s.po nP nP' r.pc s.pc r.gr.params s.gr.params _ (by with_unfolding_all exact HRP.out.keep fun _ _=>rfl) (by with_unfolding_all exact HSP.out.keep fun _ _=>rfl) HE0.out HF0.out b0 b0').mono ?_;rintro ee w2 ⟨rfl,q0,rfl⟩;rw [HQ0.out])
      | (go_at_call 19;with_reducible refine (rsk_any B r.ko s.ko nK nK' r.kc s.kc r.gr.kinds s.gr.kinds _ (by with_unfolding_all exact HRK.out.keep fun _ _=>rfl) (by with_unfolding_all exact HSK.out.keep fun _ _=>rfl) HE1.out HF1.out b1l b1l').mono ?_;rintro ee w2 ⟨rfl,q1,rfl⟩;rw [HQ1.out])
      | (go_at_call 12;with_reducible refine (rsi_any B r.io s.io nI nI' r.ic s.ic r.gr.init s.gr.init _ (by with_unfolding_all exact HRI.out.keep fun _ _=>rfl) (by with_unfolding_all exact HSI.out.keep fun _ _=>rfl) HE3.out HF3.out b3 b3').mono ?_;rintro ee w2 ⟨rfl,q3,rfl⟩;rw [HQ3.out]))
      go_ret
      exact ⟨by rw [HR.out];rfl,by first | exact HWC.out | exact below_drewN HWC.out _ | exact below_drewN (below_drewN HWC.out _) _ | exact below_drewN (below_drewN (below_drewN HWC.out _) _) _⟩
     have g7:(r.gr.entry != s.gr.entry)=false:=by simpa using c7
     by_cases c6:nN=nN'
     rotate_left
     ·have HR:=Lib.hid (HNE.out fun h=>c6 (by rw [← HE6.out,← HF6.out];exact congrArg (fun g:Gr=>g.nodes.length) h))
      have g6:(nN != nN')=true:=by simpa using c6
      clear c6 c0 c1 c2 c3 c5 c7
      go_wp2_with (first
      | (go_at_call 12;with_reducible refine (rsi_any B r.po s.po nP nP' r.pc s.pc r.gr.params s.gr.params _ (by with_unfolding_all exact HRP.out.keep fun _ _=>rfl) (by with_unfolding_all exact HSP.out.keep fun _ _=>rfl) HE0.out HF0.out b0 b0').mono ?_;rintro ee w2 ⟨rfl,q0,rfl⟩;rw [HQ0.out])
      | (go_at_call 19;with_reducible refine (rsk_any B r.ko s.ko nK nK' r.kc s.kc r.gr.kinds s.gr.kinds _ (by with_unfolding_all exact HRK.out.keep fun _ _=>rfl) (by with_unfolding_all exact HSK.out.keep fun _ _=>rfl) HE1.out HF1.out b1l b1l').mono ?_;rintro ee w2 ⟨rfl,q1,rfl⟩;rw [HQ1.out])
      | (go_at_call 12;with_reducible refine (rsi_any B r.io s.io nI nI' r.ic s.ic r.gr.init s.gr.init _ (by with_unfolding_all exact HRI.out.keep fun _ _=>rfl) (by with_unfolding_all exact HSI.out.keep fun _ _=>rfl) HE3.out HF3.out b3 b3').mono ?_;rintro ee w2 ⟨rfl,q3,rfl⟩;rw [HQ3.out]))
      go_ret
      exact ⟨by rw [HR.out];rfl,by first | exact HWC.out | exact below_drewN HWC.out _ | exact below_drewN (below_drewN HWC.out _) _ | exact below_drewN (below_drewN (below_drewN HWC.out _) _) _⟩
     subst c6
     have g6:(nN != nN)=false:=by simp
     have HGR:Hid (nds r.ns=nds s.ns→r.gr=s.gr):=Lib.hid fun h=>gr_ext c0 c1 c2 c3 (by rw [HRB1.out,HRB2.out]) c5 (by rw [← HNN.out,← HNS.out,h]) c7
     have HNL:Hid ((nds r.ns).length=nN):=Lib.hid (by rw [HNN.out,HE6.out])
     have HNL':Hid ((nds s.ns).length=nN):=Lib.hid (by rw [HNS.out,HF6.out])
     clear c0 c1 c2 c3 c5 c7
     go_wp2_with (first
      | (go_at_call 12;with_reducible refine (rsi_any B r.po s.po nP nP' r.pc s.pc r.gr.params s.gr.params _ (by with_unfolding_all exact HRP.out.keep fun _ _=>rfl) (by with_unfolding_all exact HSP.out.keep fun _ _=>rfl) HE0.out HF0.out b0 b0').mono ?_;rintro ee w2 ⟨rfl,q0,rfl⟩;rw [HQ0.out])
      | (go_at_call 19;with_reducible refine (rsk_any B r.ko s.ko nK nK' r.kc s.kc r.gr.kinds s.gr.kinds _ (by with_unfolding_all exact HRK.out.keep fun _ _=>rfl) (by with_unfolding_all exact HSK.out.keep fun _ _=>rfl) HE1.out HF1.out b1l b1l').mono ?_;rintro ee w2 ⟨rfl,q1,rfl⟩;rw [HQ1.out])
      | (go_at_call 12;with_reducible refine (rsi_any B r.io s.io nI nI' r.ic s.ic r.gr.init s.gr.init _ (by with_unfolding_all exact HRI.out.keep fun _ _=>rfl) (by with_unfolding_all exact HSI.out.keep fun _ _=>rfl) HE3.out HF3.out b3 b3').mono ?_;rintro ee w2 ⟨rfl,q3,rfl⟩;rw [HQ3.out]))
     obtain ⟨wo,rfl⟩:∃ wo:World,wo=wr:=⟨_,rfl⟩
     go_loopw [94] (fun i wr=>∃ j:Nat,j≤nN∧i=.int .i64 j∧Hid ((nds s.ns).take j=(nds r.ns).take j)∧Hid (Below wc.heap.size wc wr)) (fun i _=>nN-(intOf i).toNat)
     case atStart=>exact ⟨0,Nat.zero_le _,rfl,rfl,by first | exact Below.refl _ _ | exact below_drewN (Below.refl _ _) _ | exact below_drewN (below_drewN (Below.refl _ _) _) _ | exact below_drewN (below_drewN (below_drewN (Below.refl _ _) _) _) _⟩
     case round =>
      clear z0 z1 z2 z3 z4 z5 z7 y0 y1 y2 y3 y4 y5 y7
      obtain ⟨j,hj,rfl,HPJ,HWJ⟩:=hrel
      have hcz:=HC.out.size
      have hwz:=HWJ.out.size
      have hq6:=HQ6.out.lt
      have hq7:=HQ7.out.lt
      by_cases hjl:j<nN
      ·obtain ⟨b3,o3,i,hlo,hbk3,HXJ,HI,HIW,u0,u1,u2,u3,u4,u5,u6,u7,u8,u9,u10,u11⟩:=(HRN.out.below (HWJ.out.mono (by omega))).nd hjl
       obtain ⟨b4,o4,l,hlo',hbk4,HYJ,HL,HLW,v0,v1,v2,v3,v4,v5,v6,v7,v8,v9,v10,v11⟩:=(HSN.out.below (HWJ.out.mono (by omega))).nd hjl
       have z6':wr.cell? ⟨q6,6,none⟩=some (.slice r.no nN r.nc):=(HWJ.out.cell (p:=⟨q6,6,none⟩) hq6).trans z6
       have y6':wr.cell? ⟨q7,6,none⟩=some (.slice s.no nN s.nc):=(HWJ.out.cell (p:=⟨q7,6,none⟩) hq7).trans y6
       rw [hlo] at z6'
       rw [hlo'] at y6'
       have HXN:Hid ((nds r.ns)[j]?=some i.nd):=Lib.hid (by unfold nds;rw [List.getElem?_map,HXJ.out];rfl)
       have HYN:Hid ((nds s.ns)[j]?=some l.nd):=Lib.hid (by unfold nds;rw [List.getElem?_map,HYJ.out];rfl)
       have hBw:B≤wr.heap.size:=by omega
       have HLO:=Lib.hid hlo
       have HLO':=Lib.hid hlo'
       clear hlo hlo'
       by_cases hxy:i.nd=l.nd
       ·have HD:Hid (decide (i.nd=l.nd)=true):=Lib.hid (by simpa using hxy)
        have HT:Hid ((nds s.ns).take (j+1)=(nds r.ns).take (j+1)):=Lib.hid (by rw [take_one HXN.out,take_one HYN.out,HPJ.out,hxy])
        clear hxy
        go_wp2
        go_still_tail 10,(by kernel_rfl)
        change wpList _ _ _ _ _ wr.drew
        go_wp2_with (first | (go_at_call 20;refine (rsn_rn B i l _ (by with_unfolding_all exact HI.out.keep fun _ _=>rfl) (by with_unfolding_all exact HL.out.keep fun _ _=>rfl) HIW.out HLW.out (by with_unfolding_all exact hBw)).mono ?_;rintro e w2 ⟨rfl,hb2⟩;have HB2:Hid (Below wr.heap.size wr w2):=Lib.hid (by first | exact hb2 | exact (Below.refl _ _).drew.trans hb2 | exact (below_drewN (Below.refl _ _) _).trans hb2);clear hb2;rw [HD.out]))
        go_roundw
        case rel=>exact ⟨j+1,by omega,by go_num,HT,by first | exact HWJ.out.trans (HB2.out.mono hwz) | exact below_drewN (HWJ.out.trans (HB2.out.mono hwz)) _⟩
        case measure=>simp [intOf];omega
       ·have HD:Hid (decide (i.nd=l.nd)=false):=Lib.hid (by simpa using hxy)
        have HR:=Lib.hid (HNE.out fun h=>hxy (by
         have h2:nds r.ns=nds s.ns:=by rw [HNN.out,HNS.out,h]
         have h3:=HXN.out
         rw [h2,HYN.out] at h3
         exact (by simpa using h3.symm)))
        clear hxy
        go_wp2
        go_still_tail 10,(by kernel_rfl)
        change wpList _ _ _ _ _ wr.drew
        go_wp2_with (first | (go_at_call 20;refine (rsn_rn B i l _ (by with_unfolding_all exact HI.out.keep fun _ _=>rfl) (by with_unfolding_all exact HL.out.keep fun _ _=>rfl) HIW.out HLW.out (by with_unfolding_all exact hBw)).mono ?_;rintro e w2 ⟨rfl,hb2⟩;have HB2:Hid (Below wr.heap.size wr w2):=Lib.hid (by first | exact hb2 | exact (Below.refl _ _).drew.trans hb2 | exact (below_drewN (Below.refl _ _) _).trans hb2);clear hb2;rw [HD.out]))
        go_ret
        exact ⟨by rw [HR.out];rfl,by first | exact HWC.out.trans ((HWJ.out.trans (HB2.out.mono hwz)).mono (by omega)) | exact below_drewN (HWC.out.trans ((HWJ.out.trans (HB2.out.mono hwz)).mono (by omega))) _⟩
      ·obtain rfl:nN=j:=by omega
       clear hjl hj
       have HRS:Hid (r.gr=s.gr):=Lib.hid (HGR.out (by
        have h:=HPJ.out
        rw [List.take_of_length_le (by rw [HNL'.out];omega),List.take_of_length_le (by rw [HNL.out];omega)] at h
        exact h.symm))
       have HT1:Hid ((grs rb).take (k+1)=(grs ra).take (k+1)):=Lib.hid (by rw [take_one HXK.out,take_one HYK.out,HP.out,HRS.out])
       have HBX3:=Lib.hid (HBX2.out.below HWJ.out HBX2.out.lt)
       have HBY3:=Lib.hid (HBY2.out.below HWJ.out HBY2.out.lt)
       have HWE:=Lib.hid (HWC.out.trans (HWJ.out.mono (by omega)))
       go_wp2
       go_roundw
       case rel=>exact ⟨k+1,by omega,by go_num,HT1,HWE,HBX3,HBY3⟩
       case measure=>simp [intOf];omega
   ·obtain rfl:n=k:=by omega
    have hr:decide (grs ra=grs rb)=true:=by
     have h:=HP.out
     rw [List.take_of_length_le (by rw [HM.out];omega),List.take_of_length_le (by rw [HN.out];omega)] at h
     rw [h];simp
    have HR:=Lib.hid hr
    clear hr
    go_wp2
    go_ret
    exact ⟨by rw [HR.out];rfl,HW.out⟩
theorem CpR.rdS {w w':World} {n c:Nat} {A A':Option Addr} {rs rs':List RG} {W:World} {B:Nat} (h:CpR w n (grs rs) A c rs' w') (h0:RdP W B A' n rs):RdP w' w'.heap.size A n rs':=by
 have hw:∀ r ∈ rs',WfG r.gr:=fun r hr=>by
  have:r.gr ∈ grs rs:=by rw [← h.eq];exact List.mem_map_of_mem hr
  obtain ⟨r0,h1,h2⟩:=List.mem_map.1 this
  rw [← h2]
  exact h0.wf r0 h1
 refine ⟨Reads.of_own h.own,?_,fun r hr=>(h.each r hr).rd (hw r hr),hw,h0.sz⟩
 rw [← length_grs,h.eq,length_grs,h0.len]
noncomputable def ansL (gs:List Gr) (f:Int):List Int:=if chkL gs f=0 then (match gs[f.toNat]? with | some g=>(List.range g.kinds.length).map (asgG g) | none=>[]) else []
theorem ansL_len (gs:List Gr) (f:Int):(ansL gs f).length≤1024:=by
 unfold ansL
 split
 ·rename_i h
  obtain ⟨hv,k,rfl,hk⟩:=chk_zero h
  rw [Int.toNat_natCast,List.getElem?_eq_getElem hk]
  have:=(valid_sizes hv (List.getElem_mem hk)).1
  simp
  exact this
 ·simp
def RwI (w:World) (A:Option Addr) (base:Nat) (l:List Int):Prop:=(A=none∧l=[])∨∃ b,A=some ⟨b,0,none⟩∧base≤b∧Blk w b 3 (rowA l.length fun q=>.int .i64 (l.getD q 0))
theorem RwI.below {w w':World} {A:Option Addr} {base:Nat} {l:List Int} (h:RwI w A base l) (hb:Below w.heap.size w w'):RwI w' A base l:=by
 rcases h with h | ⟨b,h1,h2,h3⟩
 ·exact .inl h
 ·exact .inr ⟨b,h1,h2,h3.below hb h3.lt⟩
theorem RwI.reads {w:World} {A:Option Addr} {base:Nat} {l:List Int} (h:RwI w A base l):Reads w w.heap.size 1 A l.length (i64c l):=by
 rcases h with ⟨rfl,rfl⟩ | ⟨b,rfl,_,h3⟩
 ·exact Reads.none_
 ·refine ⟨by rw [length_i64c,Nat.mul_one],fun _=>⟨_,rfl,h3.lt,fun j u hj=>?_⟩⟩
  have ea:(⟨b,0,none⟩:Addr).add j=⟨b,j,none⟩:=by simp [Addr.add];exact Eq.symm
  have hjl:j<l.length:=by
   rcases Nat.lt_or_ge j l.length with h1 | h1
   ·exact h1
   ·rw [List.getElem?_eq_none (by rw [length_i64c];exact h1)] at hj;cases hj
  rw [ea,h3.cell,rowA_at _ hjl,← hj]
  unfold i64c
  rw [List.getElem?_map,List.getElem?_eq_getElem hjl,List.getD_eq_getElem?_getD,List.getElem?_eq_getElem hjl]
  rfl
theorem AsPost.uni {gs:List Gr} {f:Int} {w w':World} {e:Ending} (h:AsPost gs f w e w'):Below w.heap.size w w'∧∃ A,e=.returned (.tuple #[.slice A (ansL gs f).length (ansL gs f).length,.int .i64 (chkL gs f)])∧RwI w' A w.heap.size (ansL gs f):=by
 obtain ⟨hb,A,n,rfl,h1,h0⟩:=h
 refine ⟨hb,A,?_⟩
 by_cases hz:chkL gs f=0
 ·obtain ⟨g,b,hg,rfl,h2,rfl,h3⟩:=h0 hz
  have e:ansL gs f=(List.range g.kinds.length).map (asgG g):=by unfold ansL;rw [if_pos hz,hg]
  have el:(ansL gs f).length=g.kinds.length:=by rw [e];simp
  refine ⟨by rw [el],.inr ⟨b,rfl,h2,?_⟩⟩
  rw [el,rowA_congr (g:=fun q=>.int .i64 (asgG g q))]
  ·exact h3
  ·intro i hi
   rw [e,List.getD_eq_getElem?_getD,List.getElem?_map,List.getElem?_range hi]
   rfl
 ·obtain ⟨rfl,rfl⟩:=h1 hz
  have e:ansL gs f=[]:=by unfold ansL;rw [if_neg hz]
  exact ⟨by rw [e];rfl,.inl ⟨rfl,e⟩⟩

theorem RwI.far {w:World} {A:Option Addr} {base g:Nat} {l:List Int} (h:RwI w A base l) (hg:g<base) (i:Nat) (u:Value):RwI (w.setCell ⟨g,i,none⟩ u) A base l:=by
 rcases h with h | ⟨b,h1,h2,h3⟩
 ·exact .inl h
 ·exact .inr ⟨b,h1,h2,h3.far (p:=⟨g,i,none⟩) (by simp;omega) u⟩
theorem RwI.dn {w:World} {A:Option Addr} {base:Nat} {l:List Int} (h:RwI w A base l) (q:Nat):RwI (w.drewN q) A base l:=by
 rcases h with h | ⟨b,h1,h2,h3⟩
 ·exact .inl h
 ·exact .inr ⟨b,h1,h2,h3.drewN q⟩
structure AgI (W3:World) (z6 k:Nat) (A4 A7:Option Addr) (L:List Int) (wr:World):Prop where
 bel:Below W3.heap.size W3 wr
 oth:RwI wr A7 z6 L
 row:k=0∨∃ g cs,A4=some ⟨g,0,none⟩∧W3.heap.size≤g∧g<z6∧Blk wr g 3 cs∧cs.size=k
theorem sagain_walk (A:Option Addr) (n c:Nat) (rs:List RG) (A':Option Addr) (m d:Nat) (qs:List RG) (f:Int) (w:World) (h:RdP w w.heap.size A n rs) (h':RdP w w.heap.size A' m qs) (hT:TzTab w) :
  Calls Tryz.prog 5 #[.agg #[.slice A n c],.agg #[.slice A' m d],.int .i64 f] w fun e w'=>e=.returned (.bool true)∧Below w.heap.size w w':=by
 obtain ⟨L,hL⟩:∃ L,L=ansL (grs rs) f:=⟨_,rfl⟩
 obtain ⟨z,hz⟩:∃ z,z=chkL (grs rs) f:=⟨_,rfl⟩
 obtain ⟨k,hk⟩:∃ k,k=L.length:=⟨_,rfl⟩
 have hk2:k≤1024:=by rw [hk,hL];exact ansL_len _ _
 have HX0:Hid (Blk ((w.alloc (.cells #[.slice A n c] 24)).alloc (.cells #[.slice A' m d] 24)) w.heap.size 24 #[.slice A n c]):=Lib.hid ((Blk.new w _ _).alloc _)
 have HY0:Hid (Blk ((w.alloc (.cells #[.slice A n c] 24)).alloc (.cells #[.slice A' m d] 24)) (w.heap.size+1) 24 #[.slice A' m d]):=Lib.hid (blk_2nd w _ _ _ _)
 have HB0:Hid (Below w.heap.size w ((w.alloc (.cells #[.slice A n c] 24)).alloc (.cells #[.slice A' m d] 24))):=Lib.hid (((Below.refl _ _).alloc (Nat.le_refl _) _).alloc (by simp) _)
 have HFI:Hid (Calls Tryz.prog 6 #[] ((w.alloc (.cells #[.slice A n c] 24)).alloc (.cells #[.slice A' m d] 24)) fun e w'=>e=.returned (.bool true)∧Below ((w.alloc (.cells #[.slice A n c] 24)).alloc (.cells #[.slice A' m d] 24)).heap.size ((w.alloc (.cells #[.slice A n c] 24)).alloc (.cells #[.slice A' m d] 24)) w'):=Lib.hid (jfirst_any _ (hT.below HB0.out))
 have HC:Hid (∀ X,Below w.heap.size w X→Calls Tryz.prog 7 #[.agg #[.slice A n c],.int .i64 f] X fun e w'=>Below X.heap.size X w'∧∃ A,e=.returned (.tuple #[.slice A k k,.int .i64 z])∧RwI w' A X.heap.size L):=Lib.hid fun X hX=>by
  rw [hk,hL,hz]
  exact (asg_any w.heap.size A n c rs f X (h.below hX) hX.size (hT.below hX)).mono fun e w' hh=>hh.uni
 have HD:Hid (∀ X,Below w.heap.size w X→Calls Tryz.prog 7 #[.agg #[.slice A' m d],.int .i64 f] X fun e w'=>Below X.heap.size X w'∧∃ A k z,e=.returned (.tuple #[.slice A k k,.int .i64 z])):=Lib.hid fun X hX =>
  (asg_any w.heap.size A' m d qs f X (h'.below hX) hX.size (hT.below hX)).mono fun e w' hh=>by
   obtain ⟨h1,A2,h2,_⟩:=hh.uni
   exact ⟨h1,A2,_,_,h2⟩
 have HE:Hid (∀ X,Below w.heap.size w X→Calls Tryz.prog 11 #[.agg #[.slice A n c]] X fun e w'=>∃ (A2:Option Addr) (c2:Nat) (rs2:List RG),e=.returned (.agg #[.slice A2 n c2])∧Below X.heap.size X w'∧Hid (RdP w' w'.heap.size A2 n rs2∧grs rs2=grs rs) ∧
   Hid (∀ Y,Below w'.heap.size w' Y→Calls Tryz.prog 7 #[.agg #[.slice A2 n c2],.int .i64 f] Y fun e w'=>Below Y.heap.size Y w'∧∃ A,e=.returned (.tuple #[.slice A k k,.int .i64 z])∧RwI w' A Y.heap.size L)):=Lib.hid fun X hX=>by
  refine (rcopy_any w.heap.size A n c rs X (h.below hX) hX.size).mono fun e w' hh=>?_
  obtain ⟨A2,c2,rs2,he,hcp⟩:=hh
  have hrd:=hcp.rdS (h.below hX)
  refine ⟨A2,c2,rs2,he,hcp.below,Lib.hid ⟨hrd,hcp.eq⟩,Lib.hid fun Y hY=>?_⟩
  rw [hk,hL,hz,← hcp.eq]
  exact (asg_any w'.heap.size A2 n c2 rs2 f Y (hrd.below hY) hY.size ((hT.below (hX.trans (hcp.below.mono hX.size))).below hY)).mono fun e w' hh=>hh.uni
 have HS:Hid (∀ (X:World) (B1 B2:Option Addr) (b1 b2:Nat),RwI X B1 b1 L→RwI X B2 b2 L→Calls Tryz.prog 12 #[.slice B1 k k,.slice B2 k k] X fun e w'=>e=.returned (.bool true)∧∃ q,w'=X.drewN q):=Lib.hid fun X B1 B2 b1 b2 r1 r2=>by
  rw [hk]
  refine (rsi_any X.heap.size B1 B2 L.length L.length L.length L.length L L X r1.reads r2.reads rfl rfl (by omega) (by omega)).mono ?_
  rintro e w' ⟨rfl,h2⟩
  exact ⟨by simp,h2⟩
 have HRD:=Lib.hid h
 have HTT:=Lib.hid hT
 have HKL:=Lib.hid hk
 clear h h' hT hL hz hk
 go_enter Tryz.func5,Tryz.ntmps5
 go_upto_region 3 with (go_at_call 6;refine HFI.out.mono ?_;rintro e w1 ⟨rfl,hb1⟩;have HB01:=Lib.hid hb1;clear hb1)
 have HX1:=Lib.hid (HX0.out.below HB01.out HX0.out.lt)
 have HY1:=Lib.hid (HY0.out.below HB01.out HY0.out.lt)
 have HB1:Hid (Below w.heap.size w w1):=Lib.hid (HB0.out.trans (HB01.out.mono HB0.out.size))
 have x1:w1.cell? ⟨w.heap.size,0,none⟩=some (.slice A n c):=HX1.out.cell 0
 clear HX0 HY0 HB0 HB01 HFI
 go_upto_region 4 with (go_at_call 11;refine (HE.out w1 HB1.out).mono ?_;rintro e w2 ⟨A2,c2,rs2,rfl,hb2,HR2,_⟩;have HB2:=Lib.hid hb2;clear hb2)
 obtain ⟨W3,hW3⟩:∃ x,x=w2.alloc (.cells #[.slice A2 n c2] 24):=⟨_,rfl⟩
 have H53:Hid (Blk W3 w2.heap.size 24 #[.slice A2 n c2]):=Lib.hid (by rw [hW3];exact Blk.new _ _ _)
 have HB23:Hid (Below w2.heap.size w2 W3):=Lib.hid (by rw [hW3];exact (Below.refl _ _).alloc (Nat.le_refl _) _)
 have HB3:Hid (Below w.heap.size w W3):=Lib.hid (HB1.out.trans ((HB2.out.trans (HB23.out.mono HB2.out.size)).mono HB1.out.size))
 have HX3:=Lib.hid ((HX1.out.below HB2.out HX1.out.lt).below HB23.out (HX1.out.below HB2.out HX1.out.lt).lt)
 have HY3:=Lib.hid ((HY1.out.below HB2.out HY1.out.lt).below HB23.out (HY1.out.below HB2.out HY1.out.lt).lt)
 have x3:W3.cell? ⟨w.heap.size,0,none⟩=some (.slice A n c):=HX3.out.cell 0
 rw [← hW3]
 clear hW3 x1 HX1 HY1
 go_upto_region 5 with (go_at_call 7;refine (HC.out W3 HB3.out).mono ?_;rintro e w4 ⟨hb4,A4,rfl,hr4⟩;have HB4:=Lib.hid hb4;have HR4:=Lib.hid hr4;have y4:w4.cell? ⟨w.heap.size+1,0,none⟩=some (.slice A' m d):=(HY3.out.below hb4 HY3.out.lt).cell 0;clear hb4 hr4)
 have HW4:Hid (Below w.heap.size w w4):=Lib.hid (HB3.out.trans (HB4.out.mono HB3.out.size))
 go_upto_region 6 with (go_at_call 7;refine (HD.out w4 HW4.out).mono ?_;rintro e w5 ⟨hb5,A5,k5,z5,rfl⟩;have HB5:=Lib.hid hb5;have HB45:=Lib.hid (HB4.out.trans (hb5.mono HB4.out.size));have x5:w5.cell? ⟨w.heap.size,0,none⟩=some (.slice A n c):=(HX3.out.below HB45.out HX3.out.lt).cell 0;clear hb5)
 have HW5:Hid (Below w.heap.size w w5):=Lib.hid (HW4.out.trans (HB5.out.mono HW4.out.size))
 have HR5:=Lib.hid (HR4.out.below HB5.out)
 clear x3 y4
 go_upto_region 7 with (first
  | (go_at_call 11;refine (HE.out w5 HW5.out).mono ?_;rintro e w6 ⟨A6,c6,rs6,rfl,hb6,_,HC6⟩;have HB6:=Lib.hid hb6;have HA6:=Lib.hid (HC6.out w6 (Below.refl _ _));clear hb6)
  | (go_at_call 7;refine HA6.out.mono ?_;rintro e w7 ⟨hb7,A7,rfl,hr7⟩;have HB7:=Lib.hid hb7;have HR7:=Lib.hid hr7;clear hb7 hr7))
 have HB57:Hid (Below w5.heap.size w5 w7):=Lib.hid (HB6.out.trans (HB7.out.mono HB6.out.size))
 have HR47:=Lib.hid (HR5.out.below HB57.out)
 have HX7:=Lib.hid ((HX3.out.below HB45.out HX3.out.lt).below HB57.out (HX3.out.below HB45.out HX3.out.lt).lt)
 have HB37:Hid (Below W3.heap.size W3 w7):=Lib.hid (HB45.out.trans (HB57.out.mono HB45.out.size))
 have H57:=Lib.hid (H53.out.below HB37.out H53.out.lt)
 have hz7:(z != z)=false:=by simp
 clear x5
 go_upto_region 9 with (go_at_call 12;refine (HS.out w7 _ _ _ _ HR47.out HR7.out).mono ?_;rintro e w8 ⟨rfl,q8,rfl⟩)
 have hlow:∀ b,A4=some ⟨b,0,none⟩→b<w6.heap.size:=fun b e1=>by
  rcases HR5.out with ⟨h1,_⟩ | ⟨b',h1,_,h3⟩
  ·rw [h1] at e1;cases e1
  ·rw [h1] at e1
   injection e1 with e1
   injection e1 with e1
   subst e1
   exact Nat.lt_of_lt_of_le h3.lt HB6.out.size
 have hrow:k=0∨∃ g cs,A4=some ⟨g,0,none⟩∧W3.heap.size≤g∧g<w6.heap.size∧Blk (w7.drewN q8) g 3 cs∧cs.size=k:=by
  rcases HR47.out with ⟨_,e⟩ | ⟨b,e1,e2,e3⟩
  ·left;rw [HKL.out,e];rfl
  ·right
   rw [← HKL.out] at e3
   exact ⟨b,_,e1,e2,hlow b e1,e3.drewN q8,by simp [rowA]⟩
 have H0:Hid (AgI W3 w6.heap.size k A4 A7 L (w7.drewN q8)):=Lib.hid ⟨below_drewN HB37.out q8,HR7.out.dn q8,hrow⟩
 clear hlow hrow
 clear HR7 HR47 HX7 HB57 H57 HR5 HR4 HB45 HB4
 obtain ⟨w8,hw8⟩:∃ x,x=w7.drewN q8:=⟨_,rfl⟩
 rw [← hw8] at H0 ⊢
 clear hw8
 obtain ⟨z6,hz6⟩:∃ x,x=w6.heap.size:=⟨_,rfl⟩
 rw [← hz6] at H0
 clear hz6
 go_wp2
 go_loopw [46] (fun s wr=>∃ i:Nat,s=.int .i64 i∧i≤k∧Hid (AgI W3 z6 k A4 A7 L wr)) (fun s _=>k-(intOf s).toNat)
 case atStart=>exact ⟨0,rfl,by omega,H0⟩
 case round =>
  clear H0
  obtain ⟨i,rfl,hi,HI⟩:=hrel
  by_cases hlt:i<k
  ·obtain ⟨g,cs,rfl,hg,hgz,hblk,hcs⟩:=HI.out.row.resolve_left (by omega)
   have y0:wr.cell? ⟨g,i,none⟩=some cs[i]:=by rw [hblk.cell,Array.getElem?_eq_getElem (by omega)]
   have y1:wr.frozen? ⟨g,i,none⟩=false:=hblk.frozen i
   have HN:Hid (AgI W3 z6 k (some ⟨g,0,none⟩) A7 L (wr.setCell ⟨g,i,none⟩ (.int .i64 (-7)))):=Lib.hid
    ⟨HI.out.bel.setCell (p:=⟨g,i,none⟩) hg _,HI.out.oth.far hgz i _,.inr ⟨g,_,rfl,hg,hgz,hblk.set_ i _,by simpa using hcs⟩⟩
   clear HI hblk
   go_wp2
   go_roundw
   case rel=>exact ⟨i+1,by go_num,by omega,HN⟩
   case measure=>simp [intOf];omega
  ·obtain rfl:k=i:=by omega
   have HB3r:Hid (Below w.heap.size w wr):=Lib.hid (HB3.out.trans (HI.out.bel.mono HB3.out.size))
   have HXr:=Lib.hid (HX3.out.below HI.out.bel HX3.out.lt)
   have H5r:=Lib.hid (H53.out.below HI.out.bel H53.out.lt)
   have HRr:Hid (RdP wr w2.heap.size A2 n rs2):=Lib.hid (HR2.out.1.below (HB23.out.trans (HI.out.bel.mono HB23.out.size)))
   have HO:=Lib.hid HI.out.oth
   have hz2:w2.heap.size≤wr.heap.size:=Nat.le_trans HB23.out.size HI.out.bel.size
   have HZ2:=Lib.hid hz2
   have x0:wr.cell? ⟨w.heap.size,0,none⟩=some (.slice A n c):=HXr.out.cell 0
   clear HI hz2
   go_upto_region 15 with (go_at_call 7;refine (HC.out wr HB3r.out).mono ?_;rintro e w9 ⟨hb9,A9,rfl,hr9⟩;have HB9:=Lib.hid hb9;have HR9:=Lib.hid hr9;have HO9:=Lib.hid (HO.out.below hb9);clear hb9 hr9)
   have HW9:Hid (Below w.heap.size w w9):=Lib.hid (HB3r.out.trans (HB9.out.mono HB3r.out.size))
   have HGQ:Hid (∀ q,Calls Tryz.prog 13 #[.agg #[.slice A n c],.agg #[.slice A2 n c2]] (w9.drewN q) fun e w'=>e=.returned (.bool true)∧Below (w9.drewN q).heap.size (w9.drewN q) w'):=Lib.hid fun q=>by
    have e:=HR2.out.2
    refine (rsame_any w2.heap.size A A2 n n c c2 rs rs2 (w9.drewN q) ((HRD.out.below (below_drewN HW9.out q)).more (Nat.le_trans HB1.out.size HB2.out.size)) (HRr.out.below ((below_drewN HB9.out q).mono HZ2.out)) (Nat.le_trans HZ2.out HB9.out.size)).mono ?_
    rintro e2 w' ⟨rfl,h2⟩
    exact ⟨by rw [e];simp,h2⟩
   have z0:∀ q,(w9.drewN q).cell? ⟨w.heap.size,0,none⟩=some (.slice A n c):=fun q=>((HXr.out.below HB9.out HXr.out.lt).drewN q).cell 0
   have z1:∀ q,(w9.drewN q).cell? ⟨w2.heap.size,0,none⟩=some (.slice A2 n c2):=fun q=>((H5r.out.below HB9.out H5r.out.lt).drewN q).cell 0
   go_wp2_with (first
    | (go_at_call 12;refine (HS.out w9 _ _ _ _ HO9.out HR9.out).mono ?_;rintro e w10 ⟨rfl,q10,rfl⟩;have z2:=z0 q10;have z3:=z1 q10)
    | (go_at_call 13;refine (HGQ.out q10).mono ?_;rintro e w11 ⟨rfl,hb11⟩;have HB11:=Lib.hid hb11;clear hb11)
    | go_in)
   first | go_end0 | go_ret
   exact ⟨rfl,(below_drewN HW9.out q10).trans (HB11.out.mono HW9.out.size)⟩
end Go.Proofs.YtedmcfaghfgpoaaGreatDoor
