/-
  Texts of one seat, one behind the other: ORl, Rin, Rr, ORw.
-/
import Derived.Test.YtedmcfaghfgpoaaGreatDoorMA20
import Derived.Test.YtedmcfaghfgpoaaGreatDoorMA14
import Derived.Test.YtedmcfaghfgpoaaGreatDoorMA3
import Derived.Test.YtedmcfaghfgpoaaGreatDoorMA12
import Derived.Test.YtedmcfaghfgpoaaGreatDoorMA4

set_option linter.unusedVariables false
set_option linter.unusedSimpArgs false
set_option maxRecDepth 100000
set_option maxHeartbeats 51200000
namespace Go.Proofs.YtedmcfaghfgpoaaGreatDoor
open Go.ChangeShapes Go.WideShapes Go.ChangeAt Go.RowKit
theorem VR.start {W w1:World} (n:Nat) (h:Below W.heap.size W w1) :
  VR W (w1.heap.size+1) w1.heap.size n ⟨fun _=>false,[]⟩ (.slice none 0 0) ((w1.alloc (.cells (madeCells #[.bool false] n) 4)).alloc (.cells #[.slice (some ⟨w1.heap.size,0,none⟩) n n,.slice none 0 0] 109)):=by
 have hz:=h.size
 have h1:=Blk.new w1 4 (madeCells #[.bool false] n)
 have h2:=Blk.new (w1.alloc (.cells (madeCells #[.bool false] n) 4)) 109 #[.slice (some ⟨w1.heap.size,0,none⟩) n n,.slice none 0 0]
 rw [show (w1.alloc (.cells (madeCells #[.bool false] n) 4)).heap.size=w1.heap.size+1 by simp] at h2
 rw [rowA_made] at h1 h2 ⊢
 exact ⟨h2,h1.alloc _,own_none _ _ _ _,(h.alloc hz _).alloc (by simp;omega) _,by omega,hz⟩
theorem rev_take {l:List Int} {j:Nat} (h:j<l.length):l.reverse.take (j+1)=l.reverse.take j ++ [l.getD (l.length-1-j) 0]:=by
 have h1:l.reverse[j]?=some (l.getD (l.length-1-j) 0):=by
  rw [List.getElem?_reverse h,List.getD_eq_getElem?_getD,List.getElem?_eq_getElem (by omega)]
  rfl
 exact take_at h1
theorem rline_any (B:Nat) (po ko io no:Option Addr) (nP pc nK kc nI ic n nc en:Nat) (cells keep:Int) (res:Bool) (rn:List RN) (w:World) (hN:RdNs w B no n rn) (hB:B≤w.heap.size) (hn:n≤4096) (hv:NextIn (nds rn)) (hen:en<n) :
  Calls Tryz.prog 35 #[.agg #[.slice po nP pc,.slice ko nK kc,.int .i64 cells,.slice io nI ic,.bool res,.int .i64 keep,.slice no n nc,.int .i64 en]] w (NewO w (lineK (nds rn) en)):=by
 have hmb:∀ W:World,(Instr.makeSlice 107 (.int .i64 n) (.int .i64 n)).run Tryz.prog W=.ok (.slice (some ⟨W.heap.size,0,none⟩) n n) (W.alloc (.cells (madeCells #[.bool false] n) 4)):=fun W=>run_make_row' _ _ _ 1 Tryz.underlying107 info_bool rfl .i64 .i64 n (by omega) (by omega) W
 have hb1:Below w.heap.size w (w.alloc (.cells #[.slice po nP pc,.slice ko nK kc,.int .i64 cells,.slice io nI ic,.bool res,.int .i64 keep,.slice no n nc,.int .i64 en] 35)):=(Below.refl _ _).alloc (Nat.le_refl _) _
 have hg1:=Blk.new w 35 #[.slice po nP pc,.slice ko nK kc,.int .i64 cells,.slice io nI ic,.bool res,.int .i64 keep,.slice no n nc,.int .i64 en]
 obtain ⟨W1,hW1⟩:∃ W,W=(w.alloc (.cells #[.slice po nP pc,.slice ko nK kc,.int .i64 cells,.slice io nI ic,.bool res,.int .i64 keep,.slice no n nc,.int .i64 en] 35)):=⟨_,rfl⟩
 rw [← hW1] at hb1 hg1
 have HG1:=lh hg1
 have hz1:w.heap.size<W1.heap.size:=hg1.lt
 have HN:=lh hN
 have HV:=lh hv
 have HLN:Hid ((nds rn).length=n):=lh (by rw [length_nds];exact hN.len)
 have c6:W1.cell? ⟨w.heap.size,6,none⟩=some (.slice no n nc):=hg1.cell 6
 have HS0:=lh (VR.start (W:=w) n hb1)
 have HGS:=lh ((hg1.alloc (.cells (madeCells #[.bool false] n) 4)).alloc (.cells #[.slice (some ⟨W1.heap.size,0,none⟩) n n,.slice none 0 0] 109))
 obtain ⟨W2,hW2⟩:∃ W2,W2=((W1.alloc (.cells (madeCells #[.bool false] n) 4)).alloc (.cells #[.slice (some ⟨W1.heap.size,0,none⟩) n n,.slice none 0 0] 109)):=⟨_,rfl⟩
 rw [← hW2] at HS0 HGS
 clear hN hv hb1 hg1
 go_enter Tryz.func35,Tryz.ntmps35
 go_upto_region 1 with fail
 rw [← hW1]
 clear hW1
 go_upto_region 2 with fail
 rw [← hW2]
 clear hW2 hmb c6
 obtain ⟨fl,hfl⟩:∃ p,p=W1.heap.size:=⟨_,rfl⟩
 obtain ⟨b,hb⟩:∃ p,p=fl+1:=⟨_,rfl⟩
 rw [← hfl] at HS0 ⊢
 rw [← hb] at HS0 ⊢
 clear hfl hb
 have d0:W2.cell? ⟨w.heap.size,0,none⟩=some (.slice po nP pc):=HGS.out.cell 0
 have d1:W2.cell? ⟨w.heap.size,1,none⟩=some (.slice ko nK kc):=HGS.out.cell 1
 have d2:W2.cell? ⟨w.heap.size,2,none⟩=some (.int .i64 cells):=HGS.out.cell 2
 have d3:W2.cell? ⟨w.heap.size,3,none⟩=some (.slice io nI ic):=HGS.out.cell 3
 have d4:W2.cell? ⟨w.heap.size,4,none⟩=some (.bool res):=HGS.out.cell 4
 have d5:W2.cell? ⟨w.heap.size,5,none⟩=some (.int .i64 keep):=HGS.out.cell 5
 have d6:W2.cell? ⟨w.heap.size,6,none⟩=some (.slice no n nc):=HGS.out.cell 6
 have d7:W2.cell? ⟨w.heap.size,7,none⟩=some (.int .i64 en):=HGS.out.cell 7
 have HVI:=lh (from_any B b fl po ko io no nP pc nK kc nI ic n nc cells keep en res rn w HN.out hB hn HV.out n en ⟨fun _=>false,[]⟩ (.slice none 0 0) W2 hen rfl (by rw [show (DSt.mk (fun _=>false) []).seen=fun _=>false from rfl,unS_none];exact Nat.le_refl _) (by rw [show (DSt.mk (fun _=>false) []).seen=fun _=>false from rfl,unS_none];show 0+n≤n;omega) HS0.out)
 have hlo:=left_ok HV.out (show en<(nds rn).length by rw [HLN.out];exact hen)
 rw [HLN.out] at hlo
 obtain ⟨q,hq⟩:∃ q,q=(leftK (nds rn) en).length:=⟨_,rfl⟩
 rw [← hq] at hlo
 obtain ⟨hq0,hq1⟩:=hlo
 have HQ:=lh hq
 clear hq
 have HLK:Hid ((vis (nds rn) n en ⟨fun _=>false,[]⟩).left=leftK (nds rn) en):=lh (by unfold leftK;rw [HLN.out])
 go_wp2_with (go_at_call 58;refine HVI.out.mono ?_;rintro e w2 ⟨rfl,v2,h2,_⟩;obtain ⟨A2,c2,rfl⟩:=own_slice h2.own;have h2o:=h2.own;have h2b:=h2.box;rw [HLK.out,← HQ.out] at h2o h2b;have HO2:=lh h2o;have HX2:=lh h2b;have HB2:=lh h2.below;have x2:w2.cell? ⟨b,1,none⟩=some (.slice A2 q c2):=h2b.cell 1;clear h2 h2o h2b)
 clear d0 d1 d2 d3 d4 d5 d6 d7 x2
 have hz2:=HB2.out.size
 go_loopw [4,5] (fun v s wr=>∃ j:Nat,j≤q∧s=.int .i64 ((q:Int)-1-j)∧Hid (wr.ownsRow w2.heap.size 3 1 v j (i64c ((leftK (nds rn) en).reverse.take j)))∧Hid (Below w2.heap.size w2 wr)) (fun _ s _=>((intOf s)+1).toNat)
 case atStart=>exact ⟨0,by omega,by simp,lh (own_none _ _ _ _),lh (Below.refl _ _)⟩
 case round =>
  obtain ⟨j,hj,rfl,HL,HB⟩:=hrel
  obtain ⟨Al,cl,rfl⟩:=own_slice HL.out
  by_cases hjq:j<q
  ·obtain ⟨i,hi⟩:∃ i,i=q-1-j:=⟨_,rfl⟩
   have hii:(q:Int)-1-j=i:=by omega
   have hiq:i<q:=by omega
   obtain ⟨bx,ox,x,hxe,hbx,HXX,x1⟩:=((Reads.of_own HO2.out).below HB.out).int hiq
   have HTK:Hid ((leftK (nds rn) en).reverse.take (j+1)=(leftK (nds rn) en).reverse.take j ++ [x]):=lh (by
    rw [rev_take (by rw [← HQ.out];exact hjq),← HQ.out,← hi,List.getD_eq_getElem?_getD,HXX.out]
    rfl)
   have b1:wr.cell? ⟨b,1,none⟩=some (.slice A2 q c2):=(HX2.out.below HB.out HX2.out.lt).cell 1
   have g1:decide ((i:Int)≥0)=true:=decide_eq_true (by omega)
   have g2:decide ((0:Int)≤(i:Int))=true:=decide_eq_true (by omega)
   have hbz:=HB.out.size
   have HIE:Hid ((i:Int)-1=(q:Int)-1-((j+1:Nat):Int)):=lh (by omega)
   have hme:((i:Int)-1+1).toNat<((i:Int)+1).toNat:=by omega
   have HME:=lh hme
   rw [hii]
   rw [hxe] at b1
   clear hxe hi hii hme
   go_wp2_with (at_builtin;refine app_int rfl (.tmp 27) (.tmp 35) rfl w2.heap.size _ _ _ rfl (own_alloc HL.out _) (wr.heap.size+1) (some ⟨wr.heap.size,0,none⟩) 1 1 [.int .i64 x] rfl (one_reads wr _ _ 1 rfl) (ints_oneCell .i64 [x]) (by omega) (by simp;omega) ?_;intro v' w8 hown hgr hor;have HO8:=lh hown;have HB8:Hid (Below w2.heap.size w2 w8):=lh ((HB.out.alloc hbz _).grown hgr (by simp;omega) fun g hg=>(own_block_le HL.out hg).1);clear hown hgr hor)
   go_roundw
   case rel =>
    refine ⟨j+1,by omega,by rw [← HIE.out],?_,HB8⟩
    rw [HTK.out,i64c_append]
    exact HO8
   case measure =>
    simp [intOf]
  ·obtain rfl:q=j:=by omega
   have g1:decide ((q:Int)-1-q≥0)=false:=decide_eq_false (by omega)
   have g2:decide ((0:Int)≤(q:Int)-1-q)=false:=decide_eq_false (by omega)
   have HLL:Hid ((lineK (nds rn) en).length=q):=lh (by unfold lineK;rw [List.length_reverse];exact HQ.out.symm)
   have HLE:Hid ((leftK (nds rn) en).reverse.take q=lineK (nds rn) en):=lh (by unfold lineK;rw [List.take_of_length_le (by rw [List.length_reverse,← HQ.out];exact Nat.le_refl _)])
   rw [HLE.out] at HL
   go_wp2
   go_ret
   exact ⟨Al,cl,by rw [HLL.out];rfl,by rw [HLL.out];exact own_more HL.out hz2,by rw [HLL.out];exact own_cap HL.out,HB2.out.trans (HB.out.mono hz2)⟩
theorem in_any (B:Nat) (A:Option Addr) (n c:Nat) (l:List Int) (x:Int) (w:World) (h:Reads w B 1 A n (i64c l)) (hn:l.length=n) (hnb:n≤140737488351232) :
  Calls Tryz.prog 31 #[.slice A n c,.int .i64 x] w fun e w'=>e=.returned (.bool (decide (x ∈ l)))∧w'=w:=by
 have H:=lh h
 have HN:=lh hn
 clear h hn
 go_enter Tryz.func31,Tryz.ntmps31
 go_wp2
 go_loopw [9] (fun i wr=>∃ k:Nat,k≤n∧i=.int .i64 k∧Hid (x ∉ l.take k)∧wr=w) (fun i _=>n-(intOf i).toNat)
 case atStart=>exact ⟨0,Nat.zero_le _,rfl,lh (by simp),rfl⟩
 case round =>
  obtain ⟨k,hk,rfl,HP,rfl⟩:=hrel
  by_cases hlt:k<n
  ·obtain ⟨b,off,y,rfl,hb,HX,x1⟩:=H.out.int hlt
   by_cases hxy:y=x
   ·have hd:(y == x)=true:=by simpa using hxy
    have HR:Hid (decide (x ∈ l)=true):=lh (by rw [decide_eq_true_eq,← hxy];exact List.mem_of_getElem? HX.out)
    clear hxy
    go_wp2
    go_ret
    exact ⟨by rw [HR.out];rfl,rfl⟩
   ·have hd:(y == x)=false:=by simpa using hxy
    have HQ:Hid (x ∉ l.take (k+1)):=lh (by
     rw [take_at HX.out]
     simp only [List.mem_append,List.mem_singleton,not_or]
     exact ⟨HP.out,fun e=>hxy e.symm⟩)
    clear hxy
    go_wp2
    go_roundw
    case rel=>exact ⟨k+1,by omega,by go_num,HQ,by first | rfl | trivial⟩
    case measure=>simp [intOf];omega
  ·obtain rfl:n=k:=by omega
   have HR:Hid (decide (x ∈ l)=false):=lh (by
    have h:=HP.out
    rw [List.take_of_length_le (by rw [HN.out];omega)] at h
    simpa using h)
   go_wp2
   go_ret
   exact ⟨by rw [HR.out];rfl,rfl⟩

structure RaI (w:World) (zs:List Int) (k:Nat) (v:Value) (wr:World):Prop where
 own:wr.ownsRow w.heap.size 3 1 v (addL [] (zs.take k)).length (i64c (addL [] (zs.take k)))
 below:Below w.heap.size w wr

theorem radd_any (B:Nat) (A:Option Addr) (n c:Nat) (zs:List Int) (w:World) (h:Reads w B 1 A n (i64c zs)) (hn:zs.length=n) (hz:∀ x ∈ zs,I64 x) (hB:B≤w.heap.size) (hnb:n*8≤140737488351232) :
  Calls Tryz.prog 60 #[.slice none 0 0,.slice A n c] w (NewI w (addL [] zs)):=by
 obtain ⟨i0,hi,hz0,hz1,hz2⟩:=info_parts Tryz.info3
 have H:=lh h
 have HN:=lh hn
 have HZ:=lh hz
 clear h hn hz
 go_enter Tryz.func60,Tryz.ntmps60
 go_wp2
 go_loopw [0,9] (fun v i wr=>∃ k:Nat,k≤n∧i=.int .i64 k∧Hid (RaI w zs k v wr)) (fun _ i _=>n-(intOf i).toNat)
 case atStart=>exact ⟨0,Nat.zero_le _,rfl,⟨World.ownsRow_nil _ _ _ _,Below.refl _ _⟩⟩
 case round =>
  obtain ⟨k,hk,rfl,HI⟩:=hrel
  have hrow:=HI.out.own
  obtain ⟨A1,c1,rfl⟩:=own_slice hrow
  have hws:=HI.out.below.size
  by_cases hlt:k<n
  ·obtain ⟨b,off,x,rfl,hb,HX,x1⟩:=(H.out.below (HI.out.below.mono hB)).int hlt
   have hal:=addL_len [] (zs.take k)
   have htk:(zs.take k).length=k:=by rw [List.length_take,HN.out];omega
   have hadd:addL [] (zs.take (k+1))=add1 (addL [] (zs.take k)) x:=by rw [take_at HX.out,addL_snoc]
   have hbr:b<wr.heap.size:=by omega
   simp only [List.length_nil,Nat.zero_add,htk] at hal
   have HADD:=lh hadd
   have HRD:Hid (Reads wr wr.heap.size 1 A1 (addL [] (zs.take k)).length (i64c (addL [] (zs.take k)))):=Reads.of_own hrow
   clear hadd htk
   by_cases hneg:x<0
   ·have hg:(addL [] (zs.take (k+1)))=addL [] (zs.take k):=by
     rw [HADD.out,add1,if_neg]
     rintro ⟨h2,_⟩
     omega
    have HG:=lh hg
    clear hg
    have hd:decide (x≥0)=false:=by simp;omega
    go_wp2
    go_roundw
    case rel=>exact ⟨k+1,by omega,by go_num,⟨by rw [HG.out];exact hrow,HI.out.below⟩⟩
    case measure=>simp [intOf];omega
   ·have hd:decide (x≥0)=true:=by simp;omega
    by_cases hin:x ∈ addL [] (zs.take k)
    ·have hg:(addL [] (zs.take (k+1)))=addL [] (zs.take k):=by
      rw [HADD.out,add1,if_neg]
      rintro ⟨_,h2⟩
      exact h2 hin
     have HG:=lh hg
     have hm:decide (x ∈ addL [] (zs.take k))=true:=by simpa using hin
     have HM:=lh hm
     clear hg hin hm
     go_wp2_with (first | (go_at_call 31;refine (in_any _ _ _ _ _ _ _ HRD.out rfl (by omega)).mono ?_;rintro e w2 ⟨rfl,rfl⟩;rw [HM.out]))
     go_roundw
     case rel=>exact ⟨k+1,by omega,by go_num,⟨by rw [HG.out];exact hrow,HI.out.below⟩⟩
     case measure=>simp [intOf];omega
    ·have hg:(addL [] (zs.take (k+1)))=addL [] (zs.take k) ++ [x]:=by
      rw [HADD.out,add1,if_pos]
      exact ⟨by omega,hin⟩
     have HG:=lh hg
     have hm:decide (x ∈ addL [] (zs.take k))=false:=by simpa using hin
     have HM:=lh hm
     clear hg hin hm
     go_wp2_with (first
      | (go_at_call 31;refine (in_any _ _ _ _ _ _ _ HRD.out rfl (by omega)).mono ?_;rintro e w2 ⟨rfl,rfl⟩;rw [HM.out])
      | (at_builtin;refine wpList_append_own _ rfl _ _ 26 rfl w.heap.size 3 i0 (.int .i64 0) 1 8 Tryz.underlying26 hi hz0 hz1 hz2 rfl (by decide) _ _ _ rfl (hrow.alloc _) ⟨_,0,none⟩ 1 1 [.int .i64 x] rfl rfl (cell_one_new _ _ _) (ints_oneCell .i64 [x]) (by unfold maxLen;omega) (by omega) (by simp;omega) ?_;intro v' w3 hown' hgrow2 hnil2))
     have s2:=hgrow2.size
     simp at s2
     go_roundw
     case rel =>
      refine ⟨k+1,by omega,by go_num,⟨?_,?_⟩⟩
      ·rw [HG.out]
       simpa [i64c] using hown'
      ·exact ((HI.out.below.alloc hws _).grown hgrow2 (by simp;omega) (fun j hj=>(hrow.lt j hj).1))
     case measure=>simp [intOf];omega
  ·obtain rfl:n=k:=by omega
   have hall:zs.take n=zs:=List.take_of_length_le (by rw [HN.out];omega)
   rw [hall] at hrow ⊢
   have HR:Hid (Reads wr wr.heap.size 1 A1 (addL [] zs).length (i64c (addL [] zs))):=Reads.of_own hrow
   have HC:Hid ((addL [] zs).length≤c1):=own_cap hrow
   have HBL:=lh HI.out.below
   clear hrow hall
   go_wp2
   go_ret
   exact ⟨A1,c1,rfl,HR.out,HC.out,HBL.out⟩
theorem rreads_any (B:Nat) (op bop d e a b f cell imm:Int) (args:List Int) (nx el:Int) (ao:Option Addr) (nA ac:Nat) (w:World) (ho0:0≤op) (ho1:op≤255) (hd:I64 d) (he:I64 e) (ha:I64 a) (hb:I64 b) (hn:I64 nx) (hel:I64 el) (hr:Reads w B 1 ao nA (i64c args)) (hl:args.length=nA) (hargs:∀ x ∈ args,I64 x) (hnA:nA*8≤140737488351232) (hnc:nA≤ac) (hB:B≤w.heap.size) :
  Calls Tryz.prog 59 #[.agg #[.int .u8 op,.int .u8 bop,.int .i64 d,.int .i64 e,.int .i64 a,.int .i64 b,.int .i64 f,.int .i64 cell,.int .u64 imm,.slice ao nA ac,.int .i64 nx,.int .i64 el]] w (NewI w (readsOf ⟨op,bop,d,e,a,b,f,cell,imm,args,nx,el⟩)):=by
 have H:=lh hr
 have HL:=lh hl
 have HA:=lh hargs
 have HW1:Hid (Below w.heap.size w (w.alloc (.cells #[.int .u8 op,.int .u8 bop,.int .i64 d,.int .i64 e,.int .i64 a,.int .i64 b,.int .i64 f,.int .i64 cell,.int .u64 imm,.slice ao nA ac,.int .i64 nx,.int .i64 el] 47))):=(Below.refl _ _).alloc (Nat.le_refl _) _
 have HH:Hid (Reads (w.alloc (.cells #[.int .u8 op,.int .u8 bop,.int .i64 d,.int .i64 e,.int .i64 a,.int .i64 b,.int .i64 f,.int .i64 cell,.int .u64 imm,.slice ao nA ac,.int .i64 nx,.int .i64 el] 47)) B 1 ao nA (i64c args)):=lh (hr.below (HW1.out.mono hB))
 have hB1:B≤(w.alloc (.cells #[.int .u8 op,.int .u8 bop,.int .i64 d,.int .i64 e,.int .i64 a,.int .i64 b,.int .i64 f,.int .i64 cell,.int .u64 imm,.slice ao nA ac,.int .i64 nx,.int .i64 el] 47)).heap.size:=by simp;omega
 have hz1:(w.alloc (.cells #[.int .u8 op,.int .u8 bop,.int .i64 d,.int .i64 e,.int .i64 a,.int .i64 b,.int .i64 f,.int .i64 cell,.int .u64 imm,.slice ao nA ac,.int .i64 nx,.int .i64 el] 47)).heap.size=w.heap.size+1:=by simp
 clear hr hl hargs
 rcases op_cases ho0 ho1 with rfl | rfl | rfl | rfl | rfl | rfl | rfl | rfl | rfl | rfl | rfl | rfl | rfl | rfl | rfl | rfl | rfl | rfl | hop
 ·go_enter Tryz.func59,Tryz.ntmps59
  go_wp2
  go_ret
  exact NewI.mk' (l:=[]) rfl rfl Reads.none_ (Nat.le_refl _) (Below.refl _ _) HW1.out
 ·have HLR:=lh (lit_reads (w.alloc (.cells #[.int .u8 2,.int .u8 bop,.int .i64 d,.int .i64 e,.int .i64 a,.int .i64 b,.int .i64 f,.int .i64 cell,.int .u64 imm,.slice ao nA ac,.int .i64 nx,.int .i64 el] 47)) 3 (i64c [a]) 1 rfl)
  have HWF:Hid (∀ x ∈ [a],I64 x):=lh (by intro x hx;simp at hx;subst hx;assumption)
  have HW2:Hid (Below w.heap.size w ((w.alloc (.cells #[.int .u8 2,.int .u8 bop,.int .i64 d,.int .i64 e,.int .i64 a,.int .i64 b,.int .i64 f,.int .i64 cell,.int .u64 imm,.slice ao nA ac,.int .i64 nx,.int .i64 el] 47)).alloc (.cells #[.int .i64 a] 3))):=HW1.out.alloc (by simp) _
  have hs2:w.heap.size+1+1≤((w.alloc (.cells #[.int .u8 2,.int .u8 bop,.int .i64 d,.int .i64 e,.int .i64 a,.int .i64 b,.int .i64 f,.int .i64 cell,.int .u64 imm,.slice ao nA ac,.int .i64 nx,.int .i64 el] 47)).alloc (.cells #[.int .i64 a] 3)).heap.size:=by simp
  rw [hz1] at HLR
  go_enter Tryz.func59,Tryz.ntmps59
  go_wp2_with (first | (go_at_call 60;refine (radd_any (w.heap.size+1+1) _ 1 _ [a] _ HLR.out rfl HWF.out hs2 (by omega)).mono ?_;rintro ee w2 ⟨A2,c2,rfl,hr2,hc2,hb2⟩;have HR2:=lh hr2;have HB2:=lh hb2;clear hr2 hb2))
  go_ret
  exact NewI.mk' rfl rfl HR2.out hc2 HB2.out HW2.out
 ·have HLR:=lh (lit_reads (w.alloc (.cells #[.int .u8 3,.int .u8 bop,.int .i64 d,.int .i64 e,.int .i64 a,.int .i64 b,.int .i64 f,.int .i64 cell,.int .u64 imm,.slice ao nA ac,.int .i64 nx,.int .i64 el] 47)) 3 (i64c [a,b]) 2 rfl)
  have HWF:Hid (∀ x ∈ [a,b],I64 x):=lh (by intro x hx;simp at hx;rcases hx with rfl | rfl <;> assumption)
  have HW2:Hid (Below w.heap.size w ((w.alloc (.cells #[.int .u8 3,.int .u8 bop,.int .i64 d,.int .i64 e,.int .i64 a,.int .i64 b,.int .i64 f,.int .i64 cell,.int .u64 imm,.slice ao nA ac,.int .i64 nx,.int .i64 el] 47)).alloc (.cells #[.int .i64 a,.int .i64 b] 3))):=HW1.out.alloc (by simp) _
  have hs2:w.heap.size+1+1≤((w.alloc (.cells #[.int .u8 3,.int .u8 bop,.int .i64 d,.int .i64 e,.int .i64 a,.int .i64 b,.int .i64 f,.int .i64 cell,.int .u64 imm,.slice ao nA ac,.int .i64 nx,.int .i64 el] 47)).alloc (.cells #[.int .i64 a,.int .i64 b] 3)).heap.size:=by simp
  rw [hz1] at HLR
  go_enter Tryz.func59,Tryz.ntmps59
  go_wp2_with (first | (go_at_call 60;refine (radd_any (w.heap.size+1+1) _ 2 _ [a,b] _ HLR.out rfl HWF.out hs2 (by omega)).mono ?_;rintro ee w2 ⟨A2,c2,rfl,hr2,hc2,hb2⟩;have HR2:=lh hr2;have HB2:=lh hb2;clear hr2 hb2))
  go_ret
  exact NewI.mk' rfl rfl HR2.out hc2 HB2.out HW2.out
 ·go_enter Tryz.func59,Tryz.ntmps59
  go_wp2
  go_ret
  exact NewI.mk' (l:=[]) rfl rfl Reads.none_ (Nat.le_refl _) (Below.refl _ _) HW1.out
 ·have HLR:=lh (lit_reads (w.alloc (.cells #[.int .u8 5,.int .u8 bop,.int .i64 d,.int .i64 e,.int .i64 a,.int .i64 b,.int .i64 f,.int .i64 cell,.int .u64 imm,.slice ao nA ac,.int .i64 nx,.int .i64 el] 47)) 3 (i64c [a]) 1 rfl)
  have HWF:Hid (∀ x ∈ [a],I64 x):=lh (by intro x hx;simp at hx;subst hx;assumption)
  have HW2:Hid (Below w.heap.size w ((w.alloc (.cells #[.int .u8 5,.int .u8 bop,.int .i64 d,.int .i64 e,.int .i64 a,.int .i64 b,.int .i64 f,.int .i64 cell,.int .u64 imm,.slice ao nA ac,.int .i64 nx,.int .i64 el] 47)).alloc (.cells #[.int .i64 a] 3))):=HW1.out.alloc (by simp) _
  have hs2:w.heap.size+1+1≤((w.alloc (.cells #[.int .u8 5,.int .u8 bop,.int .i64 d,.int .i64 e,.int .i64 a,.int .i64 b,.int .i64 f,.int .i64 cell,.int .u64 imm,.slice ao nA ac,.int .i64 nx,.int .i64 el] 47)).alloc (.cells #[.int .i64 a] 3)).heap.size:=by simp
  rw [hz1] at HLR
  go_enter Tryz.func59,Tryz.ntmps59
  go_wp2_with (first | (go_at_call 60;refine (radd_any (w.heap.size+1+1) _ 1 _ [a] _ HLR.out rfl HWF.out hs2 (by omega)).mono ?_;rintro ee w2 ⟨A2,c2,rfl,hr2,hc2,hb2⟩;have HR2:=lh hr2;have HB2:=lh hb2;clear hr2 hb2))
  go_ret
  exact NewI.mk' rfl rfl HR2.out hc2 HB2.out HW2.out
 ·go_enter Tryz.func59,Tryz.ntmps59
  go_wp2
  go_ret
  exact NewI.mk' (l:=[]) rfl rfl Reads.none_ (Nat.le_refl _) (Below.refl _ _) HW1.out
 ·have HLR:=lh (lit_reads (w.alloc (.cells #[.int .u8 7,.int .u8 bop,.int .i64 d,.int .i64 e,.int .i64 a,.int .i64 b,.int .i64 f,.int .i64 cell,.int .u64 imm,.slice ao nA ac,.int .i64 nx,.int .i64 el] 47)) 3 (i64c [a]) 1 rfl)
  have HWF:Hid (∀ x ∈ [a],I64 x):=lh (by intro x hx;simp at hx;subst hx;assumption)
  have HW2:Hid (Below w.heap.size w ((w.alloc (.cells #[.int .u8 7,.int .u8 bop,.int .i64 d,.int .i64 e,.int .i64 a,.int .i64 b,.int .i64 f,.int .i64 cell,.int .u64 imm,.slice ao nA ac,.int .i64 nx,.int .i64 el] 47)).alloc (.cells #[.int .i64 a] 3))):=HW1.out.alloc (by simp) _
  have hs2:w.heap.size+1+1≤((w.alloc (.cells #[.int .u8 7,.int .u8 bop,.int .i64 d,.int .i64 e,.int .i64 a,.int .i64 b,.int .i64 f,.int .i64 cell,.int .u64 imm,.slice ao nA ac,.int .i64 nx,.int .i64 el] 47)).alloc (.cells #[.int .i64 a] 3)).heap.size:=by simp
  rw [hz1] at HLR
  go_enter Tryz.func59,Tryz.ntmps59
  go_wp2_with (first | (go_at_call 60;refine (radd_any (w.heap.size+1+1) _ 1 _ [a] _ HLR.out rfl HWF.out hs2 (by omega)).mono ?_;rintro ee w2 ⟨A2,c2,rfl,hr2,hc2,hb2⟩;have HR2:=lh hr2;have HB2:=lh hb2;clear hr2 hb2))
  go_ret
  exact NewI.mk' rfl rfl HR2.out hc2 HB2.out HW2.out
 ·have HLR:=lh (lit_reads (w.alloc (.cells #[.int .u8 8,.int .u8 bop,.int .i64 d,.int .i64 e,.int .i64 a,.int .i64 b,.int .i64 f,.int .i64 cell,.int .u64 imm,.slice ao nA ac,.int .i64 nx,.int .i64 el] 47)) 3 (i64c [a,b]) 2 rfl)
  have HWF:Hid (∀ x ∈ [a,b],I64 x):=lh (by intro x hx;simp at hx;rcases hx with rfl | rfl <;> assumption)
  have HW2:Hid (Below w.heap.size w ((w.alloc (.cells #[.int .u8 8,.int .u8 bop,.int .i64 d,.int .i64 e,.int .i64 a,.int .i64 b,.int .i64 f,.int .i64 cell,.int .u64 imm,.slice ao nA ac,.int .i64 nx,.int .i64 el] 47)).alloc (.cells #[.int .i64 a,.int .i64 b] 3))):=HW1.out.alloc (by simp) _
  have hs2:w.heap.size+1+1≤((w.alloc (.cells #[.int .u8 8,.int .u8 bop,.int .i64 d,.int .i64 e,.int .i64 a,.int .i64 b,.int .i64 f,.int .i64 cell,.int .u64 imm,.slice ao nA ac,.int .i64 nx,.int .i64 el] 47)).alloc (.cells #[.int .i64 a,.int .i64 b] 3)).heap.size:=by simp
  rw [hz1] at HLR
  go_enter Tryz.func59,Tryz.ntmps59
  go_wp2_with (first | (go_at_call 60;refine (radd_any (w.heap.size+1+1) _ 2 _ [a,b] _ HLR.out rfl HWF.out hs2 (by omega)).mono ?_;rintro ee w2 ⟨A2,c2,rfl,hr2,hc2,hb2⟩;have HR2:=lh hr2;have HB2:=lh hb2;clear hr2 hb2))
  go_ret
  exact NewI.mk' rfl rfl HR2.out hc2 HB2.out HW2.out
 ·have HLR:=lh (lit_reads (w.alloc (.cells #[.int .u8 9,.int .u8 bop,.int .i64 d,.int .i64 e,.int .i64 a,.int .i64 b,.int .i64 f,.int .i64 cell,.int .u64 imm,.slice ao nA ac,.int .i64 nx,.int .i64 el] 47)) 3 (i64c [a]) 1 rfl)
  have HWF:Hid (∀ x ∈ [a],I64 x):=lh (by intro x hx;simp at hx;subst hx;assumption)
  have HW2:Hid (Below w.heap.size w ((w.alloc (.cells #[.int .u8 9,.int .u8 bop,.int .i64 d,.int .i64 e,.int .i64 a,.int .i64 b,.int .i64 f,.int .i64 cell,.int .u64 imm,.slice ao nA ac,.int .i64 nx,.int .i64 el] 47)).alloc (.cells #[.int .i64 a] 3))):=HW1.out.alloc (by simp) _
  have hs2:w.heap.size+1+1≤((w.alloc (.cells #[.int .u8 9,.int .u8 bop,.int .i64 d,.int .i64 e,.int .i64 a,.int .i64 b,.int .i64 f,.int .i64 cell,.int .u64 imm,.slice ao nA ac,.int .i64 nx,.int .i64 el] 47)).alloc (.cells #[.int .i64 a] 3)).heap.size:=by simp
  rw [hz1] at HLR
  go_enter Tryz.func59,Tryz.ntmps59
  go_wp2_with (first | (go_at_call 60;refine (radd_any (w.heap.size+1+1) _ 1 _ [a] _ HLR.out rfl HWF.out hs2 (by omega)).mono ?_;rintro ee w2 ⟨A2,c2,rfl,hr2,hc2,hb2⟩;have HR2:=lh hr2;have HB2:=lh hb2;clear hr2 hb2))
  go_ret
  exact NewI.mk' rfl rfl HR2.out hc2 HB2.out HW2.out
 ·go_enter Tryz.func59,Tryz.ntmps59
  go_wp2
  go_ret
  exact NewI.mk' (l:=[]) rfl rfl Reads.none_ (Nat.le_refl _) (Below.refl _ _) HW1.out
 ·go_enter Tryz.func59,Tryz.ntmps59
  go_wp2_with (first | (go_at_call 60;refine (radd_any B ao nA ac args _ HH.out HL.out HA.out hB1 hnA).mono ?_;rintro ee w2 ⟨A2,c2,rfl,hr2,hc2,hb2⟩;have HR2:=lh hr2;have HB2:=lh hb2;clear hr2 hb2))
  go_ret
  exact NewI.mk' rfl rfl HR2.out hc2 HB2.out HW1.out
 ·have HLR:=lh (lit_reads (w.alloc (.cells #[.int .u8 12,.int .u8 bop,.int .i64 d,.int .i64 e,.int .i64 a,.int .i64 b,.int .i64 f,.int .i64 cell,.int .u64 imm,.slice ao nA ac,.int .i64 nx,.int .i64 el] 47)) 3 (i64c [a]) 1 rfl)
  have HWF:Hid (∀ x ∈ [a],I64 x):=lh (by intro x hx;simp at hx;subst hx;assumption)
  have HW2:Hid (Below w.heap.size w ((w.alloc (.cells #[.int .u8 12,.int .u8 bop,.int .i64 d,.int .i64 e,.int .i64 a,.int .i64 b,.int .i64 f,.int .i64 cell,.int .u64 imm,.slice ao nA ac,.int .i64 nx,.int .i64 el] 47)).alloc (.cells #[.int .i64 a] 3))):=HW1.out.alloc (by simp) _
  have hs2:w.heap.size+1+1≤((w.alloc (.cells #[.int .u8 12,.int .u8 bop,.int .i64 d,.int .i64 e,.int .i64 a,.int .i64 b,.int .i64 f,.int .i64 cell,.int .u64 imm,.slice ao nA ac,.int .i64 nx,.int .i64 el] 47)).alloc (.cells #[.int .i64 a] 3)).heap.size:=by simp
  rw [hz1] at HLR
  go_enter Tryz.func59,Tryz.ntmps59
  go_wp2_with (first | (go_at_call 60;refine (radd_any (w.heap.size+1+1) _ 1 _ [a] _ HLR.out rfl HWF.out hs2 (by omega)).mono ?_;rintro ee w2 ⟨A2,c2,rfl,hr2,hc2,hb2⟩;have HR2:=lh hr2;have HB2:=lh hb2;clear hr2 hb2))
  go_ret
  exact NewI.mk' rfl rfl HR2.out hc2 HB2.out HW2.out
 ·go_enter Tryz.func59,Tryz.ntmps59
  go_wp2_with (first | (go_at_call 60;refine (radd_any B ao nA ac args _ HH.out HL.out HA.out hB1 hnA).mono ?_;rintro ee w2 ⟨A2,c2,rfl,hr2,hc2,hb2⟩;have HR2:=lh hr2;have HB2:=lh hb2;clear hr2 hb2))
  go_ret
  exact NewI.mk' rfl rfl HR2.out hc2 HB2.out HW1.out
 ·have HLR:=lh (lit_reads (w.alloc (.cells #[.int .u8 14,.int .u8 bop,.int .i64 d,.int .i64 e,.int .i64 a,.int .i64 b,.int .i64 f,.int .i64 cell,.int .u64 imm,.slice ao nA ac,.int .i64 nx,.int .i64 el] 47)) 3 (i64c [a]) 1 rfl)
  have HWF:Hid (∀ x ∈ [a],I64 x):=lh (by intro x hx;simp at hx;subst hx;assumption)
  have HW2:Hid (Below w.heap.size w ((w.alloc (.cells #[.int .u8 14,.int .u8 bop,.int .i64 d,.int .i64 e,.int .i64 a,.int .i64 b,.int .i64 f,.int .i64 cell,.int .u64 imm,.slice ao nA ac,.int .i64 nx,.int .i64 el] 47)).alloc (.cells #[.int .i64 a] 3))):=HW1.out.alloc (by simp) _
  have hs2:w.heap.size+1+1≤((w.alloc (.cells #[.int .u8 14,.int .u8 bop,.int .i64 d,.int .i64 e,.int .i64 a,.int .i64 b,.int .i64 f,.int .i64 cell,.int .u64 imm,.slice ao nA ac,.int .i64 nx,.int .i64 el] 47)).alloc (.cells #[.int .i64 a] 3)).heap.size:=by simp
  rw [hz1] at HLR
  go_enter Tryz.func59,Tryz.ntmps59
  go_wp2_with (first | (go_at_call 60;refine (radd_any (w.heap.size+1+1) _ 1 _ [a] _ HLR.out rfl HWF.out hs2 (by omega)).mono ?_;rintro ee w2 ⟨A2,c2,rfl,hr2,hc2,hb2⟩;have HR2:=lh hr2;have HB2:=lh hb2;clear hr2 hb2))
  go_ret
  exact NewI.mk' rfl rfl HR2.out hc2 HB2.out HW2.out
 ·go_enter Tryz.func59,Tryz.ntmps59
  go_wp2
  go_ret
  exact NewI.mk' (l:=[]) rfl rfl Reads.none_ (Nat.le_refl _) (Below.refl _ _) HW1.out
 ·go_enter Tryz.func59,Tryz.ntmps59
  go_wp2
  go_ret
  exact NewI.mk' (l:=[]) rfl rfl Reads.none_ (Nat.le_refl _) (Below.refl _ _) HW1.out
 ·have HLR:=lh (lit_reads (w.alloc (.cells #[.int .u8 17,.int .u8 bop,.int .i64 d,.int .i64 e,.int .i64 a,.int .i64 b,.int .i64 f,.int .i64 cell,.int .u64 imm,.slice ao nA ac,.int .i64 nx,.int .i64 el] 47)) 3 (i64c [a]) 1 rfl)
  have HWF:Hid (∀ x ∈ [a],I64 x):=lh (by intro x hx;simp at hx;subst hx;assumption)
  have HW2:Hid (Below w.heap.size w ((w.alloc (.cells #[.int .u8 17,.int .u8 bop,.int .i64 d,.int .i64 e,.int .i64 a,.int .i64 b,.int .i64 f,.int .i64 cell,.int .u64 imm,.slice ao nA ac,.int .i64 nx,.int .i64 el] 47)).alloc (.cells #[.int .i64 a] 3))):=HW1.out.alloc (by simp) _
  have hs2:w.heap.size+1+1≤((w.alloc (.cells #[.int .u8 17,.int .u8 bop,.int .i64 d,.int .i64 e,.int .i64 a,.int .i64 b,.int .i64 f,.int .i64 cell,.int .u64 imm,.slice ao nA ac,.int .i64 nx,.int .i64 el] 47)).alloc (.cells #[.int .i64 a] 3)).heap.size:=by simp
  rw [hz1] at HLR
  go_enter Tryz.func59,Tryz.ntmps59
  go_wp2_with (first | (go_at_call 60;refine (radd_any (w.heap.size+1+1) _ 1 _ [a] _ HLR.out rfl HWF.out hs2 (by omega)).mono ?_;rintro ee w2 ⟨A2,c2,rfl,hr2,hc2,hb2⟩;have HR2:=lh hr2;have HB2:=lh hb2;clear hr2 hb2))
  go_ret
  exact NewI.mk' rfl rfl HR2.out hc2 HB2.out HW2.out
 ·have HLR:=lh (lit_reads (w.alloc (.cells #[.int .u8 18,.int .u8 bop,.int .i64 d,.int .i64 e,.int .i64 a,.int .i64 b,.int .i64 f,.int .i64 cell,.int .u64 imm,.slice ao nA ac,.int .i64 nx,.int .i64 el] 47)) 3 (i64c [a]) 1 rfl)
  have HWF:Hid (∀ x ∈ [a],I64 x):=lh (by intro x hx;simp at hx;subst hx;assumption)
  have HW2:Hid (Below w.heap.size w ((w.alloc (.cells #[.int .u8 18,.int .u8 bop,.int .i64 d,.int .i64 e,.int .i64 a,.int .i64 b,.int .i64 f,.int .i64 cell,.int .u64 imm,.slice ao nA ac,.int .i64 nx,.int .i64 el] 47)).alloc (.cells #[.int .i64 a] 3))):=HW1.out.alloc (by simp) _
  have hs2:w.heap.size+1+1≤((w.alloc (.cells #[.int .u8 18,.int .u8 bop,.int .i64 d,.int .i64 e,.int .i64 a,.int .i64 b,.int .i64 f,.int .i64 cell,.int .u64 imm,.slice ao nA ac,.int .i64 nx,.int .i64 el] 47)).alloc (.cells #[.int .i64 a] 3)).heap.size:=by simp
  rw [hz1] at HLR
  go_enter Tryz.func59,Tryz.ntmps59
  go_wp2_with (first | (go_at_call 60;refine (radd_any (w.heap.size+1+1) _ 1 _ [a] _ HLR.out rfl HWF.out hs2 (by omega)).mono ?_;rintro ee w2 ⟨A2,c2,rfl,hr2,hc2,hb2⟩;have HR2:=lh hr2;have HB2:=lh hb2;clear hr2 hb2))
  go_ret
  exact NewI.mk' rfl rfl HR2.out hc2 HB2.out HW2.out
 ·have hL:readsOf ⟨op,bop,d,e,a,b,f,cell,imm,args,nx,el⟩=[]:=by
   unfold readsOf
   simp only [readF]
   repeat rw [if_neg (by omega)]
   rfl
  have HLL:=lh hL
  clear hL
  have g2:(op == 2)=false:=by simp;omega
  have g5:(op == 5)=false:=by simp;omega
  have g7:(op == 7)=false:=by simp;omega
  have g9:(op == 9)=false:=by simp;omega
  have g12:(op == 12)=false:=by simp;omega
  have g14:(op == 14)=false:=by simp;omega
  have g18:(op == 18)=false:=by simp;omega
  have g17:(op == 17)=false:=by simp;omega
  have g3:(op == 3)=false:=by simp;omega
  have g8:(op == 8)=false:=by simp;omega
  have g11:(op == 11)=false:=by simp;omega
  have g13:(op == 13)=false:=by simp;omega
  go_enter Tryz.func59,Tryz.ntmps59
  go_wp2
  go_ret
  exact NewI.mk' HLL.out.symm rfl Reads.none_ (Nat.le_refl _) (Below.refl _ _) HW1.out

theorem rwrites_any (B:Nat) (op bop d e a b f cell imm:Int) (args:List Int) (nx el:Int) (ao:Option Addr) (nA ac:Nat) (w:World) (ho0:0≤op) (ho1:op≤255) (hd:I64 d) (he:I64 e) (ha:I64 a) (hb:I64 b) (hn:I64 nx) (hel:I64 el) (hr:Reads w B 1 ao nA (i64c args)) (hl:args.length=nA) (hargs:∀ x ∈ args,I64 x) (hnA:nA*8≤140737488351232) (hnc:nA≤ac) (hB:B≤w.heap.size) :
  Calls Tryz.prog 39 #[.agg #[.int .u8 op,.int .u8 bop,.int .i64 d,.int .i64 e,.int .i64 a,.int .i64 b,.int .i64 f,.int .i64 cell,.int .u64 imm,.slice ao nA ac,.int .i64 nx,.int .i64 el]] w (NewI w (writesOf ⟨op,bop,d,e,a,b,f,cell,imm,args,nx,el⟩)):=by
 have H:=lh hr
 have HL:=lh hl
 have HA:=lh hargs
 have HW1:Hid (Below w.heap.size w (w.alloc (.cells #[.int .u8 op,.int .u8 bop,.int .i64 d,.int .i64 e,.int .i64 a,.int .i64 b,.int .i64 f,.int .i64 cell,.int .u64 imm,.slice ao nA ac,.int .i64 nx,.int .i64 el] 47))):=(Below.refl _ _).alloc (Nat.le_refl _) _
 have HH:Hid (Reads (w.alloc (.cells #[.int .u8 op,.int .u8 bop,.int .i64 d,.int .i64 e,.int .i64 a,.int .i64 b,.int .i64 f,.int .i64 cell,.int .u64 imm,.slice ao nA ac,.int .i64 nx,.int .i64 el] 47)) B 1 ao nA (i64c args)):=lh (hr.below (HW1.out.mono hB))
 have hB1:B≤(w.alloc (.cells #[.int .u8 op,.int .u8 bop,.int .i64 d,.int .i64 e,.int .i64 a,.int .i64 b,.int .i64 f,.int .i64 cell,.int .u64 imm,.slice ao nA ac,.int .i64 nx,.int .i64 el] 47)).heap.size:=by simp;omega
 have hz1:(w.alloc (.cells #[.int .u8 op,.int .u8 bop,.int .i64 d,.int .i64 e,.int .i64 a,.int .i64 b,.int .i64 f,.int .i64 cell,.int .u64 imm,.slice ao nA ac,.int .i64 nx,.int .i64 el] 47)).heap.size=w.heap.size+1:=by simp
 clear hr hl hargs
 rcases op_cases ho0 ho1 with rfl | rfl | rfl | rfl | rfl | rfl | rfl | rfl | rfl | rfl | rfl | rfl | rfl | rfl | rfl | rfl | rfl | rfl | hop
 ·have HLR:=lh (lit_reads (w.alloc (.cells #[.int .u8 1,.int .u8 bop,.int .i64 d,.int .i64 e,.int .i64 a,.int .i64 b,.int .i64 f,.int .i64 cell,.int .u64 imm,.slice ao nA ac,.int .i64 nx,.int .i64 el] 47)) 3 (i64c [d]) 1 rfl)
  have HWF:Hid (∀ x ∈ [d],I64 x):=lh (by intro x hx;simp at hx;subst hx;assumption)
  have HW2:Hid (Below w.heap.size w ((w.alloc (.cells #[.int .u8 1,.int .u8 bop,.int .i64 d,.int .i64 e,.int .i64 a,.int .i64 b,.int .i64 f,.int .i64 cell,.int .u64 imm,.slice ao nA ac,.int .i64 nx,.int .i64 el] 47)).alloc (.cells #[.int .i64 d] 3))):=HW1.out.alloc (by simp) _
  have hs2:w.heap.size+1+1≤((w.alloc (.cells #[.int .u8 1,.int .u8 bop,.int .i64 d,.int .i64 e,.int .i64 a,.int .i64 b,.int .i64 f,.int .i64 cell,.int .u64 imm,.slice ao nA ac,.int .i64 nx,.int .i64 el] 47)).alloc (.cells #[.int .i64 d] 3)).heap.size:=by simp
  rw [hz1] at HLR
  go_enter Tryz.func39,Tryz.ntmps39
  go_wp2_with (first | (go_at_call 60;refine (radd_any (w.heap.size+1+1) _ 1 _ [d] _ HLR.out rfl HWF.out hs2 (by omega)).mono ?_;rintro ee w2 ⟨A2,c2,rfl,hr2,hc2,hb2⟩;have HR2:=lh hr2;have HB2:=lh hb2;clear hr2 hb2))
  go_ret
  exact NewI.mk' rfl rfl HR2.out hc2 HB2.out HW2.out
 ·have HLR:=lh (lit_reads (w.alloc (.cells #[.int .u8 2,.int .u8 bop,.int .i64 d,.int .i64 e,.int .i64 a,.int .i64 b,.int .i64 f,.int .i64 cell,.int .u64 imm,.slice ao nA ac,.int .i64 nx,.int .i64 el] 47)) 3 (i64c [d]) 1 rfl)
  have HWF:Hid (∀ x ∈ [d],I64 x):=lh (by intro x hx;simp at hx;subst hx;assumption)
  have HW2:Hid (Below w.heap.size w ((w.alloc (.cells #[.int .u8 2,.int .u8 bop,.int .i64 d,.int .i64 e,.int .i64 a,.int .i64 b,.int .i64 f,.int .i64 cell,.int .u64 imm,.slice ao nA ac,.int .i64 nx,.int .i64 el] 47)).alloc (.cells #[.int .i64 d] 3))):=HW1.out.alloc (by simp) _
  have hs2:w.heap.size+1+1≤((w.alloc (.cells #[.int .u8 2,.int .u8 bop,.int .i64 d,.int .i64 e,.int .i64 a,.int .i64 b,.int .i64 f,.int .i64 cell,.int .u64 imm,.slice ao nA ac,.int .i64 nx,.int .i64 el] 47)).alloc (.cells #[.int .i64 d] 3)).heap.size:=by simp
  rw [hz1] at HLR
  go_enter Tryz.func39,Tryz.ntmps39
  go_wp2_with (first | (go_at_call 60;refine (radd_any (w.heap.size+1+1) _ 1 _ [d] _ HLR.out rfl HWF.out hs2 (by omega)).mono ?_;rintro ee w2 ⟨A2,c2,rfl,hr2,hc2,hb2⟩;have HR2:=lh hr2;have HB2:=lh hb2;clear hr2 hb2))
  go_ret
  exact NewI.mk' rfl rfl HR2.out hc2 HB2.out HW2.out
 ·have HLR:=lh (lit_reads (w.alloc (.cells #[.int .u8 3,.int .u8 bop,.int .i64 d,.int .i64 e,.int .i64 a,.int .i64 b,.int .i64 f,.int .i64 cell,.int .u64 imm,.slice ao nA ac,.int .i64 nx,.int .i64 el] 47)) 3 (i64c [d]) 1 rfl)
  have HWF:Hid (∀ x ∈ [d],I64 x):=lh (by intro x hx;simp at hx;subst hx;assumption)
  have HW2:Hid (Below w.heap.size w ((w.alloc (.cells #[.int .u8 3,.int .u8 bop,.int .i64 d,.int .i64 e,.int .i64 a,.int .i64 b,.int .i64 f,.int .i64 cell,.int .u64 imm,.slice ao nA ac,.int .i64 nx,.int .i64 el] 47)).alloc (.cells #[.int .i64 d] 3))):=HW1.out.alloc (by simp) _
  have hs2:w.heap.size+1+1≤((w.alloc (.cells #[.int .u8 3,.int .u8 bop,.int .i64 d,.int .i64 e,.int .i64 a,.int .i64 b,.int .i64 f,.int .i64 cell,.int .u64 imm,.slice ao nA ac,.int .i64 nx,.int .i64 el] 47)).alloc (.cells #[.int .i64 d] 3)).heap.size:=by simp
  rw [hz1] at HLR
  go_enter Tryz.func39,Tryz.ntmps39
  go_wp2_with (first | (go_at_call 60;refine (radd_any (w.heap.size+1+1) _ 1 _ [d] _ HLR.out rfl HWF.out hs2 (by omega)).mono ?_;rintro ee w2 ⟨A2,c2,rfl,hr2,hc2,hb2⟩;have HR2:=lh hr2;have HB2:=lh hb2;clear hr2 hb2))
  go_ret
  exact NewI.mk' rfl rfl HR2.out hc2 HB2.out HW2.out
 ·have HLR:=lh (lit_reads (w.alloc (.cells #[.int .u8 4,.int .u8 bop,.int .i64 d,.int .i64 e,.int .i64 a,.int .i64 b,.int .i64 f,.int .i64 cell,.int .u64 imm,.slice ao nA ac,.int .i64 nx,.int .i64 el] 47)) 3 (i64c [d]) 1 rfl)
  have HWF:Hid (∀ x ∈ [d],I64 x):=lh (by intro x hx;simp at hx;subst hx;assumption)
  have HW2:Hid (Below w.heap.size w ((w.alloc (.cells #[.int .u8 4,.int .u8 bop,.int .i64 d,.int .i64 e,.int .i64 a,.int .i64 b,.int .i64 f,.int .i64 cell,.int .u64 imm,.slice ao nA ac,.int .i64 nx,.int .i64 el] 47)).alloc (.cells #[.int .i64 d] 3))):=HW1.out.alloc (by simp) _
  have hs2:w.heap.size+1+1≤((w.alloc (.cells #[.int .u8 4,.int .u8 bop,.int .i64 d,.int .i64 e,.int .i64 a,.int .i64 b,.int .i64 f,.int .i64 cell,.int .u64 imm,.slice ao nA ac,.int .i64 nx,.int .i64 el] 47)).alloc (.cells #[.int .i64 d] 3)).heap.size:=by simp
  rw [hz1] at HLR
  go_enter Tryz.func39,Tryz.ntmps39
  go_wp2_with (first | (go_at_call 60;refine (radd_any (w.heap.size+1+1) _ 1 _ [d] _ HLR.out rfl HWF.out hs2 (by omega)).mono ?_;rintro ee w2 ⟨A2,c2,rfl,hr2,hc2,hb2⟩;have HR2:=lh hr2;have HB2:=lh hb2;clear hr2 hb2))
  go_ret
  exact NewI.mk' rfl rfl HR2.out hc2 HB2.out HW2.out
 ·go_enter Tryz.func39,Tryz.ntmps39
  go_wp2
  go_ret
  exact NewI.mk' (l:=[]) rfl rfl Reads.none_ (Nat.le_refl _) (Below.refl _ _) HW1.out
 ·have HLR:=lh (lit_reads (w.alloc (.cells #[.int .u8 6,.int .u8 bop,.int .i64 d,.int .i64 e,.int .i64 a,.int .i64 b,.int .i64 f,.int .i64 cell,.int .u64 imm,.slice ao nA ac,.int .i64 nx,.int .i64 el] 47)) 3 (i64c [d]) 1 rfl)
  have HWF:Hid (∀ x ∈ [d],I64 x):=lh (by intro x hx;simp at hx;subst hx;assumption)
  have HW2:Hid (Below w.heap.size w ((w.alloc (.cells #[.int .u8 6,.int .u8 bop,.int .i64 d,.int .i64 e,.int .i64 a,.int .i64 b,.int .i64 f,.int .i64 cell,.int .u64 imm,.slice ao nA ac,.int .i64 nx,.int .i64 el] 47)).alloc (.cells #[.int .i64 d] 3))):=HW1.out.alloc (by simp) _
  have hs2:w.heap.size+1+1≤((w.alloc (.cells #[.int .u8 6,.int .u8 bop,.int .i64 d,.int .i64 e,.int .i64 a,.int .i64 b,.int .i64 f,.int .i64 cell,.int .u64 imm,.slice ao nA ac,.int .i64 nx,.int .i64 el] 47)).alloc (.cells #[.int .i64 d] 3)).heap.size:=by simp
  rw [hz1] at HLR
  go_enter Tryz.func39,Tryz.ntmps39
  go_wp2_with (first | (go_at_call 60;refine (radd_any (w.heap.size+1+1) _ 1 _ [d] _ HLR.out rfl HWF.out hs2 (by omega)).mono ?_;rintro ee w2 ⟨A2,c2,rfl,hr2,hc2,hb2⟩;have HR2:=lh hr2;have HB2:=lh hb2;clear hr2 hb2))
  go_ret
  exact NewI.mk' rfl rfl HR2.out hc2 HB2.out HW2.out
 ·have HLR:=lh (lit_reads (w.alloc (.cells #[.int .u8 7,.int .u8 bop,.int .i64 d,.int .i64 e,.int .i64 a,.int .i64 b,.int .i64 f,.int .i64 cell,.int .u64 imm,.slice ao nA ac,.int .i64 nx,.int .i64 el] 47)) 3 (i64c [d]) 1 rfl)
  have HWF:Hid (∀ x ∈ [d],I64 x):=lh (by intro x hx;simp at hx;subst hx;assumption)
  have HW2:Hid (Below w.heap.size w ((w.alloc (.cells #[.int .u8 7,.int .u8 bop,.int .i64 d,.int .i64 e,.int .i64 a,.int .i64 b,.int .i64 f,.int .i64 cell,.int .u64 imm,.slice ao nA ac,.int .i64 nx,.int .i64 el] 47)).alloc (.cells #[.int .i64 d] 3))):=HW1.out.alloc (by simp) _
  have hs2:w.heap.size+1+1≤((w.alloc (.cells #[.int .u8 7,.int .u8 bop,.int .i64 d,.int .i64 e,.int .i64 a,.int .i64 b,.int .i64 f,.int .i64 cell,.int .u64 imm,.slice ao nA ac,.int .i64 nx,.int .i64 el] 47)).alloc (.cells #[.int .i64 d] 3)).heap.size:=by simp
  rw [hz1] at HLR
  go_enter Tryz.func39,Tryz.ntmps39
  go_wp2_with (first | (go_at_call 60;refine (radd_any (w.heap.size+1+1) _ 1 _ [d] _ HLR.out rfl HWF.out hs2 (by omega)).mono ?_;rintro ee w2 ⟨A2,c2,rfl,hr2,hc2,hb2⟩;have HR2:=lh hr2;have HB2:=lh hb2;clear hr2 hb2))
  go_ret
  exact NewI.mk' rfl rfl HR2.out hc2 HB2.out HW2.out
 ·go_enter Tryz.func39,Tryz.ntmps39
  go_wp2
  go_ret
  exact NewI.mk' (l:=[]) rfl rfl Reads.none_ (Nat.le_refl _) (Below.refl _ _) HW1.out
 ·go_enter Tryz.func39,Tryz.ntmps39
  go_wp2
  go_ret
  exact NewI.mk' (l:=[]) rfl rfl Reads.none_ (Nat.le_refl _) (Below.refl _ _) HW1.out
 ·go_enter Tryz.func39,Tryz.ntmps39
  go_wp2
  go_ret
  exact NewI.mk' (l:=[]) rfl rfl Reads.none_ (Nat.le_refl _) (Below.refl _ _) HW1.out
 ·have HLR:=lh (lit_reads (w.alloc (.cells #[.int .u8 11,.int .u8 bop,.int .i64 d,.int .i64 e,.int .i64 a,.int .i64 b,.int .i64 f,.int .i64 cell,.int .u64 imm,.slice ao nA ac,.int .i64 nx,.int .i64 el] 47)) 3 (i64c [d]) 1 rfl)
  have HWF:Hid (∀ x ∈ [d],I64 x):=lh (by intro x hx;simp at hx;subst hx;assumption)
  have HW2:Hid (Below w.heap.size w ((w.alloc (.cells #[.int .u8 11,.int .u8 bop,.int .i64 d,.int .i64 e,.int .i64 a,.int .i64 b,.int .i64 f,.int .i64 cell,.int .u64 imm,.slice ao nA ac,.int .i64 nx,.int .i64 el] 47)).alloc (.cells #[.int .i64 d] 3))):=HW1.out.alloc (by simp) _
  have hs2:w.heap.size+1+1≤((w.alloc (.cells #[.int .u8 11,.int .u8 bop,.int .i64 d,.int .i64 e,.int .i64 a,.int .i64 b,.int .i64 f,.int .i64 cell,.int .u64 imm,.slice ao nA ac,.int .i64 nx,.int .i64 el] 47)).alloc (.cells #[.int .i64 d] 3)).heap.size:=by simp
  rw [hz1] at HLR
  go_enter Tryz.func39,Tryz.ntmps39
  go_wp2_with (first | (go_at_call 60;refine (radd_any (w.heap.size+1+1) _ 1 _ [d] _ HLR.out rfl HWF.out hs2 (by omega)).mono ?_;rintro ee w2 ⟨A2,c2,rfl,hr2,hc2,hb2⟩;have HR2:=lh hr2;have HB2:=lh hb2;clear hr2 hb2))
  go_ret
  exact NewI.mk' rfl rfl HR2.out hc2 HB2.out HW2.out
 ·go_enter Tryz.func39,Tryz.ntmps39
  go_wp2
  go_ret
  exact NewI.mk' (l:=[]) rfl rfl Reads.none_ (Nat.le_refl _) (Below.refl _ _) HW1.out
 ·go_enter Tryz.func39,Tryz.ntmps39
  go_wp2
  go_ret
  exact NewI.mk' (l:=[]) rfl rfl Reads.none_ (Nat.le_refl _) (Below.refl _ _) HW1.out
 ·go_enter Tryz.func39,Tryz.ntmps39
  go_wp2
  go_ret
  exact NewI.mk' (l:=[]) rfl rfl Reads.none_ (Nat.le_refl _) (Below.refl _ _) HW1.out
 ·have HLR:=lh (lit_reads (w.alloc (.cells #[.int .u8 15,.int .u8 bop,.int .i64 d,.int .i64 e,.int .i64 a,.int .i64 b,.int .i64 f,.int .i64 cell,.int .u64 imm,.slice ao nA ac,.int .i64 nx,.int .i64 el] 47)) 3 (i64c [d,e]) 2 rfl)
  have HWF:Hid (∀ x ∈ [d,e],I64 x):=lh (by intro x hx;simp at hx;rcases hx with rfl | rfl <;> assumption)
  have HW2:Hid (Below w.heap.size w ((w.alloc (.cells #[.int .u8 15,.int .u8 bop,.int .i64 d,.int .i64 e,.int .i64 a,.int .i64 b,.int .i64 f,.int .i64 cell,.int .u64 imm,.slice ao nA ac,.int .i64 nx,.int .i64 el] 47)).alloc (.cells #[.int .i64 d,.int .i64 e] 3))):=HW1.out.alloc (by simp) _
  have hs2:w.heap.size+1+1≤((w.alloc (.cells #[.int .u8 15,.int .u8 bop,.int .i64 d,.int .i64 e,.int .i64 a,.int .i64 b,.int .i64 f,.int .i64 cell,.int .u64 imm,.slice ao nA ac,.int .i64 nx,.int .i64 el] 47)).alloc (.cells #[.int .i64 d,.int .i64 e] 3)).heap.size:=by simp
  rw [hz1] at HLR
  go_enter Tryz.func39,Tryz.ntmps39
  go_wp2_with (first | (go_at_call 60;refine (radd_any (w.heap.size+1+1) _ 2 _ [d,e] _ HLR.out rfl HWF.out hs2 (by omega)).mono ?_;rintro ee w2 ⟨A2,c2,rfl,hr2,hc2,hb2⟩;have HR2:=lh hr2;have HB2:=lh hb2;clear hr2 hb2))
  go_ret
  exact NewI.mk' rfl rfl HR2.out hc2 HB2.out HW2.out
 ·have HLR:=lh (lit_reads (w.alloc (.cells #[.int .u8 16,.int .u8 bop,.int .i64 d,.int .i64 e,.int .i64 a,.int .i64 b,.int .i64 f,.int .i64 cell,.int .u64 imm,.slice ao nA ac,.int .i64 nx,.int .i64 el] 47)) 3 (i64c [d]) 1 rfl)
  have HWF:Hid (∀ x ∈ [d],I64 x):=lh (by intro x hx;simp at hx;subst hx;assumption)
  have HW2:Hid (Below w.heap.size w ((w.alloc (.cells #[.int .u8 16,.int .u8 bop,.int .i64 d,.int .i64 e,.int .i64 a,.int .i64 b,.int .i64 f,.int .i64 cell,.int .u64 imm,.slice ao nA ac,.int .i64 nx,.int .i64 el] 47)).alloc (.cells #[.int .i64 d] 3))):=HW1.out.alloc (by simp) _
  have hs2:w.heap.size+1+1≤((w.alloc (.cells #[.int .u8 16,.int .u8 bop,.int .i64 d,.int .i64 e,.int .i64 a,.int .i64 b,.int .i64 f,.int .i64 cell,.int .u64 imm,.slice ao nA ac,.int .i64 nx,.int .i64 el] 47)).alloc (.cells #[.int .i64 d] 3)).heap.size:=by simp
  rw [hz1] at HLR
  go_enter Tryz.func39,Tryz.ntmps39
  go_wp2_with (first | (go_at_call 60;refine (radd_any (w.heap.size+1+1) _ 1 _ [d] _ HLR.out rfl HWF.out hs2 (by omega)).mono ?_;rintro ee w2 ⟨A2,c2,rfl,hr2,hc2,hb2⟩;have HR2:=lh hr2;have HB2:=lh hb2;clear hr2 hb2))
  go_ret
  exact NewI.mk' rfl rfl HR2.out hc2 HB2.out HW2.out
 ·go_enter Tryz.func39,Tryz.ntmps39
  go_wp2
  go_ret
  exact NewI.mk' (l:=[]) rfl rfl Reads.none_ (Nat.le_refl _) (Below.refl _ _) HW1.out
 ·go_enter Tryz.func39,Tryz.ntmps39
  go_wp2
  go_ret
  exact NewI.mk' (l:=[]) rfl rfl Reads.none_ (Nat.le_refl _) (Below.refl _ _) HW1.out
 ·have hL:writesOf ⟨op,bop,d,e,a,b,f,cell,imm,args,nx,el⟩=[]:=by
   unfold writesOf
   simp only [writeF]
   repeat rw [if_neg (by omega)]
   rfl
  have HLL:=lh hL
  clear hL
  have g1:(op == 1)=false:=by simp;omega
  have g2:(op == 2)=false:=by simp;omega
  have g3:(op == 3)=false:=by simp;omega
  have g4:(op == 4)=false:=by simp;omega
  have g6:(op == 6)=false:=by simp;omega
  have g7:(op == 7)=false:=by simp;omega
  have g11:(op == 11)=false:=by simp;omega
  have g16:(op == 16)=false:=by simp;omega
  have g15:(op == 15)=false:=by simp;omega
  go_enter Tryz.func39,Tryz.ntmps39
  go_wp2
  go_ret
  exact NewI.mk' HLL.out.symm rfl Reads.none_ (Nat.le_refl _) (Below.refl _ _) HW1.out
theorem lens2 (n:Nd):(writesOf n).length≤2:=by
 have h1:=addL_len [] (writeF n)
 unfold writesOf
 have h2:(writeF n).length≤2:=by
  unfold writeF
  split
  ·simp
  ·split <;> simp
 simp only [List.length_nil,Nat.zero_add] at h1
 omega
def workB (la ws ps:List Int) (p:Int) (k:Nat):Bool:=decide (p ∈ la) || (decide (p ∈ ws) || (decide (k=0) && decide (p ∈ ps)))
theorem atwork_any (B:Nat) (po ko io no Ay:Option Addr) (nP pc nK kc nI ic n nc nl lc ci cy nla bl ol bo oo i k:Nat) (cells keep entry p:Int) (res:Bool) (rn:List RN) (ps la:List Int) (nd:RN) (w:World)
  (hN:RdNs w B no n rn) (hP:Reads w B 1 po nP (i64c ps)) (hpl:ps.length=nP) (hp4:nP≤4) (hB:B≤w.heap.size) (hi:i<n) (hn:n≤4096) (hk:k<nl) (hnl:nl≤4096) (c1:w.cell? ⟨bl,ol+k,none⟩=some (.int .i64 i)) (c2:w.cell? ⟨bo,oo+i,none⟩=some (.slice Ay nla cy))
  (hla:Reads w w.heap.size 1 Ay nla (i64c la)) (hll:la.length=nla) (hlm:nla≤5000) (hnd:rn[i]?=some nd) :
  Calls Tryz.prog 38 #[.agg #[.slice po nP pc,.slice ko nK kc,.int .i64 cells,.slice io nI ic,.bool res,.int .i64 keep,.slice no n nc,.int .i64 entry],.slice (some ⟨bl,ol,none⟩) nl lc,.slice (some ⟨bo,oo,none⟩) n ci,.int .i64 p,.int .i64 k] w fun e w'=>e=.returned (.bool (workB la (writesOf nd.nd) ps p k))∧Below w.heap.size w w':=by
 have hb1:Below w.heap.size w (w.alloc (.cells #[.slice po nP pc,.slice ko nK kc,.int .i64 cells,.slice io nI ic,.bool res,.int .i64 keep,.slice no n nc,.int .i64 entry] 35)):=(Below.refl _ _).alloc (Nat.le_refl _) _
 have hg1:=Blk.new w 35 #[.slice po nP pc,.slice ko nK kc,.int .i64 cells,.slice io nI ic,.bool res,.int .i64 keep,.slice no n nc,.int .i64 entry]
 obtain ⟨W1,hW1⟩:∃ W,W=(w.alloc (.cells #[.slice po nP pc,.slice ko nK kc,.int .i64 cells,.slice io nI ic,.bool res,.int .i64 keep,.slice no n nc,.int .i64 entry] 35)):=⟨_,rfl⟩
 rw [← hW1] at hb1 hg1
 have HG1:=lh hg1
 have HB1:=lh hb1
 have hz1:w.heap.size<W1.heap.size:=hg1.lt
 have HLA:=lh (hla.below hb1)
 have HIN1:Hid (∀ q,Calls Tryz.prog 31 #[.slice Ay nla cy,.int .i64 p] (W1.drewN q) fun e w'=>e=.returned (.bool (decide (p ∈ la)))∧w'=W1.drewN q):=lh fun q=>in_any w.heap.size Ay nla cy la p (W1.drewN q) (HLA.out.drewN q) hll (by omega)
 have hbl:bl<w.heap.size:=by have:=cell_lt c1;exact this
 have hbo:bo<w.heap.size:=by have:=cell_lt c2;exact this
 have d1:W1.cell? ⟨bl,ol+k,none⟩=some (.int .i64 i):=(hb1.cell (p:=⟨bl,_,none⟩) hbl).trans c1
 have d2:W1.cell? ⟨bo,oo+i,none⟩=some (.slice Ay nla cy):=(hb1.cell (p:=⟨bo,_,none⟩) hbo).trans c2
 by_cases hpa:p ∈ la
 ·have H1:Hid (decide (p ∈ la)=true):=lh (decide_eq_true hpa)
  have HR:Hid (workB la (writesOf nd.nd) ps p k=true):=lh (by unfold workB;rw [H1.out];rfl)
  rw [H1.out] at HIN1
  clear hpa hN hP hla hg1 c1 c2
  go_enter Tryz.func38,Tryz.ntmps38
  go_upto_region 1 with fail
  rw [← hW1]
  clear hW1
  go_quiet ((go_at_call 31;exact Calls.quiet_of_same (HIN1.out _)))
  go_wp2
  go_ret
  exact ⟨by rw [HR.out];rfl,below_drewN HB1.out _⟩
 ·have H1:Hid (decide (p ∈ la)=false):=lh (decide_eq_false hpa)
  rw [H1.out] at HIN1
  obtain ⟨bn,on,nd2,hno,hbn,HXI,HRN1,HWI,u0,u1,u2,u3,u4,u5,u6,u7,u8,u9,u10,u11⟩:=(hN.below (hb1.mono hB)).nd hi
  obtain rfl:nd=nd2:=by
   have h:=HXI.out
   rw [hnd] at h
   injection h
  have hbnr:bn<W1.heap.size:=by omega
  have HWX:=lh (rwrites_any B nd.nd.op nd.nd.bop nd.nd.d nd.nd.e nd.nd.a nd.nd.b nd.nd.f nd.nd.cell nd.nd.imm nd.nd.args nd.nd.next nd.nd.els nd.ao nd.nd.args.length nd.ac W1.drew HWI.out.o0 HWI.out.o1 HWI.out.d HWI.out.e HWI.out.a HWI.out.b HWI.out.next HWI.out.els HRN1.out.args.drew rfl HWI.out.args HWI.out.al HRN1.out.cap (by show B≤W1.heap.size;omega))
  obtain ⟨ws,hws⟩:∃ ws,ws=writesOf ⟨nd.nd.op,nd.nd.bop,nd.nd.d,nd.nd.e,nd.nd.a,nd.nd.b,nd.nd.f,nd.nd.cell,nd.nd.imm,nd.nd.args,nd.nd.next,nd.nd.els⟩:=⟨_,rfl⟩
  rw [← hws] at HWX
  have hw2:ws.length≤2:=by rw [hws];exact lens2 _
  have HWS:Hid (writesOf nd.nd=ws):=lh hws.symm
  have c6:W1.cell? ⟨w.heap.size,6,none⟩=some (.slice no n nc):=HG1.out.cell 6
  have HP:=lh (hP.below (hb1.mono hB))
  rw [hno] at c6 hW1 HG1 ⊢
  have HIN0:Hid (Calls Tryz.prog 31 #[.slice Ay nla cy,.int .i64 p] W1.drew fun e w'=>e=.returned (.bool false)∧w'=W1.drew):=lh (HIN1.out 1)
  clear hws hno hpa hN hP hla hg1 c1 c2
  by_cases hpw:p ∈ ws
  ·have H2:Hid (decide (p ∈ ws)=true):=lh (decide_eq_true hpw)
   have HR:Hid (workB la (writesOf nd.nd) ps p k=true):=lh (by unfold workB;rw [HWS.out,H2.out];simp)
   clear hpw
   go_enter Tryz.func38,Tryz.ntmps38
   go_upto_region 1 with fail
   rw [← hW1]
   clear hW1
   have hud:undef=Value.tuple #[]:=rfl
   first | go_region_law (go_simp;first
    | (go_at_call 31;(with_reducible refine HIN0.out.mono ?_);rintro e w2 ⟨rfl,rfl⟩)
    | (go_at_call 39;refine HWX.out.mono ?_;rintro e w3 ⟨A3,c3,rfl,hr3,hc3,hb3⟩;have HIN2:=lh (in_any w3.heap.size A3 ws.length c3 ws p w3 hr3 rfl (by omega));rw [H2.out] at HIN2;have HB3:=lh hb3)
    | (go_at_call 31;(with_reducible refine HIN2.out.mono ?_);rintro e w4 ⟨rfl,rfl⟩)) | fail
   all_goals
    go_wp2
    go_ret
    exact ⟨by rw [HR.out];rfl,HB1.out.trans (((Below.refl _ _).drew.trans (HB3.out)).mono HB1.out.size)⟩
  ·have H2:Hid (decide (p ∈ ws)=false):=lh (decide_eq_false hpw)
   clear hpw
   rcases Nat.eq_zero_or_pos k with hk0 | hk0
   ·subst hk0
    rw [Nat.add_zero] at d1
    have HR:Hid (workB la (writesOf nd.nd) ps p 0=decide (p ∈ ps)):=lh (by unfold workB;rw [HWS.out,H1.out,H2.out];simp)
    go_enter Tryz.func38,Tryz.ntmps38
    go_upto_region 1 with fail
    rw [← hW1]
    clear hW1
    have hud:undef=Value.tuple #[]:=rfl
    first | go_region_law (go_simp;first
     | (go_at_call 31;(with_reducible refine HIN0.out.mono ?_);rintro e w2 ⟨rfl,rfl⟩)
     | (go_at_call 39;refine HWX.out.mono ?_;rintro e w3 ⟨A3,c3,rfl,hr3,hc3,hb3⟩;have HIN2:=lh (in_any w3.heap.size A3 ws.length c3 ws p w3 hr3 rfl (by omega));rw [H2.out] at HIN2;have HB3:=lh hb3;have y0:w3.cell? ⟨w.heap.size,0,none⟩=some (.slice po nP pc):=(HG1.out.below (B:=W1.heap.size) ((Below.refl _ _).drew.trans hb3) HG1.out.lt).cell 0;have HIN3:=lh (in_any B po nP pc ps p w3 (HP.out.below (((Below.refl _ _).drew.trans hb3).mono (by show B≤W1.heap.size;omega))) hpl (by omega)))
     | (go_at_call 31;(with_reducible refine HIN2.out.mono ?_);rintro e w4 ⟨rfl,rfl⟩)
     | (go_at_call 31;(with_reducible refine HIN3.out.mono ?_);rintro e w4 ⟨rfl,rfl⟩)) | fail
    all_goals
     go_wp2
     go_ret
     exact ⟨by rw [HR.out];rfl,HB1.out.trans (((Below.refl _ _).drew.trans (HB3.out)).mono HB1.out.size)⟩
   ·have hk1:¬ k=0:=by omega
    have HR:Hid (workB la (writesOf nd.nd) ps p k=false):=lh (by unfold workB;rw [HWS.out,H1.out,H2.out];simp [hk1])
    go_enter Tryz.func38,Tryz.ntmps38
    go_upto_region 1 with fail
    rw [← hW1]
    clear hW1
    have hud:undef=Value.tuple #[]:=rfl
    first | go_region_law (go_simp;first
     | (go_at_call 31;(with_reducible refine HIN0.out.mono ?_);rintro e w2 ⟨rfl,rfl⟩)
     | (go_at_call 39;refine HWX.out.mono ?_;rintro e w3 ⟨A3,c3,rfl,hr3,hc3,hb3⟩;have HIN2:=lh (in_any w3.heap.size A3 ws.length c3 ws p w3 hr3 rfl (by omega));rw [H2.out] at HIN2;have HB3:=lh hb3)
     | (go_at_call 31;(with_reducible refine HIN2.out.mono ?_);rintro e w4 ⟨rfl,rfl⟩)) | fail
    all_goals
     go_wp2
     go_ret
     exact ⟨by rw [HR.out];rfl,HB1.out.trans (((Below.refl _ _).drew.trans (HB3.out)).mono HB1.out.size)⟩
end Go.Proofs.YtedmcfaghfgpoaaGreatDoor
