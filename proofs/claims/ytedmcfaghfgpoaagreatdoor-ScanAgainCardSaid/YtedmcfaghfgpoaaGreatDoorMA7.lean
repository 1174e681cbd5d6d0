/-
  Texts of one seat, one behind the other: LBk2, Ck.
-/
import Derived.Test.YtedmcfaghfgpoaaGreatDoorMA6
import Derived.Test.YtedmcfaghfgpoaaGreatDoorMA1
import Derived.Test.YtedmcfaghfgpoaaGreatDoorMA3

set_option linter.unusedVariables false
set_option linter.unusedSimpArgs false
set_option maxRecDepth 100000
set_option maxHeartbeats 51200000
namespace Go.Proofs.YtedmcfaghfgpoaaGreatDoor
open Go.ChangeShapes Go.WideShapes Go.ChangeAt Go.RowKit
theorem grown_of_drew {a b:World} {row:Option Nat} (h:a.drew.grownBy b row):a.grownBy b row:=⟨h.os,h.tape,h.output,h.size,h.block⟩
theorem NbI.push1 {W wr w':World} {bb R1 R2 R n q m:Nat} {vs:Nat→Value} {ls:Nat→List Int} {cs:Array Value} {o:Obj} {v':Value} {x:Nat} {k:Int} (h:NbI W bb R1 R2 R n q m vs ls cs wr) (hx:x<n)
  (hown:w'.ownsRow W.heap.size 3 1 v' ((ls (2*x)).length+1) (i64c (ls (2*x)) ++ [.int .i64 k])) (hg:(wr.alloc o).grownBy w' (vs (2*x)).ownBlock) (hor:v'.ownBlock=(vs (2*x)).ownBlock∨v'.ownBlock=some (wr.alloc o).drew.heap.size) :
  ∃ A' c',v'=.slice A' ((ls (2*x)).length+1) c'∧w'.cell? ⟨bb,0,none⟩=some (.slice (some ⟨R1,0,none⟩) n n)∧w'.frozen? ⟨R1,x,none⟩=false∧(∃ y,w'.cell? ⟨R1,x,none⟩=some y)∧Hid (NbI W bb R1 R2 R n q m (upd vs (2*x) v') (upd ls (2*x) (ls (2*x) ++ [k])) cs (w'.setCell ⟨R1,x,none⟩ v')):=by
 obtain ⟨A',c',rfl⟩:=own_slice hown
 obtain ⟨h1,h2,h3⟩:=(h.alloc o).push (w':=w') (l':=ls (2*x) ++ [k]) hx (by simpa [i64c] using hown) hg hor
 exact ⟨A',c',rfl,(blk_grown (h.alloc o).box ((h.alloc o).fam.own (2*x) (by omega)) hg (by decide)).cell 0,h2,h3,Lib.hid h1⟩
theorem nextIn_at {ns:List Nd} (hv:NextIn ns) {k:Nat} {nd:Nd} (h:ns[k]?=some nd):∀ x ∈ nextsOf nd,0≤x∧x<ns.length:=hv nd (List.mem_of_getElem? h)
theorem newBack_any (B:Nat) (po ko io no:Option Addr) (nP pc nK kc nI ic n nc q:Nat) (cells keep entry:Int) (res:Bool) (rn:List RN) (w:World) (hN:RdNs w B no n rn) (hB:B≤w.heap.size) (hn:n≤4096) (hK:nK≤1024) (hq:q=(nK+63) / 64) (hv:NextIn (nds rn)) :
  Calls Tryz.prog 65 #[.agg #[.slice po nP pc,.slice ko nK kc,.int .i64 cells,.slice io nI ic,.bool res,.int .i64 keep,.slice no n nc,.int .i64 entry]] w fun e w' =>
   ∃ bb R1 R2 R vs ls,e=.returned (.pointer (some ⟨bb,0,none⟩))∧NbI w bb R1 R2 R n q nK vs ls #[.slice po nP pc,.slice ko nK kc,.int .i64 cells,.slice io nI ic,.bool res,.int .i64 keep,.slice no n nc,.int .i64 entry] w'∧(∀ i,i<n→ls (2*i)=(befK n (nds rn) n).getD i [])∧(∀ i x,(nds rn)[i]?=some x→ls (2*i+1)=writesOf x):=by
 have hmk:∀ W:World,(Instr.makeSlice 59 (.int .i64 n) (.int .i64 n)).run Tryz.prog W=.ok (.slice (some ⟨W.heap.size,0,none⟩) n n) (W.alloc (.cells (madeCells #[.slice none 0 0] n) 26)):=fun W=>run_make_row' _ _ _ 24 Tryz.underlying59 info_sint rfl .i64 .i64 n (by omega) (by omega) W
 have HN:=Lib.hid (fun W=>newSets_any po ko io no nP pc nK kc nI ic n nc q cells keep entry res W hn hK hq)
 have HRN:=Lib.hid hN
 have HV:=Lib.hid hv
 have HLN:Hid ((nds rn).length=n):=Lib.hid (by rw [length_nds];exact hN.len)
 obtain ⟨cs,hcs⟩:∃ cs:Array Value,cs=#[.slice po nP pc,.slice ko nK kc,.int .i64 cells,.slice io nI ic,.bool res,.int .i64 keep,.slice no n nc,.int .i64 entry]:=⟨_,rfl⟩
 have HCS:=Lib.hid hcs
 have HQ:=Lib.hid hq
 clear hcs hq hN hv
 go_enter Tryz.func65,Tryz.ntmps65
 go_upto_region 2 with fail
 go_cut [4] (fun s4 wx=>∃ bb R1 R2 R,s4=.pointer (some ⟨bb,0,none⟩)∧Hid (NbI w bb R1 R2 R n q nK (fun _=>.slice none 0 0) (fun _=>[]) cs wx))
 case first =>
  go_region_law (go_simp;go_at_call 68;refine (HN.out _).mono ?_;rintro e w2 ⟨rfl,hs2,hb2,hz2⟩)
  all_goals
   go_wp2_with fail
   go_meet
   rw [HCS.out]
   simp at hz2
   first
    | exact ⟨_,_,_,_,rfl,Lib.hid ((Two.A hs2 hb2).mk0 (by simp [hz2]))⟩
    | exact ⟨_,_,_,_,rfl,Lib.hid ((Two.A hs2 hb2).swap.mk0 (by simp [hz2]))⟩
    | exact ⟨_,_,_,_,rfl,Lib.hid ((Two.B hs2 hb2 hz2).mk0 (by simp [hz2]))⟩
    | exact ⟨_,_,_,_,rfl,Lib.hid ((Two.B hs2 hb2 hz2).swap.mk0 (by simp [hz2]))⟩
    | exact ⟨_,_,_,_,rfl,Lib.hid ((Two.C hs2 hb2 hz2 rfl).mk0 (by simp [hz2]))⟩
    | exact ⟨_,_,_,_,rfl,Lib.hid ((Two.C hs2 hb2 hz2 rfl).swap.mk0 (by simp [hz2]))⟩
 case rest =>
  obtain ⟨bb,R1,R2,R,rfl,HI0⟩:=hcut
  have g6:wc.cell? ⟨w.heap.size,6,none⟩=some (.slice no n nc):=by
   have h:=HI0.out.gr.cell 6
   rw [HCS.out] at h
   exact h
  clear hmk
  go_wp2
  clear g6
  go_loopw [23] (fun i wr=>∃ (k:Nat) (vs:Nat→Value) (ls:Nat→List Int),k≤n∧i=.int .i64 k∧Hid (NbI w bb R1 R2 R n q nK vs ls cs wr)∧Hid (∀ i,i<n→ls (2*i)=(befK n (nds rn) k).getD i [])∧Hid (∀ i x,i<k→(nds rn)[i]?=some x→ls (2*i+1)=writesOf x)) (fun i _=>n-(intOf i).toNat)
  case atStart =>
   refine ⟨0,_,_,by omega,rfl,HI0,Lib.hid (fun i hi=>?_),Lib.hid (fun i x hi=>absurd hi (by omega))⟩
   rw [befK,List.getD_eq_getElem?_getD,List.getElem?_replicate,if_pos hi]
   rfl
  case round =>
   clear HI0
   obtain ⟨k,vs,ls,hk,rfl,HI,HLB,HLW⟩:=hrel
   have hz:=HI.out.below.size
   by_cases hlt:k<n
   ·obtain ⟨bn,on,i,hno,hbn,HXI,HRI,HWI,u0,u1,u2,u3,u4,u5,u6,u7,u8,u9,u10,u11⟩:=(HRN.out.below (HI.out.below.mono hB)).nd hlt
    have HXN:Hid ((nds rn)[k]?=some i.nd):=Lib.hid (by unfold nds;rw [List.getElem?_map,HXI.out];rfl)
    have hbnr:bn<wr.heap.size:=by omega
    have hb6:Below wr.heap.size wr (wr.alloc (.cells #[.int .u8 i.nd.op,.int .u8 i.nd.bop,.int .i64 i.nd.d,.int .i64 i.nd.e,.int .i64 i.nd.a,.int .i64 i.nd.b,.int .i64 i.nd.f,.int .i64 i.nd.cell,.int .u64 i.nd.imm,.slice i.ao i.nd.args.length i.ac,.int .i64 i.nd.next,.int .i64 i.nd.els] 47)):=(Below.refl _ _).alloc (Nat.le_refl _) _
    have hp6:Blk (wr.alloc (.cells #[.int .u8 i.nd.op,.int .u8 i.nd.bop,.int .i64 i.nd.d,.int .i64 i.nd.e,.int .i64 i.nd.a,.int .i64 i.nd.b,.int .i64 i.nd.f,.int .i64 i.nd.cell,.int .u64 i.nd.imm,.slice i.ao i.nd.args.length i.ac,.int .i64 i.nd.next,.int .i64 i.nd.els] 47)) wr.heap.size 47 #[.int .u8 i.nd.op,.int .u8 i.nd.bop,.int .i64 i.nd.d,.int .i64 i.nd.e,.int .i64 i.nd.a,.int .i64 i.nd.b,.int .i64 i.nd.f,.int .i64 i.nd.cell,.int .u64 i.nd.imm,.slice i.ao i.nd.args.length i.ac,.int .i64 i.nd.next,.int .i64 i.nd.els]:=Blk.new _ _ _
    rw [hno]
    have HNO:=Lib.hid hno
    clear hno
    go_upto_region 6 with fail
    obtain ⟨p6,hp6n⟩:∃ p,p=wr.heap.size:=⟨_,rfl⟩
    obtain ⟨W6,hW6⟩:∃ W,W=(wr.alloc (.cells #[.int .u8 i.nd.op,.int .u8 i.nd.bop,.int .i64 i.nd.d,.int .i64 i.nd.e,.int .i64 i.nd.a,.int .i64 i.nd.b,.int .i64 i.nd.f,.int .i64 i.nd.cell,.int .u64 i.nd.imm,.slice i.ao i.nd.args.length i.ac,.int .i64 i.nd.next,.int .i64 i.nd.els] 47)):=⟨_,rfl⟩
    rw [← hW6] at hb6 hp6 ⊢
    rw [← hp6n] at hp6 ⊢
    have HI6:=Lib.hid (HI.out.on hb6)
    have HP6:=Lib.hid hp6
    have HRI6:=Lib.hid (HRI.out.below (hb6.mono (by omega)))
    have hB6:B≤W6.heap.size:=by have:=hb6.size;omega
    clear hW6 hp6n hb6 hp6 u0 u1 u2 u3 u4 u5 u6 u7 u8 u9 u10 u11 HI hbnr
    go_cut [] (fun wx=>∃ (vs:Nat→Value) (ls:Nat→List Int),Hid (NbI w bb R1 R2 R n q nK vs ls cs wx)∧Hid (∀ i,i<n→ls (2*i)=(befK n (nds rn) k).getD i [])∧Hid (∀ i x,i<k+1→(nds rn)[i]?=some x→ls (2*i+1)=writesOf x)∧Hid (Blk wx p6 47 #[.int .u8 i.nd.op,.int .u8 i.nd.bop,.int .i64 i.nd.d,.int .i64 i.nd.e,.int .i64 i.nd.a,.int .i64 i.nd.b,.int .i64 i.nd.f,.int .i64 i.nd.cell,.int .u64 i.nd.imm,.slice i.ao i.nd.args.length i.ac,.int .i64 i.nd.next,.int .i64 i.nd.els]))
    case first =>
     have v0:W6.cell? ⟨p6,0,none⟩=some (.int .u8 i.nd.op):=HP6.out.cell 0
     have v1:W6.cell? ⟨p6,1,none⟩=some (.int .u8 i.nd.bop):=HP6.out.cell 1
     have v2:W6.cell? ⟨p6,2,none⟩=some (.int .i64 i.nd.d):=HP6.out.cell 2
     have v3:W6.cell? ⟨p6,3,none⟩=some (.int .i64 i.nd.e):=HP6.out.cell 3
     have v4:W6.cell? ⟨p6,4,none⟩=some (.int .i64 i.nd.a):=HP6.out.cell 4
     have v5:W6.cell? ⟨p6,5,none⟩=some (.int .i64 i.nd.b):=HP6.out.cell 5
     have v6:W6.cell? ⟨p6,6,none⟩=some (.int .i64 i.nd.f):=HP6.out.cell 6
     have v7:W6.cell? ⟨p6,7,none⟩=some (.int .i64 i.nd.cell):=HP6.out.cell 7
     have v8:W6.cell? ⟨p6,8,none⟩=some (.int .u64 i.nd.imm):=HP6.out.cell 8
     have v9:W6.cell? ⟨p6,9,none⟩=some (.slice i.ao i.nd.args.length i.ac):=HP6.out.cell 9
     have v10:W6.cell? ⟨p6,10,none⟩=some (.int .i64 i.nd.next):=HP6.out.cell 10
     have v11:W6.cell? ⟨p6,11,none⟩=some (.int .i64 i.nd.els):=HP6.out.cell 11
     have b1:W6.cell? ⟨bb,1,none⟩=some (.slice (some ⟨R2,0,none⟩) n n):=HI6.out.box.cell 1
     have HWR:=Lib.hid (writes_own B i.nd.op i.nd.bop i.nd.d i.nd.e i.nd.a i.nd.b i.nd.f i.nd.cell i.nd.imm i.nd.args i.nd.next i.nd.els i.ao i.nd.args.length i.ac W6.drew HWI.out.o0 HWI.out.o1 HWI.out.d HWI.out.e HWI.out.a HWI.out.b HWI.out.next HWI.out.els HRI6.out.args rfl HWI.out.args HWI.out.al HRI6.out.cap hB6)
     go_region_law (go_simp;go_at_call 47;refine HWR.out.mono ?_;rintro e w4 ⟨A4,c4,rfl,ho4,hc4,hb4⟩;have HO4:=Lib.hid ho4;have HB4:=Lib.hid hb4;have HI4:=Lib.hid (HI6.out.drew.on hb4);have b1':w4.cell? ⟨bb,1,none⟩=some (.slice (some ⟨R2,0,none⟩) n n):=HI4.out.box.cell 1;have f2:w4.frozen? ⟨R2,k,none⟩=false:=HI4.out.r2.frozen k;obtain ⟨y2,hy2⟩:∃ y,w4.cell? ⟨R2,k,none⟩=some y:=⟨_,(HI4.out.r2.cell k).trans (rowA_at _ hlt)⟩;clear ho4 hc4 hb4)
     all_goals
      go_wp2_with fail
      go_meet
      have HP4:Blk w4 p6 47 _:=HP6.out.drew.below HB4.out HP6.out.lt
      refine ⟨_,_,Lib.hid (HI6.out.drew.put hlt HB4.out HO4.out (Nat.le_refl _)),Lib.hid (fun i hi=>by rw [upd_ne (by omega)];exact HLB.out i hi),Lib.hid (fun i' x hi hx=>?_),Lib.hid (HP4.far (p:=⟨R2,k,none⟩) (Blk.ne_ HP4 HI4.out.r2 (by decide)) _)⟩
      by_cases e:i'=k
      ·subst e
       rw [upd_at]
       rw [HXN.out] at hx
       injection hx with hx
       subst hx
       rfl
      ·rw [upd_ne (by omega)]
       exact HLW.out i' x (by omega) hx
    case rest =>
     obtain ⟨vs2,ls2,HI7,HLB7,HLW7,HP7⟩:=hcut
     clear HI6 HP6 HRI6 hB6 HLB HLW hz
     have v0:wc.cell? ⟨p6,0,none⟩=some (.int .u8 i.nd.op):=HP7.out.cell 0
     have v1:wc.cell? ⟨p6,1,none⟩=some (.int .u8 i.nd.bop):=HP7.out.cell 1
     have v2:wc.cell? ⟨p6,2,none⟩=some (.int .i64 i.nd.d):=HP7.out.cell 2
     have v3:wc.cell? ⟨p6,3,none⟩=some (.int .i64 i.nd.e):=HP7.out.cell 3
     have v4:wc.cell? ⟨p6,4,none⟩=some (.int .i64 i.nd.a):=HP7.out.cell 4
     have v5:wc.cell? ⟨p6,5,none⟩=some (.int .i64 i.nd.b):=HP7.out.cell 5
     have v6:wc.cell? ⟨p6,6,none⟩=some (.int .i64 i.nd.f):=HP7.out.cell 6
     have v7:wc.cell? ⟨p6,7,none⟩=some (.int .i64 i.nd.cell):=HP7.out.cell 7
     have v8:wc.cell? ⟨p6,8,none⟩=some (.int .u64 i.nd.imm):=HP7.out.cell 8
     have v9:wc.cell? ⟨p6,9,none⟩=some (.slice i.ao i.nd.args.length i.ac):=HP7.out.cell 9
     have v10:wc.cell? ⟨p6,10,none⟩=some (.int .i64 i.nd.next):=HP7.out.cell 10
     have v11:wc.cell? ⟨p6,11,none⟩=some (.int .i64 i.nd.els):=HP7.out.cell 11
     have HNX:=Lib.hid (gnext_own i.nd.op i.nd.bop i.nd.d i.nd.e i.nd.a i.nd.b i.nd.f i.nd.cell i.nd.imm i.nd.args i.nd.next i.nd.els i.ao i.nd.args.length i.ac wc HWI.out.o0 HWI.out.o1)
     obtain ⟨xs,hxs⟩:∃ xs,xs=nextsOf ⟨i.nd.op,i.nd.bop,i.nd.d,i.nd.e,i.nd.a,i.nd.b,i.nd.f,i.nd.cell,i.nd.imm,i.nd.args,i.nd.next,i.nd.els⟩:=⟨_,rfl⟩
     rw [← hxs] at HNX
     have HXS:Hid (xs=nextsOf i.nd):=Lib.hid hxs
     have HXI2:Hid (∀ x ∈ xs,0≤x∧x<(n:Int)):=Lib.hid (by
      rw [HXS.out,← HLN.out]
      exact nextIn_at HV.out HXN.out)
     have HBK:Hid (befN (befK n (nds rn) k) k xs=befK n (nds rn) (k+1)):=Lib.hid (by rw [befK,HXN.out,HXS.out])
     have hm2:xs.length≤2:=by rw [HXS.out];exact nexts_len _
     have HEL:=Lib.hid (fun a=>befK_el n (nds rn) a k)
     clear hxs
     go_wp2_with (go_at_call 69;refine HNX.out.mono ?_;rintro e w5 ⟨A5,c5,rfl,ho5,hc5,hb5⟩;have HO5:=Lib.hid ho5;have HI5:=Lib.hid (HI7.out.on hb5);have hz5:=hb5.size;clear ho5 hb5)
     clear v0 v1 v2 v3 v4 v5 v6 v7 v8 v9 v10 v11
     obtain ⟨m,hm⟩:∃ m,m=xs.length:=⟨_,rfl⟩
     rw [← hm] at HO5 hm2 hc5 ⊢
     have HM:=Lib.hid hm
     have hbz:w.heap.size≤wc.heap.size:=HI7.out.below.size
     obtain ⟨b5,hb5⟩:∃ b,b=wc.heap.size:=⟨_,rfl⟩
     rw [← hb5] at HO5 hbz
     have HD5:Hid (∀ x,x<2*n→∀ g,(vs2 x).ownBlock=some g→g<b5):=Lib.hid fun x hx g hg=>by rw [hb5];exact (own_block_le (HI7.out.fam.own x hx) hg).2
     clear hm hb5 HI7 HP7 HNX hz5
     go_loopw [39] (fun i wr=>∃ (j:Nat) (vs:Nat→Value) (ls:Nat→List Int),j≤m∧i=.int .i64 j∧Hid (NbI w bb R1 R2 R n q nK vs ls cs wr)∧Hid (wr.ownsRow b5 3 1 (.slice A5 m c5) m (i64c xs))∧Hid (∀ x,x<2*n→∀ g,(vs x).ownBlock=some g→(Value.slice A5 m c5).ownBlock≠some g)∧Hid (∀ i,i<n→ls (2*i)=(befN (befK n (nds rn) k) k (xs.take j)).getD i [])∧Hid (∀ i x,i<k+1→(nds rn)[i]?=some x→ls (2*i+1)=writesOf x)) (fun i _=>m-(intOf i).toNat)
     case atStart=>exact ⟨0,vs2,ls2,by omega,rfl,HI5,HO5,Lib.hid (fun x hx g hg he=>by have h1:=(own_block_le HO5.out he).1;have h2:=HD5.out x hx g hg;omega),Lib.hid (by simpa [befN] using HLB7.out),HLW7⟩
     case round =>
      clear HI5 HO5 HLB7 HLW7 HD5
      obtain ⟨j,vs,ls,hj,rfl,HI,HO,HDD,HLB,HLW⟩:=hrel
      by_cases hjl:j<m
      ·obtain ⟨bx,ox,x,hxe,hbx,HXX,x1⟩:=(Reads.of_own HO.out).int hjl
       obtain ⟨hx0,hx1⟩:=HXI2.out x (List.mem_of_getElem? HXX.out)
       obtain ⟨y,rfl⟩:∃ y:Nat,x=(y:Int):=⟨x.toNat,by omega⟩
       have hy:y<n:=by omega
       obtain ⟨Ay,cy,hsy⟩:=HI.out.fam.slice (i:=2*y) (by omega)
       have HOY:=Lib.hid (own_alloc (HI.out.fam.own (2*y) (by omega)) (.cells #[.int .i64 k] 3))
       have r0:wr.cell? ⟨R1,y,none⟩=some (.slice Ay (ls (2*y)).length cy):=by rw [HI.out.r1.cell,rowA_at _ hy,hsy]
       have r0':∀ o,(wr.alloc o).cell? ⟨R1,y,none⟩=some (.slice Ay (ls (2*y)).length cy):=fun o=>by rw [(HI.out.r1.alloc o).cell,rowA_at _ hy,hsy]
       have b0:wr.cell? ⟨bb,0,none⟩=some (.slice (some ⟨R1,0,none⟩) n n):=HI.out.box.cell 0
       have b0':∀ o,(wr.alloc o).cell? ⟨bb,0,none⟩=some (.slice (some ⟨R1,0,none⟩) n n):=fun o=>(HI.out.box.alloc o).cell 0
       have hly:(ls (2*y)).length≤2*k+2:=by
        rw [HLB.out y hy]
        have h1:=befN_el (k:Int) y (xs.take j) (befK n (nds rn) k)
        have h2:=HEL.out y
        have h3:(xs.take j).length≤2:=by rw [List.length_take];omega
        omega
       have hwz:=HI.out.below.size
       have HRd:=Lib.hid (one_reads wr 3 [.int .i64 k] 1 rfl)
       have HTK:Hid (xs.take (j+1)=xs.take j ++ [(y:Int)]):=Lib.hid (take_at HXX.out)
       rw [hsy] at HOY
       have HSY:=Lib.hid hsy
       have HXE:=Lib.hid hxe
       rw [hxe]
       clear hsy hxe hx0 hx1 HXX
       go_upto_region 10 with fail
       go_region_law (refine step_int rfl _ _ rfl w.heap.size (.slice Ay (ls (2*y)).length cy) (ls (2*y)).length (i64c (ls (2*y))) rfl HOY.out (wr.heap.size+1) (some ⟨wr.heap.size,0,none⟩) 1 1 [.int .i64 k] rfl HRd.out (ints_oneCell .i64 [(k:Int)]) (by omega) (by simp;omega) ?_;intro v' w8 hown hgr hor;rw [← HSY.out] at hgr hor;obtain ⟨A8,c8,rfl,z0,zf,⟨z1,hz1⟩,HN8⟩:=HI.out.push1 hy hown (grown_of_drew hgr) hor;have HG8:=Lib.hid (grown_of_drew hgr);have HR8:=Lib.hid hor;clear hown hgr hor)
       all_goals
        clear x1 r0 r0' b0 b0'
        have HOW:Hid (w8.ownsRow b5 3 1 (.slice A5 m c5) m (i64c xs)):=Lib.hid (own_kept (own_alloc HO.out _) fun g hg=>HG8.out.block g (own_block_le (own_alloc HO.out _) hg).2 fun e=>HDD.out (2*y) (by omega) g e.symm hg)
        go_wp2
        go_roundw
        case rel =>
         rw [← HXE.out]
         refine ⟨j+1,_,_,by omega,by go_num,HN8,Lib.hid (own_kept HOW.out fun g hg=>Below.heap_setCell _ _ _ _ fun e=>own_blk_ne HO.out HI.out.r1 (by decide) (by rw [hg,e])),Lib.hid (fun x hx g hg he=>?_),Lib.hid (fun i' hi'=>?_),Lib.hid (fun i' x hi' hx=>by rw [upd_ne (by omega)];exact HLW.out i' x hi' hx)⟩
         ·by_cases e:x=2*y
          ·subst e
           rw [upd_at] at hg
           rcases HR8.out with h | h
           ·exact HDD.out _ hx g (by rw [← h];exact hg) he
           ·have h2:=(own_block_le HO.out he).2
            rw [h] at hg
            injection hg with hg
            simp at hg
            omega
          ·rw [upd_ne e] at hg
           exact HDD.out x hx g hg he
         ·rw [HTK.out,befN_snoc]
          unfold addE
          rw [Int.toNat_natCast,List.getD_eq_getElem?_getD,List.getElem?_set]
          by_cases e:y=i'
          ·subst e
           rw [if_pos rfl,if_pos (by rw [befN_len,befK_len];exact hi'),Option.getD_some,upd_at,HLB.out y hi']
          ·rw [if_neg e,upd_ne (by omega),HLB.out i' hi',List.getD_eq_getElem?_getD]
        case measure=>simp [intOf];omega
      ·obtain rfl:m=j:=by omega
       have HLB2:Hid (∀ i,i<n→ls (2*i)=(befK n (nds rn) (k+1)).getD i []):=Lib.hid (by
        have h:=HLB.out
        rw [List.take_of_length_le (by rw [HM.out];exact Nat.le_refl _),HBK.out] at h
        exact h)
       go_wp2
       go_roundw
       case rel=>exact ⟨k+1,vs,ls,by omega,by go_num,HI,HLB2,HLW⟩
       case measure=>simp [intOf];omega
   ·obtain rfl:n=k:=by omega
    go_wp2
    go_ret
    rw [← HCS.out]
    refine ⟨bb,R1,R2,R,vs,ls,rfl,HI.out,HLB.out,fun i x hx=>HLW.out i x ?_ hx⟩
    have:=(List.getElem?_eq_some_iff.1 hx).1
    rw [HLN.out] at this
    exact this
def ixOf {α:Type} (f:α→Bool) (l:List α):Int:=if l.any f then (l.findIdx f:Int) else -1
theorem ix_at {α:Type} {f:α→Bool} {l:List α} {k:Nat} {x:α} (hx:l[k]?=some x) (hf:f x=true) (hb:∀ y ∈ l.take k,f y=false):ixOf f l=k:=by
 have hk:=(List.getElem?_eq_some_iff.1 hx).1
 have hxe:=(List.getElem?_eq_some_iff.1 hx).2
 unfold ixOf
 rw [if_pos (List.any_eq_true.2 ⟨x,List.mem_of_getElem? hx,hf⟩)]
 congr 1
 rw [List.findIdx_eq hk]
 refine ⟨by rw [hxe];exact hf,fun j hj=>hb _ ?_⟩
 rw [List.mem_iff_getElem?]
 exact ⟨j,by rw [List.getElem?_take,if_pos hj,List.getElem?_eq_getElem (by omega)]⟩
theorem ix_none {α:Type} {f:α→Bool} {l:List α} (hb:∀ y ∈ l,f y=false):ixOf f l=-1:=by
 unfold ixOf
 rw [if_neg]
 intro h
 obtain ⟨x,hx,hf⟩:=List.any_eq_true.1 h
 rw [hb x hx] at hf
 cases hf
theorem ix_nonneg {α:Type} (f:α→Bool) (l:List α):decide (ixOf f l≥0)=l.any f:=by
 unfold ixOf
 cases h:l.any f
 ·simp
 ·simp
theorem take_mem_snoc {α:Type} {f:α→Bool} {l:List α} {k:Nat} {x:α} (hx:l[k]?=some x) (hf:f x=false) (hb:∀ y ∈ l.take k,f y=false):∀ y ∈ l.take (k+1),f y=false:=by
 intro y hy
 rw [List.take_add_one,hx] at hy
 rcases List.mem_append.1 hy with hy | hy
 ·exact hb y hy
 ·simp at hy;subst hy;exact hf

theorem isOne_any (i n:Int) (w:World):Calls Tryz.prog 95 #[.int .i64 i,.int .i64 n] w fun e w'=>e=.returned (.bool (decide (isOne i n)))∧w'=w:=by
 by_cases h0:0≤i
 ·have g0:decide (i≥0)=true:=by simpa using h0
  have HD:Hid (decide (isOne i n)=decide (i<n)):=Lib.hid (by unfold isOne;simp [h0])
  clear h0
  go_enter Tryz.func95,Tryz.ntmps95
  go_wp2
  go_ret
  exact ⟨by rw [HD.out];rfl,rfl⟩
 ·have g0:decide (i≥0)=false:=by simp;omega
  have HD:Hid (decide (isOne i n)=false):=Lib.hid (by unfold isOne;simp [h0])
  clear h0
  go_enter Tryz.func95,Tryz.ntmps95
  go_wp2
  go_ret
  exact ⟨by rw [HD.out];rfl,rfl⟩
theorem kinds1_any (k:Int) (w:World):Calls Tryz.prog 106 #[.int .u8 k] w fun e w'=>e=.returned (.bool (k != 0 && k != 1))∧w'=w:=by
 cases h:(k != 0)
 all_goals
  go_enter Tryz.func106,Tryz.ntmps106
  go_wp2
  go_ret
  exact ⟨rfl,rfl⟩
theorem exist1_any (b nK kc:Nat) (ko:Option Addr) (p:Int) (w:World) (h:w.cell? ⟨b,2,none⟩=some (.slice ko nK kc)) :
  Calls Tryz.prog 117 #[.int .i64 p,.pointer (some ⟨b,0,none⟩)] w fun e w'=>e=.returned (.bool (!decide (isOne p nK)))∧w'=w:=by
 go_enter Tryz.func117,Tryz.ntmps117
 go_wp2_with (first | (go_at_call 95;refine (isOne_any _ _ _).mono ?_;rintro e w2 ⟨rfl,rfl⟩))
 go_ret
 exact ⟨rfl,by first | rfl | trivial⟩
theorem breaks1_any (b nN nc:Nat) (no:Option Addr) (p:Int) (w:World) (h:w.cell? ⟨b,7,none⟩=some (.slice no nN nc)) :
  Calls Tryz.prog 97 #[.int .i64 p,.pointer (some ⟨b,0,none⟩)] w fun e w'=>e=.returned (.bool (!decide (isOne p nN)))∧w'=w:=by
 go_enter Tryz.func97,Tryz.ntmps97
 go_wp2_with (first | (go_at_call 95;refine (isOne_any _ _ _).mono ?_;rintro e w2 ⟨rfl,rfl⟩))
 go_ret
 exact ⟨rfl,by first | rfl | trivial⟩
theorem are1_any (B b b2 nK kc:Nat) (ko:Option Addr) (ks:List Int) (k p:Int) (w:World) (h:w.cell? ⟨b,2,none⟩=some (.slice ko nK kc)) (h2:w.cell? ⟨b2,0,none⟩=some (.int .u8 k)) (hk:Reads w B 1 ko nK (u8c ks)) (hl:ks.length=nK) (hp:isOne p nK) :
  Calls Tryz.prog 116 #[.int .i64 p,.pointer (some ⟨b,0,none⟩),.pointer (some ⟨b2,0,none⟩)] w fun e w'=>e=.returned (.bool (!decide (kindAt ks p=k)))∧∃ q,w'=w.drewN q:=by
 obtain ⟨j,rfl⟩:∃ j:Nat,p=(j:Int):=⟨p.toNat,by have:=hp.1;omega⟩
 have hj:j<nK:=by have:=hp.2;omega
 obtain ⟨bk,off,x,rfl,_,HX,x1⟩:=hk.byte hj
 have hx:kindAt ks j=x:=by unfold kindAt;simp [List.getD,HX.out]
 have HD:Hid ((x != k)=!decide (kindAt ks j=k)):=Lib.hid (by rw [hx];by_cases e:x=k <;> simp [e])
 clear hk hx hp
 go_enter Tryz.func116,Tryz.ntmps116
 go_wp2
 go_quiet (fail)
 go_wp2
 go_ret
 exact ⟨by rw [← HD.out];rfl,_,rfl⟩

theorem index_kinds (B:Nat) (A:Option Addr) (n c:Nat) (l:List Int) (f:Int→Bool) (w:World) (h:Reads w B 1 A n (u8c l)) (hn:l.length=n) (hnb:n≤140737488351232)
  (hP:∀ p ∈ l,Calls Tryz.prog 106 #[.int .u8 p] w fun e w'=>e=.returned (.bool (f p))∧w'=w) :
  Calls Tryz.prog 115 #[.slice A n c,.func (.func 106) #[] #[]] w fun e w'=>e=.returned (.int .i64 (ixOf f l))∧w'=w:=by
 have H:=Lib.hid h
 have HN:=Lib.hid hn
 have HP:=Lib.hid hP
 clear h hn hP
 go_enter Tryz.func115,Tryz.ntmps115
 go_wp2
 go_loopw [8] (fun i wr=>∃ k:Nat,k≤n∧i=.int .i64 k∧Hid (∀ y ∈ l.take k,f y=false)∧wr=w) (fun i _=>n-(intOf i).toNat)
 case atStart=>exact ⟨0,Nat.zero_le _,rfl,Lib.hid (by simp),rfl⟩
 case round =>
  obtain ⟨k,hk,rfl,HB,rfl⟩:=hrel
  by_cases hlt:k<n
  ·obtain ⟨b,off,x,rfl,hb,HX,x1⟩:=H.out.byte hlt
   have HC:=Lib.hid (HP.out x (List.mem_of_getElem? HX.out))
   cases hf:f x
   ·have HQ:=Lib.hid (take_mem_snoc HX.out hf HB.out)
    go_wp2_with (first | (go_at_call 106;refine HC.out.mono ?_;rintro e w2 ⟨rfl,rfl⟩;rw [hf]))
    go_roundw
    case rel=>exact ⟨k+1,by omega,by go_num,HQ,by first | rfl | trivial⟩
    case measure=>simp [intOf];omega
   ·have HQ:=Lib.hid (ix_at HX.out hf HB.out)
    go_wp2_with (first | (go_at_call 106;refine HC.out.mono ?_;rintro e w2 ⟨rfl,rfl⟩;rw [hf]))
    go_ret
    exact ⟨by rw [HQ.out];rfl,by first | rfl | trivial⟩
  ·obtain rfl:n=k:=by omega
   have HQ:=Lib.hid (ix_none (f:=f) (l:=l) (by have:=HB.out;rwa [List.take_of_length_le (by rw [HN.out];omega)] at this))
   go_wp2
   go_ret
   exact ⟨by rw [HQ.out];rfl,by first | rfl | trivial⟩
theorem contains_kinds (B:Nat) (A:Option Addr) (n c:Nat) (l:List Int) (f:Int→Bool) (w:World) (h:Reads w B 1 A n (u8c l)) (hn:l.length=n) (hnb:n≤140737488351232)
  (hP:∀ p ∈ l,Calls Tryz.prog 106 #[.int .u8 p] w fun e w'=>e=.returned (.bool (f p))∧w'=w) :
  Calls Tryz.prog 105 #[.slice A n c,.func (.func 106) #[] #[]] w fun e w'=>e=.returned (.bool (l.any f))∧w'=w:=by
 have HI:=Lib.hid (index_kinds B A n c l f w h hn hnb hP)
 have HD:=Lib.hid (ix_nonneg f l)
 clear h hn hP
 obtain ⟨z,hz⟩:∃ z,z=ixOf f l:=⟨_,rfl⟩
 rw [← hz] at HI HD
 clear hz
 go_enter Tryz.func105,Tryz.ntmps105
 go_wp2_with (first | (go_at_call 115;refine HI.out.mono ?_;rintro e w2 ⟨rfl,rfl⟩))
 go_ret
 exact ⟨by rw [← HD.out];rfl,by first | rfl | trivial⟩

theorem index_exist (B:Nat) (A:Option Addr) (n c:Nat) (l:List Int) (b:Nat) (f:Int→Bool) (w:World) (h:Reads w B 1 A n (i64c l)) (hn:l.length=n) (hnb:n≤140737488351232)
  (hP:∀ p ∈ l,Calls Tryz.prog 117 #[.int .i64 p,.pointer (some ⟨b,0,none⟩)] w fun e w'=>e=.returned (.bool (f p))∧w'=w) :
  Calls Tryz.prog 114 #[.slice A n c,.func (.func 117) #[] #[.pointer (some ⟨b,0,none⟩)]] w fun e w'=>e=.returned (.int .i64 (ixOf f l))∧w'=w:=by
 have H:=Lib.hid h
 have HN:=Lib.hid hn
 have HP:=Lib.hid hP
 clear h hn hP
 go_enter Tryz.func114,Tryz.ntmps114
 go_wp2
 go_loopw [8] (fun i wr=>∃ k:Nat,k≤n∧i=.int .i64 k∧Hid (∀ y ∈ l.take k,f y=false)∧wr=w) (fun i _=>n-(intOf i).toNat)
 case atStart=>exact ⟨0,Nat.zero_le _,rfl,Lib.hid (by simp),rfl⟩
 case round =>
  obtain ⟨k,hk,rfl,HB,rfl⟩:=hrel
  by_cases hlt:k<n
  ·obtain ⟨b,off,x,rfl,hb,HX,x1⟩:=H.out.int hlt
   have HC:=Lib.hid (HP.out x (List.mem_of_getElem? HX.out))
   cases hf:f x
   ·have HQ:=Lib.hid (take_mem_snoc HX.out hf HB.out)
    go_wp2_with (first | (go_at_call 117;refine HC.out.mono ?_;rintro e w2 ⟨rfl,rfl⟩;rw [hf]))
    go_roundw
    case rel=>exact ⟨k+1,by omega,by go_num,HQ,by first | rfl | trivial⟩
    case measure=>simp [intOf];omega
   ·have HQ:=Lib.hid (ix_at HX.out hf HB.out)
    go_wp2_with (first | (go_at_call 117;refine HC.out.mono ?_;rintro e w2 ⟨rfl,rfl⟩;rw [hf]))
    go_ret
    exact ⟨by rw [HQ.out];rfl,by first | rfl | trivial⟩
  ·obtain rfl:n=k:=by omega
   have HQ:=Lib.hid (ix_none (f:=f) (l:=l) (by have:=HB.out;rwa [List.take_of_length_le (by rw [HN.out];omega)] at this))
   go_wp2
   go_ret
   exact ⟨by rw [HQ.out];rfl,by first | rfl | trivial⟩
theorem contains_exist (B:Nat) (A:Option Addr) (n c:Nat) (l:List Int) (b:Nat) (f:Int→Bool) (w:World) (h:Reads w B 1 A n (i64c l)) (hn:l.length=n) (hnb:n≤140737488351232)
  (hP:∀ p ∈ l,Calls Tryz.prog 117 #[.int .i64 p,.pointer (some ⟨b,0,none⟩)] w fun e w'=>e=.returned (.bool (f p))∧w'=w) :
  Calls Tryz.prog 99 #[.slice A n c,.func (.func 117) #[] #[.pointer (some ⟨b,0,none⟩)]] w fun e w'=>e=.returned (.bool (l.any f))∧w'=w:=by
 have HI:=Lib.hid (index_exist B A n c l b f w h hn hnb hP)
 have HD:=Lib.hid (ix_nonneg f l)
 clear h hn hP
 obtain ⟨z,hz⟩:∃ z,z=ixOf f l:=⟨_,rfl⟩
 rw [← hz] at HI HD
 clear hz
 go_enter Tryz.func99,Tryz.ntmps99
 go_wp2_with (first | (go_at_call 114;refine HI.out.mono ?_;rintro e w2 ⟨rfl,rfl⟩))
 go_ret
 exact ⟨by rw [← HD.out];rfl,by first | rfl | trivial⟩

theorem index_breaks1 (B:Nat) (A:Option Addr) (n c:Nat) (l:List Int) (b:Nat) (f:Int→Bool) (w:World) (h:Reads w B 1 A n (i64c l)) (hn:l.length=n) (hnb:n≤140737488351232)
  (hP:∀ p ∈ l,Calls Tryz.prog 97 #[.int .i64 p,.pointer (some ⟨b,0,none⟩)] w fun e w'=>e=.returned (.bool (f p))∧w'=w) :
  Calls Tryz.prog 114 #[.slice A n c,.func (.func 97) #[] #[.pointer (some ⟨b,0,none⟩)]] w fun e w'=>e=.returned (.int .i64 (ixOf f l))∧w'=w:=by
 have H:=Lib.hid h
 have HN:=Lib.hid hn
 have HP:=Lib.hid hP
 clear h hn hP
 go_enter Tryz.func114,Tryz.ntmps114
 go_wp2
 go_loopw [8] (fun i wr=>∃ k:Nat,k≤n∧i=.int .i64 k∧Hid (∀ y ∈ l.take k,f y=false)∧wr=w) (fun i _=>n-(intOf i).toNat)
 case atStart=>exact ⟨0,Nat.zero_le _,rfl,Lib.hid (by simp),rfl⟩
 case round =>
  obtain ⟨k,hk,rfl,HB,rfl⟩:=hrel
  by_cases hlt:k<n
  ·obtain ⟨b,off,x,rfl,hb,HX,x1⟩:=H.out.int hlt
   have HC:=Lib.hid (HP.out x (List.mem_of_getElem? HX.out))
   cases hf:f x
   ·have HQ:=Lib.hid (take_mem_snoc HX.out hf HB.out)
    go_wp2_with (first | (go_at_call 97;refine HC.out.mono ?_;rintro e w2 ⟨rfl,rfl⟩;rw [hf]))
    go_roundw
    case rel=>exact ⟨k+1,by omega,by go_num,HQ,by first | rfl | trivial⟩
    case measure=>simp [intOf];omega
   ·have HQ:=Lib.hid (ix_at HX.out hf HB.out)
    go_wp2_with (first | (go_at_call 97;refine HC.out.mono ?_;rintro e w2 ⟨rfl,rfl⟩;rw [hf]))
    go_ret
    exact ⟨by rw [HQ.out];rfl,by first | rfl | trivial⟩
  ·obtain rfl:n=k:=by omega
   have HQ:=Lib.hid (ix_none (f:=f) (l:=l) (by have:=HB.out;rwa [List.take_of_length_le (by rw [HN.out];omega)] at this))
   go_wp2
   go_ret
   exact ⟨by rw [HQ.out];rfl,by first | rfl | trivial⟩
theorem contains_breaks1 (B:Nat) (A:Option Addr) (n c:Nat) (l:List Int) (b:Nat) (f:Int→Bool) (w:World) (h:Reads w B 1 A n (i64c l)) (hn:l.length=n) (hnb:n≤140737488351232)
  (hP:∀ p ∈ l,Calls Tryz.prog 97 #[.int .i64 p,.pointer (some ⟨b,0,none⟩)] w fun e w'=>e=.returned (.bool (f p))∧w'=w) :
  Calls Tryz.prog 99 #[.slice A n c,.func (.func 97) #[] #[.pointer (some ⟨b,0,none⟩)]] w fun e w'=>e=.returned (.bool (l.any f))∧w'=w:=by
 have HI:=Lib.hid (index_breaks1 B A n c l b f w h hn hnb hP)
 have HD:=Lib.hid (ix_nonneg f l)
 clear h hn hP
 obtain ⟨z,hz⟩:∃ z,z=ixOf f l:=⟨_,rfl⟩
 rw [← hz] at HI HD
 clear hz
 go_enter Tryz.func99,Tryz.ntmps99
 go_wp2_with (first | (go_at_call 114;refine HI.out.mono ?_;rintro e w2 ⟨rfl,rfl⟩))
 go_ret
 exact ⟨by rw [← HD.out];rfl,by first | rfl | trivial⟩

theorem index_are (B:Nat) (A:Option Addr) (n c:Nat) (l:List Int) (b b2:Nat) (f:Int→Bool) (w:World) (h:Reads w B 1 A n (i64c l)) (hn:l.length=n) (hnb:n≤140737488351232)
  (hP:∀ q,∀ p ∈ l,Calls Tryz.prog 116 #[.int .i64 p,.pointer (some ⟨b,0,none⟩),.pointer (some ⟨b2,0,none⟩)] (w.drewN q) fun e w'=>e=.returned (.bool (f p))∧∃ q',w'=(w.drewN q).drewN q') :
  Calls Tryz.prog 114 #[.slice A n c,.func (.func 116) #[] #[.pointer (some ⟨b,0,none⟩),.pointer (some ⟨b2,0,none⟩)]] w fun e w'=>e=.returned (.int .i64 (ixOf f l))∧∃ q,w'=w.drewN q:=by
 have H:=Lib.hid h
 have HN:=Lib.hid hn
 have HP:=Lib.hid hP
 clear h hn hP
 go_enter Tryz.func114,Tryz.ntmps114
 go_wp2
 go_loopw [8] (fun i wr=>∃ k q:Nat,k≤n∧i=.int .i64 k∧Hid (∀ y ∈ l.take k,f y=false)∧wr=w.drewN q) (fun i _=>n-(intOf i).toNat)
 case atStart=>exact ⟨0,0,Nat.zero_le _,rfl,Lib.hid (by simp),rfl⟩
 case round =>
  obtain ⟨k,q,hk,rfl,HB,rfl⟩:=hrel
  by_cases hlt:k<n
  ·obtain ⟨b,off,x,rfl,hb,HX,x1⟩:=H.out.int hlt
   have HC:=Lib.hid (HP.out q x (List.mem_of_getElem? HX.out))
   cases hf:f x
   ·have HQ:=Lib.hid (take_mem_snoc HX.out hf HB.out)
    go_wp2_with (first | (go_at_call 116;refine HC.out.mono ?_;rintro e w2 ⟨rfl,q2,rfl⟩;rw [hf]))
    go_roundw
    case rel=>exact ⟨k+1,q+q2,by omega,by go_num,HQ,by first | rfl | exact World.drewN_drewN _ _ _⟩
    case measure=>simp [intOf];omega
   ·have HQ:=Lib.hid (ix_at HX.out hf HB.out)
    go_wp2_with (first | (go_at_call 116;refine HC.out.mono ?_;rintro e w2 ⟨rfl,q2,rfl⟩;rw [hf]))
    go_ret
    exact ⟨by rw [HQ.out];rfl,q+q2,by first | rfl | exact World.drewN_drewN _ _ _⟩
  ·obtain rfl:n=k:=by omega
   have HQ:=Lib.hid (ix_none (f:=f) (l:=l) (by have:=HB.out;rwa [List.take_of_length_le (by rw [HN.out];omega)] at this))
   go_wp2
   go_ret
   exact ⟨by rw [HQ.out];rfl,_,rfl⟩
theorem contains_are (B:Nat) (A:Option Addr) (n c:Nat) (l:List Int) (b b2:Nat) (f:Int→Bool) (w:World) (h:Reads w B 1 A n (i64c l)) (hn:l.length=n) (hnb:n≤140737488351232)
  (hP:∀ q,∀ p ∈ l,Calls Tryz.prog 116 #[.int .i64 p,.pointer (some ⟨b,0,none⟩),.pointer (some ⟨b2,0,none⟩)] (w.drewN q) fun e w'=>e=.returned (.bool (f p))∧∃ q',w'=(w.drewN q).drewN q') :
  Calls Tryz.prog 99 #[.slice A n c,.func (.func 116) #[] #[.pointer (some ⟨b,0,none⟩),.pointer (some ⟨b2,0,none⟩)]] w fun e w'=>e=.returned (.bool (l.any f))∧∃ q,w'=w.drewN q:=by
 have HI:=Lib.hid (index_are B A n c l b b2 f w h hn hnb hP)
 have HD:=Lib.hid (ix_nonneg f l)
 clear h hn hP
 obtain ⟨z,hz⟩:∃ z,z=ixOf f l:=⟨_,rfl⟩
 rw [← hz] at HI HD
 clear hz
 go_enter Tryz.func99,Tryz.ntmps99
 go_wp2_with (first | (go_at_call 114;refine HI.out.mono ?_;rintro e w2 ⟨rfl,q2,rfl⟩))
 go_ret
 exact ⟨by rw [← HD.out];rfl,_,rfl⟩

theorem any_not {α:Type} (Q:α→Prop) [DecidablePred Q] (l:List α):(!(l.any fun p=>!decide (Q p)))=decide (∀ p ∈ l,Q p):=by
 rw [Bool.eq_iff_iff]
 simp
theorem exist_any (B:Nat) (A:Option Addr) (n c:Nat) (l:List Int) (fo:Option Addr) (nF cF:Nat) (po ko io no:Option Addr) (nP pc nK kc nI ic nN nc:Nat) (cells keep entry:Int) (res bd:Bool) (w:World) (h:Reads w B 1 A n (i64c l)) (hn:l.length=n) (hnb:n≤140737488351232) (hB:B≤w.heap.size) :
  Calls Tryz.prog 109 #[.agg #[.slice fo nF cF,.slice po nP pc,.slice ko nK kc,.int .i64 cells,.slice io nI ic,.bool res,.int .i64 keep,.slice no nN nc,.int .i64 entry,.bool bd],.slice A n c] w fun e w'=>e=.returned (.bool (decide (∀ p ∈ l,isOne p nK)))∧Below w.heap.size w w':=by
 have HD:=Lib.hid (any_not (fun p:Int=>isOne p nK) l)
 have HBX:=Lib.hid (Blk.new w 142 #[.slice fo nF cF,.slice po nP pc,.slice ko nK kc,.int .i64 cells,.slice io nI ic,.bool res,.int .i64 keep,.slice no nN nc,.int .i64 entry,.bool bd])
 have HBL:Hid (Below w.heap.size w (w.alloc (.cells #[.slice fo nF cF,.slice po nP pc,.slice ko nK kc,.int .i64 cells,.slice io nI ic,.bool res,.int .i64 keep,.slice no nN nc,.int .i64 entry,.bool bd] 142))):=(Below.refl _ _).alloc (Nat.le_refl _) _
 have HC:=Lib.hid (contains_exist B A n c l w.heap.size (fun p=>!decide (isOne p nK)) _ (h.below (HBL.out.mono hB)) hn hnb fun p _=>exist1_any w.heap.size nK kc ko p _ (HBX.out.cell 2))
 clear h hn
 go_enter Tryz.func109,Tryz.ntmps109
 have hmf:∀ (fn:Fn) (first cap:Array Value) (w:World),(Instr.makeFunc fn first cap).run Tryz.prog w=.ok (.func fn first cap) w:=fun _ _ _ _=>rfl
 go_wp2_with (first | (go_at_call 99;refine HC.out.mono ?_;rintro e w2 ⟨rfl,rfl⟩))
 go_ret
 exact ⟨by rw [← HD.out];rfl,HBL.out⟩
theorem are_eq (ks:List Int) (bd:Bool) (k:Int) (l:List Int):decide (∀ p ∈ l,fits ks bd p k)=(decide (∀ p ∈ l,isOne p ks.length) && (bd || decide (∀ p ∈ l,kindAt ks p=k))):=by
 cases bd
 ·rw [Bool.false_or,Bool.eq_iff_iff,Bool.and_eq_true,decide_eq_true_eq,decide_eq_true_eq,decide_eq_true_eq]
  constructor
  ·intro h
   exact ⟨fun p hp=>(h p hp).1,fun p hp=>(h p hp).2.resolve_left (by simp)⟩
  ·rintro ⟨h1,h2⟩ p hp
   exact ⟨h1 p hp,.inr (h2 p hp)⟩
 ·rw [Bool.true_or,Bool.and_true,Bool.eq_iff_iff,decide_eq_true_eq,decide_eq_true_eq]
  constructor
  ·intro h p hp
   exact (h p hp).1
  ·intro h p hp
   exact ⟨h p hp,.inl rfl⟩
theorem are_any (B:Nat) (A:Option Addr) (n c:Nat) (l ks:List Int) (k:Int) (fo:Option Addr) (nF cF:Nat) (po ko io no:Option Addr) (nP pc nK kc nI ic nN nc:Nat) (cells keep entry:Int) (res bd:Bool) (w:World) (h:Reads w B 1 A n (i64c l)) (hn:l.length=n) (hnb:n≤140737488351232) (hk:Reads w B 1 ko nK (u8c ks)) (hkl:ks.length=nK) (hB:B≤w.heap.size) :
  Calls Tryz.prog 108 #[.agg #[.slice fo nF cF,.slice po nP pc,.slice ko nK kc,.int .i64 cells,.slice io nI ic,.bool res,.int .i64 keep,.slice no nN nc,.int .i64 entry,.bool bd],.int .u8 k,.slice A n c] w fun e w'=>e=.returned (.bool (decide (∀ p ∈ l,fits ks bd p k)))∧Below w.heap.size w w':=by
 have HD:=Lib.hid (are_eq ks bd k l)
 have HD2:=Lib.hid (any_not (fun p:Int=>kindAt ks p=k) l)
 have HBX:Hid (Blk ((w.alloc (.cells #[.slice fo nF cF,.slice po nP pc,.slice ko nK kc,.int .i64 cells,.slice io nI ic,.bool res,.int .i64 keep,.slice no nN nc,.int .i64 entry,.bool bd] 142)).alloc (.cells #[.int .u8 k] 42)) w.heap.size 142 #[.slice fo nF cF,.slice po nP pc,.slice ko nK kc,.int .i64 cells,.slice io nI ic,.bool res,.int .i64 keep,.slice no nN nc,.int .i64 entry,.bool bd]):=Lib.hid ((Blk.new w 142 #[.slice fo nF cF,.slice po nP pc,.slice ko nK kc,.int .i64 cells,.slice io nI ic,.bool res,.int .i64 keep,.slice no nN nc,.int .i64 entry,.bool bd]).alloc _)
 have HB1:Hid (Blk ((w.alloc (.cells #[.slice fo nF cF,.slice po nP pc,.slice ko nK kc,.int .i64 cells,.slice io nI ic,.bool res,.int .i64 keep,.slice no nN nc,.int .i64 entry,.bool bd] 142)).alloc (.cells #[.int .u8 k] 42)) (w.heap.size+1) 42 #[.int .u8 k]):=Lib.hid (by
  have:=Blk.new (w.alloc (.cells #[.slice fo nF cF,.slice po nP pc,.slice ko nK kc,.int .i64 cells,.slice io nI ic,.bool res,.int .i64 keep,.slice no nN nc,.int .i64 entry,.bool bd] 142)) 42 #[.int .u8 k]
  rwa [show (w.alloc (.cells #[.slice fo nF cF,.slice po nP pc,.slice ko nK kc,.int .i64 cells,.slice io nI ic,.bool res,.int .i64 keep,.slice no nN nc,.int .i64 entry,.bool bd] 142)).heap.size=w.heap.size+1 by simp] at this)
 have HBL:Hid (Below w.heap.size w ((w.alloc (.cells #[.slice fo nF cF,.slice po nP pc,.slice ko nK kc,.int .i64 cells,.slice io nI ic,.bool res,.int .i64 keep,.slice no nN nc,.int .i64 entry,.bool bd] 142)).alloc (.cells #[.int .u8 k] 42))):=((Below.refl _ _).alloc (Nat.le_refl _) _).alloc (by simp) _
 have hs2:B≤((w.alloc (.cells #[.slice fo nF cF,.slice po nP pc,.slice ko nK kc,.int .i64 cells,.slice io nI ic,.bool res,.int .i64 keep,.slice no nN nc,.int .i64 entry,.bool bd] 142)).alloc (.cells #[.int .u8 k] 42)).heap.size:=by simp;omega
 have HR:=Lib.hid (h.below (HBL.out.mono hB))
 have HK:=Lib.hid (hk.below (HBL.out.mono hB))
 have HE:=Lib.hid (exist_any B A n c l fo nF cF po ko io no nP pc nK kc nI ic nN nc cells keep entry res bd _ HR.out hn hnb hs2)
 have HN:=Lib.hid hn
 have HKL:=Lib.hid hkl
 rw [hkl] at HD
 clear h hn hk hkl
 have hmf:∀ (fn:Fn) (first cap:Array Value) (w:World),(Instr.makeFunc fn first cap).run Tryz.prog w=.ok (.func fn first cap) w:=fun _ _ _ _=>rfl
 by_cases hex:∀ p ∈ l,isOne p nK
 rotate_left
 ·have HX:=Lib.hid (decide_eq_false hex)
  clear hex
  go_enter Tryz.func108,Tryz.ntmps108
  go_wp2_with (first | (go_at_call 109;refine HE.out.mono ?_;rintro e w2 ⟨rfl,hb2⟩;have HB2:=Lib.hid hb2;clear hb2;rw [HX.out]))
  go_ret
  exact ⟨by rw [HD.out,HX.out];rfl,HBL.out.trans (HB2.out.mono (by simp;omega))⟩
 ·have HX:=Lib.hid (decide_eq_true hex)
  have HEX:=Lib.hid hex
  clear hex
  cases bd
  ·go_enter Tryz.func108,Tryz.ntmps108
   go_wp2_with (first
    | (go_at_call 109;refine HE.out.mono ?_;rintro e w2 ⟨rfl,hb2⟩;rw [HX.out];have hbx2:=HBX.out.below hb2 (by simp;omega);have HC:=Lib.hid (contains_are B A n c l w.heap.size (w.heap.size+1) (fun p=>!decide (kindAt ks p=k)) w2 (HR.out.below (hb2.mono hs2)) HN.out hnb fun q p hp=>are1_any B _ _ nK kc ko ks k p (w2.drewN q) ((hbx2.drewN q).cell 2) ((((HB1.out.below hb2 (by simp)).drewN q).cell 0)) ((HK.out.below (hb2.mono hs2)).drewN q) HKL.out (HEX.out p hp));have c9:w2.cell? ⟨w.heap.size,9,none⟩=some (.bool false):=hbx2.cell 9;have HB2:=Lib.hid hb2;clear hb2 hbx2)
    | (go_at_call 99;refine HC.out.mono ?_;rintro e w3 ⟨rfl,q3,rfl⟩))
   go_ret
   exact ⟨by rw [HD.out,HX.out,← HD2.out];rfl,below_drewN (HBL.out.trans (HB2.out.mono (by simp;omega))) _⟩
  ·go_enter Tryz.func108,Tryz.ntmps108
   go_wp2_with (first
    | (go_at_call 109;refine HE.out.mono ?_;rintro e w2 ⟨rfl,hb2⟩;rw [HX.out];have hbx2:=HBX.out.below hb2 (by simp;omega);have c9:w2.cell? ⟨w.heap.size,9,none⟩=some (.bool true):=hbx2.cell 9;have HB2:=Lib.hid hb2;clear hb2 hbx2))
   go_ret
   exact ⟨by rw [HD.out,HX.out];rfl,HBL.out.trans (HB2.out.mono (by simp;omega))⟩
end Go.Proofs.YtedmcfaghfgpoaaGreatDoor
