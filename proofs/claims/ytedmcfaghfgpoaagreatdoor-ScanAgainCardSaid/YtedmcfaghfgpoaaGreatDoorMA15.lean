/-
  Texts of one seat, one behind the other: OSo, OSp, JSwp, JCmp, JIns.
-/
import Derived.BigRegion
import Derived.Shelf.SlSortCmp.QuietGrown
import Derived.Lib.AppendIntMem
import Derived.Test.YtedmcfaghfgpoaaGreatDoorMA13
import Derived.Test.YtedmcfaghfgpoaaGreatDoorMA14
import Derived.Test.YtedmcfaghfgpoaaGreatDoorMA9
import Derived.Test.YtedmcfaghfgpoaaGreatDoorMA4

set_option linter.unusedVariables false
set_option linter.unusedSimpArgs false
set_option maxRecDepth 100000
set_option maxHeartbeats 51200000
namespace Go.Proofs.YtedmcfaghfgpoaaGreatDoor
open Go.ChangeShapes Go.WideShapes Go.ChangeAt Go.RowKit
theorem writes_in {gs:List Gr} {g:Gr} {n:Nd} (h:uses gs g false n):∀ x ∈ writesOf n,0≤x∧x<(g.kinds.length:Int):=by
 intro x hx
 have hx':x ∈ writeF n∧0≤x:=by
  rcases addL_mem _ hx with h1 | h1
  ·cases h1
  ·exact h1
 obtain ⟨h1,h0⟩:=hx'
 refine ⟨h0,?_⟩
 have key:∀ k,fits g.kinds false x k→x<(g.kinds.length:Int):=fun k hf=>hf.1.2
 unfold writeF at h1
 unfold uses at h
 split at h1
 ·rename_i ho
  obtain rfl:x=n.d:=by simpa using h1
  rcases ho with e | e | e | e | e | e | e | e
  ·rw [e] at h;simp at h;exact key _ h
  ·rw [e] at h;simp at h;exact key _ h.2
  ·rw [e] at h;simp at h;exact key _ h.2.1
  ·rw [e] at h;simp at h;exact key _ h.2
  ·rw [e] at h;simp at h;exact key _ h.2
  ·rw [e] at h;simp at h;exact key _ h.1
  ·rw [e] at h
   simp at h
   rcases h.2 with h2 | h2
   ·omega
   ·exact key _ h2.2.1
  ·rw [e] at h;simp at h;exact key _ h
 ·split at h1
  ·rename_i ho
   rw [ho] at h
   simp at h h1
   rcases h1 with rfl | rfl
   ·exact key _ h.2.1
   ·exact key _ h.2.2
  ·cases h1
theorem valid_writes {gs:List Gr} {g:Gr} (h:valid gs false) (hg:g ∈ gs):∀ n ∈ g.nodes,∀ x ∈ writesOf n,0≤x∧x<(g.kinds.length:Int):=fun n hn=>writes_in (h.2.2.2 g hg n hn).1
theorem valid_params {gs:List Gr} {g:Gr} (h:valid gs false) (hg:g ∈ gs):(∀ x ∈ g.params,0≤x∧x<(g.kinds.length:Int))∧g.params.length≤4:=by
 have hh:=(h.2.2.1 g hg).2.2.2.1
 refine ⟨fun x hx=>?_,hh.1⟩
 have h2:=hh.2
 rw [if_neg (by decide)] at h2
 obtain ⟨i,hi,rfl⟩:=List.mem_iff_getElem.1 hx
 have h3:=(h2 i hi).1
 rw [List.getD_eq_getElem?_getD,List.getElem?_eq_getElem hi] at h3
 exact h3
open Classical in
theorem liveN_mem {ns:List Nd} {m i:Nat} (p:Nat) (hp:p<m):(p:Int) ∈ liveL ns m i↔Live ns p i:=by
 unfold liveL
 constructor
 ·intro h
  obtain ⟨q,hq,e⟩:=List.mem_map.1 h
  have:q=p:=by omega
  subst this
  simpa using (List.mem_filter.1 hq).2
 ·intro h
  exact List.mem_map.2 ⟨p,List.mem_filter.2 ⟨List.mem_range.2 hp,by simpa using h⟩,rfl⟩
open Classical in
theorem liveON_mem {ns:List Nd} {m i:Nat} (p:Nat) (hp:p<m):(p:Int) ∈ liveOL ns m i↔LiveO ns p i:=by
 unfold liveOL
 constructor
 ·intro h
  obtain ⟨q,hq,e⟩:=List.mem_map.1 h
  have:q=p:=by omega
  subst this
  simpa using (List.mem_filter.1 hq).2
 ·intro h
  exact List.mem_map.2 ⟨p,List.mem_filter.2 ⟨List.mem_range.2 hp,by simpa using h⟩,rfl⟩
open Classical in
theorem liveL_in {ns:List Nd} {m i:Nat}:∀ x ∈ liveL ns m i,0≤x∧x<(m:Int):=by
 intro x hx
 unfold liveL at hx
 obtain ⟨q,hq,rfl⟩:=List.mem_map.1 hx
 have:=List.mem_range.1 (List.mem_filter.1 hq).1
 omega
open Classical in
theorem liveOL_in {ns:List Nd} {m i:Nat}:∀ x ∈ liveOL ns m i,0≤x∧x<(m:Int):=by
 intro x hx
 unfold liveOL at hx
 obtain ⟨q,hq,rfl⟩:=List.mem_map.1 hx
 have:=List.mem_range.1 (List.mem_filter.1 hq).1
 omega
open Classical in
theorem liveL_max (ns:List Nd) (m i:Nat):(liveL ns m i).length≤m:=by
 unfold liveL
 rw [List.length_map]
 have:=List.length_filter_le (fun p:Nat=>decide (Live ns (p:Int) i)) (List.range m)
 simpa using this
open Classical in
theorem liveOL_max (ns:List Nd) (m i:Nat):(liveOL ns m i).length≤m:=by
 unfold liveOL
 rw [List.length_map]
 have:=List.length_filter_le (fun p:Nat=>decide (LiveO ns (p:Int) i)) (List.range m)
 simpa using this
theorem spans_kept (ns:List Nd) (ps l:List Int) (m:Nat):keptK (fun p=>ivK ns ps l (p:Int) l.length) m=spansL ns ps l m:=by
 unfold keptK spansL
 refine List.filter_congr fun s hs=>?_
 obtain ⟨p,_,rfl⟩:=List.mem_map.1 hs
 have:=(ivK_le ns ps l (p:Int) l.length).1
 rw [decide_eq_decide]
 omega
structure SoI (W:World) (gb b R m:Nat) (cs:Array Value) (g:Nat→Iv) (wr:World):Prop where
 gr:Blk wr gb 35 cs
 box:Blk wr b 48 #[.slice (some ⟨R,0,none⟩) m m]
 row:Blk wr R 56 (ivA m g)
 below:Below W.heap.size W wr
 lt:W.heap.size≤R
section
variable {W wr w2:World} {gb b R m:Nat} {cs:Array Value} {g g':Nat→Iv}
theorem SoI.on (h:SoI W gb b R m cs g wr) (hb:Below wr.heap.size wr w2):SoI W gb b R m cs g w2 :=
 ⟨h.gr.below hb h.gr.lt,h.box.below hb h.box.lt,h.row.below hb h.row.lt,h.below.trans (hb.mono h.below.size),h.lt⟩
theorem SoI.kp (h:SoI W gb b R m cs g wr) (hk:KpB wr w2 R) (hr:Blk w2 R 56 (ivA m g')):SoI W gb b R m cs g' w2 :=
 ⟨hk.blk h.gr (Blk.ne_ h.gr h.row (by decide)),hk.blk h.box (Blk.ne_ h.box h.row (by decide)),hr,h.below.trans (hk.out W.heap.size h.below.size h.lt),h.lt⟩
theorem SoI.congr (h:SoI W gb b R m cs g wr) (he:∀ p,p<m→g p=g' p):SoI W gb b R m cs g' wr:=⟨h.gr,h.box,by rw [← ivA_congr he];exact h.row,h.below,h.lt⟩
end
theorem SoI.start (w:World) (m:Nat) (cs:Array Value):SoI w w.heap.size (w.heap.size+1+1) (w.heap.size+1) m cs (fun _=>ivZ) (((w.alloc (.cells cs 35)).alloc (.cells (ivA m fun _=>⟨0,0,0,false⟩) 56)).alloc (.cells #[.slice (some ⟨w.heap.size+1,0,none⟩) m m] 48)):=by
 have h1:=Blk.new (w.alloc (.cells cs 35)) 56 (ivA m fun _=>⟨0,0,0,false⟩)
 have h2:=Blk.new ((w.alloc (.cells cs 35)).alloc (.cells (ivA m fun _=>⟨0,0,0,false⟩) 56)) 48 #[.slice (some ⟨w.heap.size+1,0,none⟩) m m]
 rw [show (w.alloc (.cells cs 35)).heap.size=w.heap.size+1 by simp] at h1
 rw [show ((w.alloc (.cells cs 35)).alloc (.cells (ivA m fun _=>⟨0,0,0,false⟩) 56)).heap.size=w.heap.size+1+1 by simp] at h2
 exact ⟨((Blk.new w _ _).alloc _).alloc _,h2,h1.alloc _,(((Below.refl _ _).alloc (Nat.le_refl _) _).alloc (by simp) _).alloc (by simp;omega) _,by omega⟩
def ivBeg (k:Nat):Nat→Iv:=fun q=>if q<k then ⟨q,-1,0,false⟩ else ivZ
theorem ivBeg_succ (k:Nat):upd (ivBeg k) k ⟨k,-1,0,false⟩=ivBeg (k+1):=by
 funext q
 unfold upd ivBeg
 by_cases e:q=k
 ·subst e;rw [if_pos rfl,if_pos (by omega)]
 ·rw [if_neg e]
  by_cases e2:q<k
  ·rw [if_pos e2,if_pos (by omega)]
  ·rw [if_neg e2,if_neg (by omega)]
theorem SoI.init {W wr:World} {gb b R m k:Nat} {cs:Array Value} (h:SoI W gb b R m cs (ivBeg k) wr):SoI W gb b R m cs (ivBeg (k+1)) (setIv wr R k ⟨k,-1,0,false⟩):=by
 refine h.kp (setIv_kp (KpB.refl _ _)) ?_
 rw [← ivBeg_succ]
 exact setIv_blk h.row
theorem Reads.of_own_le {w w':World} {base B n c:Nat} {A:Option Addr} {xs ys:List Value} {e:TypeId} (h:w'.ownsRow base e 1 (.slice A n c) n xs) (h0:w.ownsRow B e 1 (.slice A n c) n ys):Reads w' w.heap.size 1 A n xs:=by
 refine ⟨h.1,fun hn=>?_⟩
 obtain ⟨g,cap,hv,_,hlt⟩:=h.form hn
 have hA:A=some ⟨g,0,none⟩:=by injection hv
 subst hA
 exact ⟨_,rfl,(own_block_le h0 rfl).2,h.cells (g:=g) rfl⟩
def SoPost (ns:List Nd) (ps l:List Int) (m:Nat) (w:World) (e:Ending) (w':World):Prop :=
 ∃ (R n:Nat) (G:Nat→Iv),e=.returned (.slice (some ⟨R,0,none⟩) n m)∧w.heap.size≤R∧n=(spansL ns ps l m).length∧Blk w' R 56 (ivA m G)∧(∀ p,p<n→(spansL ns ps l m)[p]?=some (G p))∧Below w.heap.size w w'
theorem spansOf_any (B:Nat) (po ko io no lA:Option Addr) (nP pc m kc nI ic n nc nl lc:Nat) (cells keep entry:Int) (res:Bool) (rn:List RN) (ps l:List Int) (O1 O2 b1 b2:Nat) (vs1 vs2:Nat→Value) (w:World)
  (hN:RdNs w B no n rn) (hP:Reads w B 1 po nP (i64c ps)) (hpl:ps.length=nP) (hpin:∀ x ∈ ps,0≤x∧x<(m:Int)) (hp4:nP≤4) (hL:Reads w w.heap.size 1 lA nl (i64c l)) (hlin:∀ x ∈ l,∃ k:Nat,x=k∧k<n) (hll:l.length=nl) (hln:nl≤4096) (h0:0<nl)
  (h1:RdL w b1 O1 n vs1 (liveL (nds rn) m)) (h2:RdL w b2 O2 n vs2 (liveOL (nds rn) m)) (hB:B≤w.heap.size) (hn:n≤4096) (hm:m≤1024) (hwr:∀ nd ∈ nds rn,∀ x ∈ writesOf nd,0≤x∧x<(m:Int)) :
  Calls Tryz.prog 24 #[.agg #[.slice po nP pc,.slice ko m kc,.int .i64 cells,.slice io nI ic,.bool res,.int .i64 keep,.slice no n nc,.int .i64 entry],.slice lA nl lc,.slice (some ⟨O1,0,none⟩) n n,.slice (some ⟨O2,0,none⟩) n n] w (SoPost (nds rn) ps l m w):=by
 have hmk:∀ W:World,(Instr.makeSlice 48 (.int .i64 m) (.int .i64 m)).run Tryz.prog W=.ok (.slice (some ⟨W.heap.size,0,none⟩) m m) (W.alloc (.cells (ivA m fun _=>⟨0,0,0,false⟩) 56)):=fun W=>make_iv m (by omega) W
 have HN:=Lib.hid hN
 have HP:=Lib.hid hP
 have HPL:=Lib.hid hpl
 have HPI:=Lib.hid hpin
 have HL:=Lib.hid hL
 have HLI:=Lib.hid hlin
 have HLL:=Lib.hid hll
 have H1:=Lib.hid h1
 have H2:=Lib.hid h2
 have HWR:=Lib.hid hwr
 obtain ⟨cs,hcs⟩:∃ cs:Array Value,cs=#[.slice po nP pc,.slice ko m kc,.int .i64 cells,.slice io nI ic,.bool res,.int .i64 keep,.slice no n nc,.int .i64 entry]:=⟨_,rfl⟩
 have HS0:=Lib.hid (SoI.start w m cs)
 have HGC:Hid (∀ W,Blk W w.heap.size 35 cs→W.cell? ⟨w.heap.size,0,none⟩=some (.slice po nP pc)∧W.cell? ⟨w.heap.size,6,none⟩=some (.slice no n nc)):=Lib.hid fun W h=>by
  rw [hcs] at h
  exact ⟨h.cell 0,h.cell 6⟩
 clear hN hP hpl hpin hL hlin hll h1 h2 hwr
 obtain ⟨W1,hW1⟩:∃ W1,W1=(((w.alloc (.cells cs 35)).alloc (.cells (ivA m fun _=>⟨0,0,0,false⟩) 56)).alloc (.cells #[.slice (some ⟨w.heap.size+1,0,none⟩) m m] 48)):=⟨_,rfl⟩
 rw [← hW1] at HS0
 rw [hcs] at hW1
 go_enter Tryz.func24,Tryz.ntmps24
 go_upto_region 2 with fail
 rw [← hW1]
 clear hW1 hmk
 obtain ⟨R,hR⟩:∃ R,R=w.heap.size+1:=⟨_,rfl⟩
 obtain ⟨b,hbb⟩:∃ b,b=R+1:=⟨_,rfl⟩
 rw [← hR] at HS0 ⊢
 rw [← hbb] at HS0 ⊢
 clear hR hbb
 have x0:W1.cell? ⟨b,0,none⟩=some (.slice (some ⟨R,0,none⟩) m m):=HS0.out.box.cell 0
 go_wp2
 clear x0
 go_loopw [24] (fun s wr=>∃ k:Nat,k≤m∧s=.int .i64 k∧Hid (SoI w w.heap.size b R m cs (ivBeg k) wr)) (fun s _=>m-(intOf s).toNat)
 case atStart=>exact ⟨0,by omega,rfl,Lib.hid (HS0.out.congr fun p _=>by unfold ivBeg;rw [if_neg (by omega)])⟩
 case round =>
  clear HS0
  obtain ⟨k,hk,rfl,HI⟩:=hrel
  have y0:wr.cell? ⟨b,0,none⟩=some (.slice (some ⟨R,0,none⟩) m m):=HI.out.box.cell 0
  by_cases hlt:k<m
  ·have z0:wr.cell? ⟨R,k*4,none⟩=some (ivX (ivBeg k k) 0):=by rw [HI.out.row.cell];exact ivA_at (j:=0) _ hlt (by decide)
   have z1:wr.cell? ⟨R,k*4+1,none⟩=some (ivX (ivBeg k k) 1):=by rw [HI.out.row.cell,ivA_at _ hlt (by decide)]
   have z2:wr.cell? ⟨R,k*4+2,none⟩=some (ivX (ivBeg k k) 2):=by rw [HI.out.row.cell,ivA_at _ hlt (by decide)]
   have z3:wr.cell? ⟨R,k*4+3,none⟩=some (ivX (ivBeg k k) 3):=by rw [HI.out.row.cell,ivA_at _ hlt (by decide)]
   have e0:wr.frozen? ⟨R,k*4,none⟩=false:=HI.out.row.frozen _
   have e1:wr.frozen? ⟨R,k*4+1,none⟩=false:=HI.out.row.frozen _
   have e2:wr.frozen? ⟨R,k*4+2,none⟩=false:=HI.out.row.frozen _
   have e3:wr.frozen? ⟨R,k*4+3,none⟩=false:=HI.out.row.frozen _
   go_wp2
   go_roundw
   case rel=>exact ⟨k+1,by omega,by go_num,Lib.hid HI.out.init⟩
   case measure=>simp [intOf];omega
  ·obtain ⟨wo,hwo⟩:∃ wo,wo=wr:=⟨_,rfl⟩
   rw [← hwo] at HI y0 ⊢
   clear hwo
   have hkm:k=m:=by omega
   rw [hkm] at HI
   have HB0:Hid (SoI w w.heap.size b R m cs (fun p=>⟨p,-1,0,false⟩) wo):=Lib.hid (HI.out.congr fun p hp=>by unfold ivBeg;rw [if_pos hp])
   have hwoz:=HB0.out.below.size
   have yp:wo.cell? ⟨w.heap.size,0,none⟩=some (.slice po nP pc):=(HGC.out wo HB0.out.gr).1
   have HRC:=Lib.hid (record_any w.heap.size b R m 0 nP pc po (fun p=>⟨p,-1,0,false⟩) ps wo HB0.out.box HB0.out.row (fun W hk=>((HP.out.below (HB0.out.below.mono hB)).below (hk.out B (by omega) (by have:=HB0.out.lt;omega))).more hB) HPL.out HPI.out (by omega) (by omega))
   clear hkm hk HI
   go_wp2_with (go_at_call 46;refine HRC.out.mono ?_;rintro e w2 ⟨rfl,hr2,hk2⟩;have HI2:=Lib.hid (HB0.out.kp hk2 hr2);clear hr2 hk2)
   have HB2:Hid (SoI w w.heap.size b R m cs (fun p=>ivC (nds rn) ps l p 0) w2):=Lib.hid (HI2.out.congr fun p hp=>(ivC_start _ _ _ p).symm)
   clear HRC HB0 yp y0 hwoz HI2
   go_loopw [40] (fun s wr=>∃ k:Nat,k≤nl∧s=.int .i64 k∧Hid (SoI w w.heap.size b R m cs (fun p=>ivC (nds rn) ps l p k) wr)) (fun s _=>nl-(intOf s).toNat)
   case atStart=>exact ⟨0,by omega,rfl,HB2⟩
   case round =>
    clear HB2
    obtain ⟨k,hk,rfl,HI⟩:=hrel
    by_cases hkl:k<nl
    ·obtain ⟨bx,ox,x,hxe,hbx,HXX,x1⟩:=(HL.out.below HI.out.below).int hkl
     obtain ⟨i,rfl,hi⟩:=HLI.out x (List.mem_of_getElem? HXX.out)
     have hwz:=HI.out.below.size
     have HAT:Hid (atL l k=i):=Lib.hid (by unfold atL;rw [List.getD_eq_getElem?_getD,HXX.out];simp)
     obtain ⟨bn,on,nd,hno,hbn,HXI,HRN1,HWI,u0,u1,u2,u3,u4,u5,u6,u7,u8,u9,u10,u11⟩:=(HN.out.below (HI.out.below.mono hB)).nd hi
     have HXN:Hid ((nds rn)[i]?=some nd.nd):=Lib.hid (by unfold nds;rw [List.getElem?_map,HXI.out];rfl)
     have hbnr:bn<wr.heap.size:=by omega
     have y6:wr.cell? ⟨w.heap.size,6,none⟩=some (.slice no n nc):=(HGC.out wr HI.out.gr).2
     rw [hno] at y6
     have hbA:Below wr.heap.size wr (wr.alloc (.cells #[.int .u8 nd.nd.op,.int .u8 nd.nd.bop,.int .i64 nd.nd.d,.int .i64 nd.nd.e,.int .i64 nd.nd.a,.int .i64 nd.nd.b,.int .i64 nd.nd.f,.int .i64 nd.nd.cell,.int .u64 nd.nd.imm,.slice nd.ao nd.nd.args.length nd.ac,.int .i64 nd.nd.next,.int .i64 nd.nd.els] 47)):=(Below.refl _ _).alloc (Nat.le_refl _) _
     have HBA:=Lib.hid hbA
     have HNB:=Lib.hid (Blk.new wr 47 #[.int .u8 nd.nd.op,.int .u8 nd.nd.bop,.int .i64 nd.nd.d,.int .i64 nd.nd.e,.int .i64 nd.nd.a,.int .i64 nd.nd.b,.int .i64 nd.nd.f,.int .i64 nd.nd.cell,.int .u64 nd.nd.imm,.slice nd.ao nd.nd.args.length nd.ac,.int .i64 nd.nd.next,.int .i64 nd.nd.els])
     obtain ⟨wA,hwA⟩:∃ wA,wA=wr.alloc (.cells #[.int .u8 nd.nd.op,.int .u8 nd.nd.bop,.int .i64 nd.nd.d,.int .i64 nd.nd.e,.int .i64 nd.nd.a,.int .i64 nd.nd.b,.int .i64 nd.nd.f,.int .i64 nd.nd.cell,.int .u64 nd.nd.imm,.slice nd.ao nd.nd.args.length nd.ac,.int .i64 nd.nd.next,.int .i64 nd.nd.els] 47):=⟨_,rfl⟩
     rw [← hwA] at hbA HBA HNB
     have HIA:=Lib.hid (HI.out.on hbA)
     have hAz:=HIA.out.below.size
     have HWX:=Lib.hid (writes_own B nd.nd.op nd.nd.bop nd.nd.d nd.nd.e nd.nd.a nd.nd.b nd.nd.f nd.nd.cell nd.nd.imm nd.nd.args nd.nd.next nd.nd.els nd.ao nd.nd.args.length nd.ac wA HWI.out.o0 HWI.out.o1 HWI.out.d HWI.out.e HWI.out.a HWI.out.b HWI.out.next HWI.out.els (HRN1.out.args.below (hbA.mono (by omega))) rfl HWI.out.args HWI.out.al HRN1.out.cap (by omega))
     obtain ⟨ws,hws⟩:∃ ws,ws=writesOf ⟨nd.nd.op,nd.nd.bop,nd.nd.d,nd.nd.e,nd.nd.a,nd.nd.b,nd.nd.f,nd.nd.cell,nd.nd.imm,nd.nd.args,nd.nd.next,nd.nd.els⟩:=⟨_,rfl⟩
     rw [← hws] at HWX
     have HWS:Hid (ws=writesOf nd.nd):=Lib.hid hws
     have HWIN:Hid (∀ x ∈ ws,0≤x∧x<(m:Int)):=Lib.hid (by rw [HWS.out];exact HWR.out _ (List.mem_of_getElem? HXN.out))
     have hw2:ws.length≤2:=by rw [hws];exact llens _
     have v0:wA.cell? ⟨wr.heap.size,0,none⟩=some (.int .u8 nd.nd.op):=HNB.out.cell 0
     have v1:wA.cell? ⟨wr.heap.size,1,none⟩=some (.int .u8 nd.nd.bop):=HNB.out.cell 1
     have v2:wA.cell? ⟨wr.heap.size,2,none⟩=some (.int .i64 nd.nd.d):=HNB.out.cell 2
     have v3:wA.cell? ⟨wr.heap.size,3,none⟩=some (.int .i64 nd.nd.e):=HNB.out.cell 3
     have v4:wA.cell? ⟨wr.heap.size,4,none⟩=some (.int .i64 nd.nd.a):=HNB.out.cell 4
     have v5:wA.cell? ⟨wr.heap.size,5,none⟩=some (.int .i64 nd.nd.b):=HNB.out.cell 5
     have v6:wA.cell? ⟨wr.heap.size,6,none⟩=some (.int .i64 nd.nd.f):=HNB.out.cell 6
     have v7:wA.cell? ⟨wr.heap.size,7,none⟩=some (.int .i64 nd.nd.cell):=HNB.out.cell 7
     have v8:wA.cell? ⟨wr.heap.size,8,none⟩=some (.int .u64 nd.nd.imm):=HNB.out.cell 8
     have v9:wA.cell? ⟨wr.heap.size,9,none⟩=some (.slice nd.ao nd.nd.args.length nd.ac):=HNB.out.cell 9
     have v10:wA.cell? ⟨wr.heap.size,10,none⟩=some (.int .i64 nd.nd.next):=HNB.out.cell 10
     have v11:wA.cell? ⟨wr.heap.size,11,none⟩=some (.int .i64 nd.nd.els):=HNB.out.cell 11
     rw [hxe]
     clear hxe hws hbA hno
     obtain ⟨q,hq⟩:∃ q,q=wr.heap.size:=⟨_,rfl⟩
     go_upto_region 13 with fail
     rw [← hwA]
     rw [← hq] at HNB v0 v1 v2 v3 v4 v5 v6 v7 v8 v9 v10 v11 HBA hbnr ⊢
     clear hwA hq u0 u1 u2 u3 u4 u5 u6 u7 u8 u9 u10 u11 x1 y6 HI HRN1
     obtain ⟨A1,c1,hs1⟩:=own_slice (H1.out.own i hi)
     have HA1:Hid (Reads w w.heap.size 1 A1 (liveL (nds rn) m i).length (i64c (liveL (nds rn) m i))):=Lib.hid (by
      have h:=H1.out.own i hi
      rw [hs1] at h
      exact Reads.of_own h)
     obtain ⟨A2,c2,hs2⟩:=own_slice (H2.out.own i hi)
     have HA2:Hid (Reads w w.heap.size 1 A2 (liveOL (nds rn) m i).length (i64c (liveOL (nds rn) m i))):=Lib.hid (by
      have h:=H2.out.own i hi
      rw [hs2] at h
      exact Reads.of_own h)
     have HC1:Hid (∀ W,Below w.heap.size w W→W.cell? ⟨O1,i,none⟩=some (.slice A1 (liveL (nds rn) m i).length c1)):=Lib.hid fun W hb=>by rw [(H1.out.on hb).row.cell,rowA_at _ hi,hs1]
     have HC2:Hid (∀ W,Below w.heap.size w W→W.cell? ⟨O2,i,none⟩=some (.slice A2 (liveOL (nds rn) m i).length c2)):=Lib.hid fun W hb=>by rw [(H2.out.on hb).row.cell,rowA_at _ hi,hs2]
     have hla:=liveL_max (nds rn) m i
     have hlo:=liveOL_max (nds rn) m i
     clear hs1 hs2
     obtain ⟨la,hlae⟩:∃ la,la=liveL (nds rn) m i:=⟨_,rfl⟩
     obtain ⟨lo,hloe⟩:∃ lo,lo=liveOL (nds rn) m i:=⟨_,rfl⟩
     have HLAE:=Lib.hid hlae
     have HLOE:=Lib.hid hloe
     rw [← hlae] at HA1 HC1 hla
     rw [← hloe] at HA2 HC2 hlo
     obtain ⟨nla,hnla⟩:∃ n,n=la.length:=⟨_,rfl⟩
     obtain ⟨nlo,hnlo⟩:∃ n,n=lo.length:=⟨_,rfl⟩
     obtain ⟨nws,hnws⟩:∃ n,n=ws.length:=⟨_,rfl⟩
     rw [← hnla] at HA1 HC1 hla
     rw [← hnlo] at HA2 HC2 hlo
     have HNLA:=Lib.hid hnla.symm
     have HNLO:=Lib.hid hnlo.symm
     have HNWS:=Lib.hid hnws.symm
     have HLAI:Hid (∀ x ∈ la,0≤x∧x<(m:Int)):=Lib.hid (by rw [hlae];exact liveL_in)
     have HLOI:Hid (∀ x ∈ lo,0≤x∧x<(m:Int)):=Lib.hid (by rw [hloe];exact liveOL_in)
     rw [← hnws] at hw2
     clear hlae hloe hnla hnlo hnws
     go_upto_region 16 with (first
      | (go_at_call 47;refine HWX.out.mono ?_;rintro e w3 ⟨A3,c3,rfl,ho3,hc3,hb3⟩;rw [HNWS.out] at ho3 hc3 ⊢;have HO3:=Lib.hid ho3;have HI3:=Lib.hid (HIA.out.on hb3);have HNB3:=Lib.hid (HNB.out.below hb3 HNB.out.lt);have t1:=HC1.out w3 HI3.out.below;have HR1:=Lib.hid (record_any w.heap.size b R m k nla c1 A1 (fun p=>ivC (nds rn) ps l p k) la w3 HI3.out.box HI3.out.row (fun W hk=>HA1.out.below (HI3.out.below.trans (hk.out w.heap.size HI3.out.below.size HI3.out.lt))) HNLA.out HLAI.out (by omega) (by omega));have HZ3:Hid (R<wA.heap.size):=Lib.hid HIA.out.row.lt;clear ho3 hb3)
      | (go_at_call 46;(with_reducible refine HR1.out.mono ?_);rintro e w4 ⟨rfl,hr4,hk4⟩;have HI4:=Lib.hid (HI3.out.kp hk4 hr4);have HNB4:=Lib.hid (hk4.blk HNB3.out (Blk.ne_ HNB3.out HI3.out.row (by decide)));have HO4:Hid (w4.ownsRow wA.heap.size 3 1 (.slice A3 nws c3) nws (i64c ws)):=Lib.hid (own_kept HO3.out fun g hg=>hk4.block g (own_block_le HO3.out hg).2 (by have:=(own_block_le HO3.out hg).1;have:=HZ3.out;omega));have HOK:Hid (∀ W,KpB w4 W R→W.ownsRow wA.heap.size 3 1 (.slice A3 nws c3) nws (i64c ws)):=Lib.hid (fun W hk=>own_kept HO4.out fun g hg=>hk.block g (own_block_le HO4.out hg).2 (by have:=(own_block_le HO4.out hg).1;have:=HZ3.out;omega));have HR2:=Lib.hid (record_any w4.heap.size b R m k nws c3 A3 _ ws w4 HI4.out.box HI4.out.row (fun W hk=>(Reads.of_own_le (HOK.out W hk) HO4.out)) HNWS.out HWIN.out (by omega) (by omega));clear hr4 hk4)
      | (go_at_call 46;(with_reducible refine HR2.out.mono ?_);rintro e w5 ⟨rfl,hr5,hk5⟩;have HI5:=Lib.hid (HI4.out.kp hk5 hr5);have HNB5:=Lib.hid (hk5.blk HNB4.out (Blk.ne_ HNB4.out HI4.out.row (by decide)));have HK5:=Lib.hid hk5;have s0:w5.cell? ⟨q,0,none⟩=some (.int .u8 nd.nd.op):=HNB5.out.cell 0;have t2:=HC2.out w5 HI5.out.below;clear hr5 hk5))
     have HSTEP:Hid (∀ p,p<m→(if nd.nd.op=11∨nd.nd.op=13 then helL lo ws (recL k ws (recL k la fun p=>ivC (nds rn) ps l p k)) p else recL k ws (recL k la fun p=>ivC (nds rn) ps l p k) p)=ivC (nds rn) ps l p (k+1)):=Lib.hid fun p hp=>by
      rw [HWS.out]
      refine ivC_step (by rw [HAT.out];exact HXN.out) (by rw [HLL.out];exact hkl) (fun p hp=>?_) (fun p hp=>?_) p hp
      ·rw [HLAE.out,HAT.out];exact liveN_mem p hp
      ·rw [HLOE.out,HAT.out];exact liveON_mem p hp
     clear HWX HIA HNB HC1 HR1 HR2 HI3 HI4 HNB3 HNB4 t1 v0 v1 v2 v3 v4 v5 v6 v7 v8 v9 v10 v11 HBA HA1
     by_cases hop:nd.nd.op=11∨nd.nd.op=13
     ·have HSY:Hid (∀ p,p<m→helL lo ws (recL k ws (recL k la fun p=>ivC (nds rn) ps l p k)) p=ivC (nds rn) ps l p (k+1)):=Lib.hid fun p hp=>by
       have h:=HSTEP.out p hp
       rw [if_pos hop] at h
       exact h
      have gop:(nd.nd.op != 11)=false∨(nd.nd.op != 11)=true∧(nd.nd.op != 13)=false:=by
       rcases hop with h | h
       ·exact .inl (by rw [h];rfl)
       ·exact .inr ⟨by rw [h];rfl,by rw [h];rfl⟩
      clear hop HSTEP
      rcases gop with g11 | ⟨g11,g13⟩
      all_goals
       go_wp2
       clear t2 s0
       go_loopw [76] (fun s wr=>∃ j:Nat,j≤nlo∧s=.int .i64 j∧Hid (SoI w w.heap.size b R m cs (helL (lo.take j) ws (recL k ws (recL k la fun p=>ivC (nds rn) ps l p k))) wr)∧Hid (KpB w4 wr R)) (fun s _=>nlo-(intOf s).toNat)
       case atStart=>exact ⟨0,by omega,rfl,by rw [List.take_zero,helL_nil];exact HI5,HK5⟩
       case round =>
        clear HI5 HK5
        obtain ⟨j,hj,rfl,HI,HK⟩:=hrel
        by_cases hjl:j<nlo
        ·obtain ⟨by2,oy,y,hye,hby,HYY,y1⟩:=(HA2.out.below HI.out.below).int hjl
         obtain ⟨hy0,hy1⟩:=HLOI.out y (List.mem_of_getElem? HYY.out)
         obtain ⟨z,rfl⟩:∃ z:Nat,y=(z:Int):=⟨y.toNat,by omega⟩
         have hzm:z<m:=by omega
         have HCT:=Lib.hid (contains_eq w4.heap.size A3 nws c3 ws z wr (Reads.of_own_le (HOK.out wr HK.out) HO4.out) HNWS.out (by omega))
         have HTK:Hid (lo.take (j+1)=lo.take j ++ [(z:Int)]):=Lib.hid (take_at HYY.out)
         rw [hye]
         clear hye hy0 hy1
         by_cases hzw:(z:Int) ∈ ws
         ·have HD:Hid (decide ((z:Int) ∈ ws)=true):=Lib.hid (decide_eq_true hzw)
          have HSK:Hid (helL (lo.take (j+1)) ws (recL k ws (recL k la fun p=>ivC (nds rn) ps l p k))=helL (lo.take j) ws (recL k ws (recL k la fun p=>ivC (nds rn) ps l p k))):=Lib.hid (by rw [HTK.out,helL_skip hzw])
          rw [HD.out] at HCT
          clear hzw
          go_wp2_with (go_at_call 48;refine HCT.out.mono ?_;rintro e w6 ⟨rfl,hw6⟩;rw [hw6];clear hw6)
          go_roundw
          case rel=>exact ⟨j+1,by omega,by go_num,by rw [HSK.out];exact HI,HK⟩
          case measure=>simp [intOf];omega
         ·have HD:Hid (decide ((z:Int) ∈ ws)=false):=Lib.hid (decide_eq_false hzw)
          obtain ⟨G,hG⟩:∃ G,G=helL (lo.take j) ws (recL k ws (recL k la fun p=>ivC (nds rn) ps l p k)):=⟨_,rfl⟩
          have HSK:Hid (helL (lo.take (j+1)) ws (recL k ws (recL k la fun p=>ivC (nds rn) ps l p k))=upd G z ⟨(G z).p,(G z).f,(G z).t,true⟩):=Lib.hid (by
           rw [HTK.out,helL_add hzw,← hG]
           funext p
           unfold upd
           by_cases e:p=z
           ·subst e;simp
           ·rw [if_neg e,if_neg e])
          rw [← hG] at HI
          rw [HD.out] at HCT
          have b0:wr.cell? ⟨b,0,none⟩=some (.slice (some ⟨R,0,none⟩) m m):=HI.out.box.cell 0
          have r3:wr.cell? ⟨R,z*4+3,none⟩=some (.bool (G z).h):=by rw [HI.out.row.cell,ivA_at _ hzm (by decide)];rfl
          have e3:wr.frozen? ⟨R,z*4+3,none⟩=false:=HI.out.row.frozen _
          have HNW:Hid (SoI w w.heap.size b R m cs (upd G z ⟨(G z).p,(G z).f,(G z).t,true⟩) (wr.setCell ⟨R,z*4+3,none⟩ (.bool true))):=Lib.hid (HI.out.kp ((KpB.refl _ _).set _ _) (by
           have h:=HI.out.row.set_ (z*4+3) (.bool true)
           rw [ivA_h] at h
           exact h))
          have HNK:Hid (KpB w4 (wr.setCell ⟨R,z*4+3,none⟩ (.bool true)) R):=Lib.hid (HK.out.set _ _)
          clear hzw hG
          go_wp2_with (go_at_call 48;refine HCT.out.mono ?_;rintro e w6 ⟨rfl,hw6⟩;rw [hw6];clear hw6)
          go_roundw
          case rel=>exact ⟨j+1,by omega,by go_num,by rw [HSK.out];exact HNW,HNK⟩
          case measure=>simp [intOf];omega
        ·have hjn:j=nlo:=by omega
         have HFIN:Hid (SoI w w.heap.size b R m cs (fun p=>ivC (nds rn) ps l p (k+1)) wr):=Lib.hid (HI.out.congr fun p hp=>by
          rw [List.take_of_length_le (by rw [HNLO.out];omega)]
          exact HSY.out p hp)
         go_wp2
         go_roundw
         case rel=>exact ⟨k+1,by omega,by go_num,HFIN⟩
         case measure=>simp [intOf];omega
     ·have HFIN:Hid (SoI w w.heap.size b R m cs (fun p=>ivC (nds rn) ps l p (k+1)) w5):=Lib.hid (HI5.out.congr fun p hp=>by
       have h:=HSTEP.out p hp
       rw [if_neg hop] at h
       exact h)
      have g11:(nd.nd.op != 11)=true:=by simp;omega
      have g13:(nd.nd.op != 13)=true:=by simp;omega
      clear hop HSTEP
      go_wp2
      go_roundw
      case rel=>exact ⟨k+1,by omega,by go_num,HFIN⟩
      case measure=>simp [intOf];omega
    ·have hkn:k=nl:=by omega
     rw [hkn] at HI
     have HE:Hid (SoI w w.heap.size b R m cs (fun p=>ivK (nds rn) ps l (p:Int) l.length) wr):=Lib.hid (HI.out.congr fun p hp=>by rw [← HLL.out];exact ivC_end (by rw [HLL.out];omega))
     have HDEL:=Lib.hid (delete_iv R m (fun p=>ivK (nds rn) ps l (p:Int) l.length) wr HE.out.row (by omega))
     have b0:wr.cell? ⟨b,0,none⟩=some (.slice (some ⟨R,0,none⟩) m m):=HI.out.box.cell 0
     go_wp2_with (go_at_call 49;refine HDEL.out.mono ?_;rintro e w6 ⟨nn,G,rfl,hnn,hg6,hp6,hk6⟩;have HNN:=Lib.hid hnn;have HG6:=Lib.hid hg6;have HP6:=Lib.hid hp6;have HK6:=Lib.hid hk6;clear hnn hg6 hp6 hk6)
     go_ret
     rw [spans_kept] at HNN HP6
     exact ⟨R,nn,G,rfl,HE.out.lt,HNN.out,HG6.out,HP6.out,HE.out.below.trans (HK6.out.out w.heap.size HE.out.below.size HE.out.lt)⟩
theorem LvPost.okO {L:List Nd→Nat→Nat→List Int} {gs:List Gr} {g:Gr} {k:Nat} {w w':World} {e:Ending} (h:LvPost L gs k w e w') (hv:valid gs false) (hg:gs[k]?=some g) :
  Below w.heap.size w w'∧∃ O vs,e=.returned (.tuple #[.slice (some ⟨O,0,none⟩) g.nodes.length g.nodes.length,.int .i64 0])∧w.heap.size≤O∧RdL w' w.heap.size O g.nodes.length vs (L g.nodes g.kinds.length):=by
 obtain ⟨hb,A,n,c,rfl,_,h0⟩:=h
 have hz:chkL gs k=0:=by
  have:=(List.getElem?_eq_some_iff.1 hg).1
  unfold chkL
  rw [if_pos hv,if_neg (by omega)]
 obtain ⟨O,vs,g2,h1,rfl,rfl,rfl,h2,h3⟩:=h0 hz
 rw [Int.toNat_natCast,hg] at h1
 injection h1 with h1
 subst h1
 exact ⟨hb,O,vs,by rw [hz],h2,h3⟩
theorem LnPost.ok {gs:List Gr} {g:Gr} {k:Nat} {w w':World} {e:Ending} (h:LnPost gs k w e w') (hv:valid gs false) (hg:gs[k]?=some g) :
  Below w.heap.size w w'∧∃ A c,e=.returned (.tuple #[.slice A (lineG g).length c,.int .i64 0])∧w'.ownsRow w.heap.size 3 1 (.slice A (lineG g).length c) (lineG g).length (i64c (lineG g)):=by
 obtain ⟨hb,A,n,c,rfl,_,h0⟩:=h
 have hz:chkL gs k=0:=by
  have:=(List.getElem?_eq_some_iff.1 hg).1
  unfold chkL
  rw [if_pos hv,if_neg (by omega)]
 obtain ⟨g2,h1,rfl,h3⟩:=h0 hz
 rw [Int.toNat_natCast,hg] at h1
 injection h1 with h1
 subst h1
 exact ⟨hb,A,c,by rw [hz],h3⟩
theorem LnPost.bad {gs:List Gr} {f z:Int} {w w':World} {e:Ending} (h:LnPost gs f w e w') (hz:chkL gs f=z) (h0:z≠0):Below w.heap.size w w'∧e=.returned (.tuple #[.slice none 0 0,.int .i64 z]):=by
 obtain ⟨hb,A,n,c,rfl,h1,_⟩:=h
 obtain ⟨rfl,rfl,rfl⟩:=h1 (by rw [hz];exact h0)
 exact ⟨hb,by rw [hz]⟩
noncomputable def spansG (g:Gr):List Iv:=spansL g.nodes g.params (lineG g) g.kinds.length
def SpPost (gs:List Gr) (f:Int) (w:World) (e:Ending) (w':World):Prop :=
 Below w.heap.size w w'∧∃ (A:Option Addr) (n c:Nat),e=.returned (.tuple #[.slice A n c,.int .i64 (chkL gs f)])∧(chkL gs f≠0→A=none∧n=0∧c=0) ∧
  (chkL gs f=0→∃ g R G,gs[f.toNat]?=some g∧A=some ⟨R,0,none⟩∧w.heap.size≤R∧c=g.kinds.length∧n=(spansG g).length∧Blk w' R 56 (ivA c G)∧∀ p,p<n→(spansG g)[p]?=some (G p))
theorem SpPost.ok {gs:List Gr} {g:Gr} {k:Nat} {w w':World} {e:Ending} (h:SpPost gs k w e w') (hv:valid gs false) (hg:gs[k]?=some g) :
  Below w.heap.size w w'∧∃ R G,e=.returned (.tuple #[.slice (some ⟨R,0,none⟩) (spansG g).length g.kinds.length,.int .i64 0])∧w.heap.size≤R∧Blk w' R 56 (ivA g.kinds.length G)∧∀ p,p<(spansG g).length→(spansG g)[p]?=some (G p):=by
 obtain ⟨hb,A,n,c,rfl,_,h0⟩:=h
 have hz:chkL gs k=0:=by
  have:=(List.getElem?_eq_some_iff.1 hg).1
  unfold chkL
  rw [if_pos hv,if_neg (by omega)]
 obtain ⟨g2,R,G,h1,rfl,h2,rfl,rfl,h3,h4⟩:=h0 hz
 rw [Int.toNat_natCast,hg] at h1
 injection h1 with h1
 subst h1
 exact ⟨hb,R,G,by rw [hz],h2,h3,h4⟩
theorem SpPost.bad {gs:List Gr} {f z:Int} {w w':World} {e:Ending} (h:SpPost gs f w e w') (hz:chkL gs f=z) (h0:z≠0):Below w.heap.size w w'∧e=.returned (.tuple #[.slice none 0 0,.int .i64 z]):=by
 obtain ⟨hb,A,n,c,rfl,h1,_⟩:=h
 obtain ⟨rfl,rfl,rfl⟩:=h1 (by rw [hz];exact h0)
 exact ⟨hb,by rw [hz]⟩
theorem chk_ok {gs:List Gr} {k:Nat} (hv:valid gs false) (hk:k<gs.length):chkL gs k=0:=by
 unfold chkL
 rw [if_pos hv,if_neg (by omega)]
theorem lineG_in {gs:List Gr} {g:Gr} (h:valid gs false) (hg:g ∈ gs):(∀ x ∈ lineG g,∃ k:Nat,x=k∧k<g.nodes.length)∧(lineG g).length≤4096∧0<(lineG g).length:=by
 have h1:=lineG_ok h hg
 have h2:=valid_sizes h hg
 obtain ⟨r,hr⟩:=h1.first
 have h3:=h1.len
 have h4:0<(lineG g).length:=by rw [hr];simp
 exact ⟨h1.nat,by omega,h4⟩
theorem spans_any (B:Nat) (fo:Option Addr) (nF cF:Nat) (rs:List RG) (f:Int) (w:World) (h:RdP w B fo nF rs) (hB:B≤w.heap.size) (hT:TzTab w) :
  Calls Tryz.prog 14 #[.agg #[.slice fo nF cF],.int .i64 f] w (SpPost (grs rs) f w):=by
 have HBL:Hid (Below w.heap.size w (w.alloc (.cells #[.slice fo nF cF] 24))):=(Below.refl _ _).alloc (Nat.le_refl _) _
 have HG0:=Lib.hid (Blk.new w 24 #[.slice fo nF cF])
 have HZ1:Hid ((w.alloc (.cells #[.slice fo nF cF] 24)).heap.size=w.heap.size+1):=Lib.hid (by simp)
 have HLN:=Lib.hid (line_any B fo nF cF rs f (w.alloc (.cells #[.slice fo nF cF] 24)) (h.below (HBL.out.mono hB)) (by simp;omega))
 have HG:Hid (∀ W,Below (w.heap.size+1) (w.alloc (.cells #[.slice fo nF cF] 24)) W→W.cell? ⟨w.heap.size,0,none⟩=some (.slice fo nF cF)):=Lib.hid fun W hb=>(HG0.out.below hb (by omega)).cell 0
 have H:=Lib.hid h
 have HT:=Lib.hid hT
 clear h hT
 obtain ⟨z,hz⟩:∃ z,z=chkL (grs rs) f:=⟨_,rfl⟩
 have HZ:=Lib.hid hz
 by_cases h0:z=0
 ·subst h0
  obtain ⟨hv,k,rfl,hk⟩:=chk_zero hz.symm
  have hkF:k<nF:=by rw [length_grs,H.out.len] at hk;exact hk
  obtain ⟨b,off,r,hfe,hb,HX,HRG,HWG,x0,x1,x2,x3,x4,x5,x6,x7⟩:=H.out.gr hkF
  have HXG:Hid ((grs rs)[k]?=some r.gr):=Lib.hid (by unfold grs;rw [List.getElem?_map,HX.out];rfl)
  have hmem:r.gr ∈ grs rs:=List.mem_of_getElem? HXG.out
  have hsz:=valid_sizes hv hmem
  have hwin:=valid_writes hv hmem
  have hpin:=valid_params hv hmem
  have hlin:=lineG_in hv hmem
  rw [← HRG.out.nd] at hwin
  have HIN:Hid (∀ W,Below w.heap.size w W→Calls Tryz.prog 22 #[.agg #[.slice fo nF cF],.int .i64 k] W (LvPost liveL (grs rs) k W)):=Lib.hid fun W hb=>in_live B fo nF cF rs k W (H.out.below (hb.mono hB)) (by have:=hb.size;omega) (HT.out.below hb)
  have HOU:Hid (∀ W,Below w.heap.size w W→Calls Tryz.prog 23 #[.agg #[.slice fo nF cF],.int .i64 k] W (LvPost liveOL (grs rs) k W)):=Lib.hid fun W hb=>out_live B fo nF cF rs k W (H.out.below (hb.mono hB)) (by have:=hb.size;omega) (HT.out.below hb)
  have HSO:Hid (∀ (lA:Option Addr) (lc O1 O2 b1 b2:Nat) (vs1 vs2:Nat→Value) (W:World),Below w.heap.size w W→Reads W W.heap.size 1 lA (lineG r.gr).length (i64c (lineG r.gr))→RdL W b1 O1 r.gr.nodes.length vs1 (liveL r.gr.nodes r.gr.kinds.length)→RdL W b2 O2 r.gr.nodes.length vs2 (liveOL r.gr.nodes r.gr.kinds.length) →
    Calls Tryz.prog 24 #[.agg #[.slice r.po r.gr.params.length r.pc,.slice r.ko r.gr.kinds.length r.kc,.int .i64 r.gr.cells,.slice r.io r.gr.init.length r.ic,.bool r.gr.result,.int .i64 r.gr.keep,.slice r.no r.gr.nodes.length r.nc,.int .i64 r.gr.entry],.slice lA (lineG r.gr).length lc,.slice (some ⟨O1,0,none⟩) r.gr.nodes.length r.gr.nodes.length,.slice (some ⟨O2,0,none⟩) r.gr.nodes.length r.gr.nodes.length] W (SoPost r.gr.nodes r.gr.params (lineG r.gr) r.gr.kinds.length W)):=Lib.hid fun lA lc O1 O2 b1 b2 vs1 vs2 W hbw hL h1 h2=>by
   rw [← HRG.out.nd] at h1 h2 ⊢
   have hnl:(nds r.ns).length=r.gr.nodes.length:=by rw [HRG.out.nd]
   rw [hnl] at h1 h2
   rw [hnl]
   exact spansOf_any B r.po r.ko r.io r.no lA r.gr.params.length r.pc r.gr.kinds.length r.kc r.gr.init.length r.ic r.gr.nodes.length r.nc (lineG r.gr).length lc r.gr.cells r.gr.keep r.gr.entry r.gr.result r.ns r.gr.params (lineG r.gr) O1 O2 b1 b2 vs1 vs2 W (HRG.out.nodes.below (hbw.mono hB)) (HRG.out.params.below (hbw.mono hB)) rfl hpin.1 hpin.2 hL hlin.1 rfl hlin.2.1 hlin.2.2 h1 h2 (by have:=hbw.size;omega) hsz.2 hsz.1 hwin
  have HV:=Lib.hid hv
  have HCE:Hid (∀ W,Below w.heap.size w W→W.cell? ⟨b,off+k*8,none⟩=some (.slice r.po r.gr.params.length r.pc)∧W.cell? ⟨b,off+k*8+1,none⟩=some (.slice r.ko r.gr.kinds.length r.kc)∧W.cell? ⟨b,off+k*8+2,none⟩=some (.int .i64 r.gr.cells)∧W.cell? ⟨b,off+k*8+3,none⟩=some (.slice r.io r.gr.init.length r.ic)∧W.cell? ⟨b,off+k*8+4,none⟩=some (.bool r.gr.result)∧W.cell? ⟨b,off+k*8+5,none⟩=some (.int .i64 r.gr.keep)∧W.cell? ⟨b,off+k*8+6,none⟩=some (.slice r.no r.gr.nodes.length r.nc)∧W.cell? ⟨b,off+k*8+7,none⟩=some (.int .i64 r.gr.entry)):=Lib.hid fun W hbw=>⟨(hbw.cell (p:=⟨b,_,none⟩) (by show b<_;omega)).trans x0,(hbw.cell (p:=⟨b,_,none⟩) (by show b<_;omega)).trans x1,(hbw.cell (p:=⟨b,_,none⟩) (by show b<_;omega)).trans x2,(hbw.cell (p:=⟨b,_,none⟩) (by show b<_;omega)).trans x3,(hbw.cell (p:=⟨b,_,none⟩) (by show b<_;omega)).trans x4,(hbw.cell (p:=⟨b,_,none⟩) (by show b<_;omega)).trans x5,(hbw.cell (p:=⟨b,_,none⟩) (by show b<_;omega)).trans x6,(hbw.cell (p:=⟨b,_,none⟩) (by show b<_;omega)).trans x7⟩
  rw [hfe] at HG0 HBL HLN HIN HOU HG HZ1 H ⊢
  clear hfe x0 x1 x2 x3 x4 x5 x6 x7 hsz hwin hpin hlin hv hmem hk hz
  go_enter Tryz.func14,Tryz.ntmps14
  go_wp2_with (first
   | (go_at_call 21;refine HLN.out.mono ?_;rintro e w1 hl;obtain ⟨hb1,A1,c1,rfl,ho1⟩:=hl.ok HV.out HXG.out;rw [HZ1.out] at hb1;have HB1:=Lib.hid hb1;have HW1:=Lib.hid (HBL.out.trans (hb1.mono (by omega)));have HO1:=Lib.hid ho1;have y1:=HG.out _ hb1;clear hl hb1 ho1)
   | (go_at_call 22;refine (HIN.out _ HW1.out).mono ?_;rintro e w2 hl;obtain ⟨hb2,O2,vs2,rfl,hO2,hr2⟩:=hl.okO HV.out HXG.out;have hb2':=HB1.out.trans (hb2.mono (by have:=HB1.out.size;rw [HZ1.out] at this;exact this));have HB2:=Lib.hid hb2';have HW2:=Lib.hid (HW1.out.trans (hb2.mono HW1.out.size));have HR2:=Lib.hid hr2;have HO2:=Lib.hid (own_kept HO1.out fun g hg=>hb2.block g (own_block_le HO1.out hg).2);have y2:=HG.out _ hb2';clear hl hb2 hb2' hr2)
   | (go_at_call 23;refine (HOU.out _ HW2.out).mono ?_;rintro e w3 hl;obtain ⟨hb3,O3,vs3,rfl,hO3,hr3⟩:=hl.okO HV.out HXG.out;have hb3':=HB2.out.trans (hb3.mono (by have:=HB2.out.size;rw [HZ1.out] at this;exact this));have HB3:=Lib.hid hb3';have HW3:=Lib.hid (HW2.out.trans (hb3.mono HW2.out.size));have HR3:=Lib.hid hr3;have HR2c:=Lib.hid (HR2.out.on hb3);have HO3:=Lib.hid (own_kept HO2.out fun g hg=>hb3.block g (own_block_le HO2.out hg).2);have y3:=HG.out _ hb3';obtain ⟨q0,q1,q2,q3,q4,q5,q6,q7⟩:=HCE.out _ HW3.out;clear hl hb3 hb3' hr3)
   | (go_at_call 24;refine (HSO.out A1 c1 O2 O3 _ _ vs2 vs3 w3 HW3.out (Reads.of_own HO3.out) HR2c.out HR3.out).mono ?_;rintro e w4 ⟨R,nn,G,rfl,hR4,hn4,hb4,hp4,hbl4⟩;have HW4:=Lib.hid (HW3.out.trans (hbl4.mono HW3.out.size));have HB4:=Lib.hid hb4;have HP4:=Lib.hid hp4;have HN4:=Lib.hid hn4;have HR4:Hid (w.heap.size≤R):=Lib.hid (Nat.le_trans HW3.out.size hR4);clear hR4 hn4 hb4 hp4 hbl4))
  go_ret2
  exact ⟨HW4.out,some ⟨R,0,none⟩,nn,r.gr.kinds.length,by rw [← HZ.out];rfl,fun h=>absurd HZ.out.symm h,fun _=>⟨r.gr,R,G,by rw [Int.toNat_natCast];exact HXG.out,rfl,HR4.out,rfl,HN4.out,HB4.out,HP4.out⟩⟩
 ·have g1:(z != 0)=true:=by simpa using h0
  have H0:=Lib.hid h0
  clear h0 hz
  go_enter Tryz.func14,Tryz.ntmps14
  go_wp2_with (go_at_call 21;refine HLN.out.mono ?_;rintro e w1 hl;obtain ⟨hb1,rfl⟩:=hl.bad HZ.out.symm H0.out;rw [HZ1.out] at hb1;have HW1:=Lib.hid (HBL.out.trans (hb1.mono (by omega)));clear hl hb1)
  go_ret2
  exact ⟨HW1.out,none,0,0,by rw [← HZ.out];rfl,fun _=>⟨rfl,rfl,rfl⟩,fun h=>absurd (HZ.out.trans h) H0.out⟩
structure SrI (w:World) (R c:Nat) (G:Nat→Iv) (wr:World):Prop where
 row:Blk wr R 56 (ivA c G)
 kp:KpB w wr R
section
variable {w wr w':World} {R c:Nat} {G G':Nat→Iv}
theorem SrI.start (h:Blk w R 56 (ivA c G)):SrI w R c G w:=⟨h,KpB.refl _ _⟩
theorem SrI.on (h:SrI w R c G wr) (hb:Below wr.heap.size wr w'):SrI w R c G w':=⟨h.row.below hb h.row.lt,h.kp.trans (KpB.of_below R hb)⟩
theorem SrI.then_ (h:SrI w R c G wr) (k:SrI wr R c G' w'):SrI w R c G' w':=⟨k.row,h.kp.trans k.kp⟩
theorem SrI.dn (h:SrI w R c G wr) (n:Nat):SrI w R c G (wr.drewN n):=⟨h.row.drewN n,h.kp.drewN n⟩
theorem SrI.swap (h:SrI w R c G wr) (i j:Nat):SrI w R c (sw G i j) (setIv (setIv wr R i (G j)) R j (G i)).drew :=
 ⟨(setIv_blk (setIv_blk h.row)).drew,(setIv_kp (setIv_kp h.kp)).drewN 1⟩
theorem SrI.cells (h:SrI w R c G wr) {i:Nat} (hi:i<c):wr.cell? ⟨R,i*4,none⟩=some (.int .i64 (G i).p)∧wr.cell? ⟨R,i*4+1,none⟩=some (.int .i64 (G i).f)∧wr.cell? ⟨R,i*4+2,none⟩=some (.int .i64 (G i).t)∧wr.cell? ⟨R,i*4+3,none⟩=some (.bool (G i).h) ∧
  wr.frozen? ⟨R,i*4,none⟩=false∧wr.frozen? ⟨R,i*4+1,none⟩=false∧wr.frozen? ⟨R,i*4+2,none⟩=false∧wr.frozen? ⟨R,i*4+3,none⟩=false:=by
 refine ⟨?_,?_,?_,?_,h.row.frozen _,h.row.frozen _,h.row.frozen _,h.row.frozen _⟩
 ·rw [h.row.cell];exact ivA_at (j:=0) _ hi (by decide)
 ·rw [h.row.cell,ivA_at _ hi (by decide)];rfl
 ·rw [h.row.cell,ivA_at _ hi (by decide)];rfl
 ·rw [h.row.cell,ivA_at _ hi (by decide)];rfl
end
theorem swapR_any (R n c a b k:Nat) (G:Nat→Iv) (fv:Value) (w:World) (h:Blk w R 56 (ivA c G)) (hab:a+k≤b) (hb:b+k≤n) (hn:n≤c) (hc:c≤5000) :
  Calls Tryz.prog 104 #[.slice (some ⟨R,0,none⟩) n c,.int .i64 a,.int .i64 b,.int .i64 k,fv] w fun e w'=>e=.returned (.tuple #[])∧SrI w R c (swR a b k G) w':=by
 have H0:Hid (SrI w R c (swR a b 0 G) w):=Lib.hid (SrI.start h)
 clear h
 go_enter Tryz.func104,Tryz.ntmps104
 go_wp2
 go_loopw [10] (fun s wr=>∃ i:Nat,i≤k∧s=.int .i64 i∧Hid (SrI w R c (swR a b i G) wr)) (fun s _=>k-(intOf s).toNat)
 case atStart=>exact ⟨0,by omega,rfl,H0⟩
 case round =>
  clear H0
  obtain ⟨i,hi,rfl,HI⟩:=hrel
  by_cases hlt:i<k
  ·obtain ⟨p,hp⟩:∃ p,p=a+i:=⟨_,rfl⟩
   obtain ⟨q,hq⟩:∃ q,q=b+i:=⟨_,rfl⟩
   obtain ⟨F,hF⟩:∃ F,F=swR a b i G:=⟨_,rfl⟩
   have HST:Hid (SrI w R c (swR a b (i+1) G) (setIv (setIv wr R p (F q)) R q (F p)).drew):=Lib.hid (by
    rw [hF,hp,hq]
    exact HI.out.swap (a+i) (b+i))
   rw [← hF] at HI
   unfold setIv at HST
   have hpn:p<n:=by omega
   have hqn:q<n:=by omega
   have hpi:(a:Int)+i=p:=by omega
   have hqi:(b:Int)+i=q:=by omega
   have hpq:¬ p=q:=by omega
   have hqp:¬ q=p:=by omega
   obtain ⟨z0,z1,z2,z3,f0,f1,f2,f3⟩:=HI.out.cells (show p<c by omega)
   obtain ⟨y0,y1,y2,y3,g0,g1,g2,g3⟩:=HI.out.cells (show q<c by omega)
   clear hp hq hF HI
   go_wp2
   go_region
   go_wp2
   go_roundw
   case rel=>exact ⟨i+1,by omega,by go_num,HST⟩
   case measure=>simp [intOf];omega
  ·obtain rfl:i=k:=by omega
   go_wp2
   first | go_end0 | go_ret
   exact ⟨rfl,HI.out⟩
open Go.ChangeShapes Go.WideShapes Go.ChangeAt Go.RowKit Go.Sort
def ivV (s:Iv):Value:=.agg #[.int .i64 s.p,.int .i64 s.f,.int .i64 s.t,.bool s.h]
def fvC:Value:=.func (.func 26) #[] #[]
def BdF (n:Nat) (G:Nat→Iv):Prop:=∀ i,i<n→-1≤(G i).f∧(G i).f≤5000
theorem BdF.prm {n m:Nat} {G G':Nat→Iv} (h:BdF n G) (hp:Prm n G G'):BdF n G':=fun i hi=>by
 obtain ⟨π,ρ,hπ⟩:=hp
 have:=hπ i hi
 rw [this.2.2.2.2]
 exact h _ this.1
theorem wrap_id {z:Int} (h1:-9223372036854775808≤z) (h2:z<9223372036854775808):wrap64 z=z:=by
 unfold wrap64
 omega
theorem cmp_any (x y:Iv) (hx:-1≤x.f∧x.f≤5000) (hy:-1≤y.f∧y.f≤5000) (w:World) :
  Calls Tryz.prog 26 #[.agg #[.int .i64 x.p,.int .i64 x.f,.int .i64 x.t,.bool x.h],.agg #[.int .i64 y.p,.int .i64 y.f,.int .i64 y.t,.bool y.h]] w fun e w'=>e=.returned (.int .i64 (x.f-y.f))∧∃ q os',w'=grow (w.drewN q) os':=by
 obtain ⟨a,ha⟩:∃ a,a=x.f:=⟨_,rfl⟩
 obtain ⟨b,hb⟩:∃ b,b=y.f:=⟨_,rfl⟩
 rw [← ha] at hx ⊢
 rw [← hb] at hy ⊢
 clear ha hb
 have HW:Hid (wrap64 (a-b)=a-b):=Lib.hid (wrap_id (by omega) (by omega))
 clear hx hy
 go_enter Tryz.func26,Tryz.ntmps26
 go_wp2
 first | go_end0 | go_ret
 refine ⟨?_,0,_,by rw [alloc_eq_grow,alloc_eq_grow,grow_grow];rfl⟩
 show Ending.returned (.int .i64 (wrap64 (a-b)))=_
 rw [HW.out]
theorem SrI.grown {w wr:World} {R c:Nat} {G:Nat→Iv} (h:SrI w R c G wr) (n:Nat) (os:Array Obj):SrI w R c G (grow (wr.drewN n) os):=h.on (Go.Lib.below_grow _ wr (Nat.le_refl _) n os)
def kyF (s:Iv):Int:=s.f
theorem insert_any (R n c a b:Nat) (G:Nat→Iv) (w:World) (h:Blk w R 56 (ivA c G)) (hB:BdF n G) (hb:b≤n) (hn:n≤c) (hc:c≤5000) (ha:a≤5000) :
  Calls Tryz.prog 74 #[.slice (some ⟨R,0,none⟩) n c,.int .i64 a,.int .i64 b,.func (.func 26) #[] #[]] w fun e w'=>e=.returned (.tuple #[])∧SrI w R c (insS kyF a b G) w':=by
 have H0:Hid (SrI w R c (insN kyF a (a+1-(a+1)) G) w):=Lib.hid (by rw [Nat.sub_self];exact SrI.start h)
 have HB:=Lib.hid hB
 have mixed:Tryz.prog.follows .mixedOrders=true:=by kernel_rfl
 clear h hB
 go_enter Tryz.func74,Tryz.ntmps74
 go_wp2
 go_loopw [8] (fun s wr=>∃ i:Nat,a+1≤i∧(i≤b∨i=a+1)∧s=.int .i64 i∧Hid (SrI w R c (insN kyF a (i-(a+1)) G) wr)) (fun s _=>b-(intOf s).toNat)
 case atStart=>exact ⟨a+1,by omega,.inr rfl,by go_num,H0⟩
 case round =>
  clear H0
  obtain ⟨i,hai,hib,rfl,HI⟩:=hrel
  have hi5:i≤5001:=by omega
  by_cases hlt:i<b
  ·have HT:Hid (insN kyF a (i+1-(a+1)) G=insJ kyF a i (insN kyF a (i-(a+1)) G)):=Lib.hid (by
    rw [show i+1-(a+1)=(i-(a+1))+1 by omega]
    show insJ kyF a (a+1+(i-(a+1))) _=_
    rw [show a+1+(i-(a+1))=i by omega])
   have HBF:Hid (BdF n (insN kyF a (i-(a+1)) G)):=Lib.hid (HB.out.prm (m:=n) (insN_prm kyF a n G _ (by omega)))
   obtain ⟨F0,hF0⟩:∃ F,F=insN kyF a (i-(a+1)) G:=⟨_,rfl⟩
   rw [← hF0] at HT HBF HI
   clear hF0
   go_wp2
   obtain ⟨wo,rfl⟩:∃ wo:World,wo=wr:=⟨_,rfl⟩
   go_loopw [9] (fun s wr=>∃ (j:Nat) (F:Nat→Iv),a≤j∧j≤i∧s=.int .i64 j∧Hid (SrI w R c F wr)∧Hid (BdF n F)∧Hid (insJ kyF a j F=insJ kyF a i F0)) (fun s _=>(intOf s).toNat)
   case atStart=>exact ⟨i,F0,by omega,by omega,rfl,HI,HBF,Lib.hid rfl⟩
   case round =>
    clear HI HBF
    obtain ⟨j,F,haj,hji,rfl,HI,HBF,HJ⟩:=hrel
    by_cases hja:a<j
    ·obtain ⟨p,hp⟩:∃ p,p=j-1:=⟨_,rfl⟩
     have hjp:(j:Int)-1=p:=by omega
     have hjn:j<n:=by omega
     have hpn:p<n:=by omega
     have hp5:p≤5001:=by omega
     have hwp:IntKind.i64.wrap (p:Int)=(p:Int):=by rw [IntKind.wrap_i64];omega
     have hne1:¬ p=j:=by omega
     have hne2:¬ j=p:=by omega
     obtain ⟨z0,z1,z2,z3,f0,f1,f2,f3⟩:=HI.out.cells (show j<c by omega)
     obtain ⟨y0,y1,y2,y3,g0,g1,g2,g3⟩:=HI.out.cells (show p<c by omega)
     have HL:Hid (∀ n' os',(grow (wr.drewN n') os').cell? ⟨R,j*4,none⟩=some (.int .i64 (F j).p)∧(grow (wr.drewN n') os').cell? ⟨R,j*4+1,none⟩=some (.int .i64 (F j).f)∧(grow (wr.drewN n') os').cell? ⟨R,j*4+2,none⟩=some (.int .i64 (F j).t)∧(grow (wr.drewN n') os').cell? ⟨R,j*4+3,none⟩=some (.bool (F j).h) ∧
       (grow (wr.drewN n') os').cell? ⟨R,p*4,none⟩=some (.int .i64 (F p).p)∧(grow (wr.drewN n') os').cell? ⟨R,p*4+1,none⟩=some (.int .i64 (F p).f)∧(grow (wr.drewN n') os').cell? ⟨R,p*4+2,none⟩=some (.int .i64 (F p).t)∧(grow (wr.drewN n') os').cell? ⟨R,p*4+3,none⟩=some (.bool (F p).h)):=Lib.hid fun n' os'=>by
      obtain ⟨z0,z1,z2,z3,_⟩:=(HI.out.grown n' os').cells (show j<c by omega)
      obtain ⟨y0,y1,y2,y3,_⟩:=(HI.out.grown n' os').cells (show p<c by omega)
      exact ⟨z0,z1,z2,z3,y0,y1,y2,y3⟩
     have l0:=fun n' os'=>(HL.out n' os').1
     have l1:=fun n' os'=>(HL.out n' os').2.1
     have l2:=fun n' os'=>(HL.out n' os').2.2.1
     have l3:=fun n' os'=>(HL.out n' os').2.2.2.1
     have m0:=fun n' os'=>(HL.out n' os').2.2.2.2.1
     have m1:=fun n' os'=>(HL.out n' os').2.2.2.2.2.1
     have m2:=fun n' os'=>(HL.out n' os').2.2.2.2.2.2.1
     have m3:=fun n' os'=>(HL.out n' os').2.2.2.2.2.2.2
     obtain ⟨z,hz⟩:∃ z,z=(F j).f-(F p).f:=⟨_,rfl⟩
     have HCM:Hid (∀ n' os',Calls Tryz.prog 26 #[.agg #[.int .i64 (F j).p,.int .i64 (F j).f,.int .i64 (F j).t,.bool (F j).h],.agg #[.int .i64 (F p).p,.int .i64 (F p).f,.int .i64 (F p).t,.bool (F p).h]] (grow (wr.drewN n') os') fun e w'=>e=.returned (.int .i64 z)∧∃ q os'',w'=grow ((grow (wr.drewN n') os').drewN q) os''):=Lib.hid fun n' os'=>by
      rw [hz]
      exact cmp_any _ _ (HBF.out j hjn) (HBF.out p hpn) _
     clear z0 z1 z2 z3 f0 f1 f2 f3 y0 y1 y2 y3 g0 g1 g2 g3
     obtain ⟨X,hX⟩:∃ X,X=F j:=⟨_,rfl⟩
     obtain ⟨Y,hY⟩:∃ Y,Y=F p:=⟨_,rfl⟩
     rw [← hX] at l0 l1 l2 l3 HCM hz
     rw [← hY] at m0 m1 m2 m3 HCM hz
     have HX:=Lib.hid hX
     have HY:=Lib.hid hY
     clear hX hY HL
     by_cases hlv:X.f<Y.f
     ·have gz:decide (z<0)=true:=decide_eq_true (by omega)
      have HST:Hid (∀ W,SrI w R c F W→SrI w R c (sw F j p) (setIv (setIv W R j Y) R p X).drew):=Lib.hid fun W hW=>by
       have:=hW.swap j p
       rw [← HX.out,← HY.out] at this
       exact this
      have HBS:Hid (BdF n (sw F j p)):=Lib.hid (HBF.out.prm (m:=n) (Prm.sw F hjn hpn))
      have HJS:Hid (insJ kyF a p (sw F j p)=insJ kyF a i F0):=Lib.hid (by
       rw [← HJ.out,show j=p+1 by omega]
       conv=>rhs;unfold insJ
       rw [if_pos ⟨by omega,by
        show (F (p+1)).f<(F p).f
        rw [show p+1=j by omega,← HX.out,← HY.out]
        exact hlv⟩])
      have HZ:=Lib.hid hz
      have HLV:=Lib.hid hlv
      have HHP:=Lib.hid hp
      clear hz hlv hp
      go_wp2_with fail
      go_quiet_grown (first | (go_at_call 26;refine Calls.grown_of (HCM.out _ _)))
      go_wp2_with fail
      have HI2:Hid (SrI w R c F (grow (wr.drewN nq) osq)):=Lib.hid (HI.out.grown nq osq)
      obtain ⟨W2,hW2⟩:∃ W,W=grow (wr.drewN nq) osq:=⟨_,rfl⟩
      rw [← hW2] at HI2 ⊢
      clear hW2 l0 l1 l2 l3 m0 m1 m2 m3
      obtain ⟨z0,z1,z2,z3,f0,f1,f2,f3⟩:=HI2.out.cells (show j<c by omega)
      obtain ⟨y0,y1,y2,y3,g0,g1,g2,g3⟩:=HI2.out.cells (show p<c by omega)
      rw [← HX.out] at z0 z1 z2 z3
      rw [← HY.out] at y0 y1 y2 y3
      have HS2:=Lib.hid (HST.out W2 HI2.out)
      unfold setIv at HS2
      go_region
      go_wp2
      go_roundw
      case rel=>exact ⟨p,sw F j p,by have:=HHP.out;omega,by have:=HHP.out;omega,by go_num,HS2,HBS,HJS⟩
      case measure=>have:=HHP.out;simp [intOf];omega
     ·have gz:decide (z<0)=false:=decide_eq_false (by omega)
      have HST:Hid (insN kyF a (i+1-(a+1)) G=F):=Lib.hid (by
       rw [HT.out,← HJ.out,show j=p+1 by omega]
       unfold insJ
       rw [if_neg]
       rintro ⟨_,h2⟩
       refine hlv ?_
       rw [HX.out,HY.out,show j=p+1 by omega]
       exact h2)
      clear hz hlv hp
      go_wp2_with fail
      go_quiet_grown (first | (go_at_call 26;refine Calls.grown_of (HCM.out _ _)))
      go_wp2
      go_roundw
      case rel=>exact ⟨i+1,by omega,by omega,by go_num,Lib.hid (by rw [HST.out];exact HI.out.grown nq osq)⟩
      case measure=>simp [intOf];omega
    ·have HST:Hid (insN kyF a (i+1-(a+1)) G=F):=Lib.hid (by
      rw [HT.out,← HJ.out]
      cases j with
      | zero=>rfl
      | succ j =>
       unfold insJ
       rw [if_neg]
       omega)
     have gja:decide (a<j)=false:=decide_eq_false (by omega)
     have gja2:decide ((j:Int) > (a:Int))=false:=decide_eq_false (by omega)
     have gja3:decide ((a:Int)<(j:Int))=false:=decide_eq_false (by omega)
     go_wp2_with fail
     go_quiet (fail)
     go_wp2
     go_roundw
     case rel=>exact ⟨i+1,by omega,by omega,by go_num,Lib.hid (by rw [HST.out];exact HI.out.dn _)⟩
     case measure=>simp [intOf];omega
  ·have HE:Hid (insN kyF a (i-(a+1)) G=insS kyF a b G):=Lib.hid (by
    unfold insS
    rw [show i-(a+1)=b-(a+1) by omega])
   rw [HE.out] at HI
   go_wp2
   first | go_end0 | go_ret
   exact ⟨rfl,HI.out⟩
end Go.Proofs.YtedmcfaghfgpoaaGreatDoor
