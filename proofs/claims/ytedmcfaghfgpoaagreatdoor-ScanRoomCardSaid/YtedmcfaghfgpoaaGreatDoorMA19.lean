/-
  Texts of one seat, one behind the other: JDel, JAg, JFi.
-/
import Derived.Test.YtedmcfaghfgpoaaGreatDoorMA15
import Derived.Test.YtedmcfaghfgpoaaGreatDoorMA18

set_option linter.unusedVariables false
set_option linter.unusedSimpArgs false
set_option maxRecDepth 100000
set_option maxHeartbeats 51200000
namespace Go.Proofs.YtedmcfaghfgpoaaGreatDoor
open Go.ChangeShapes Go.WideShapes Go.ChangeAt Go.RowKit
def DelPost2 (R m:Nat) (g:Nat→Iv) (w:World) (e:Ending) (w':World):Prop :=
 ∃ (n:Nat) (G:Nat→Iv),e=.returned (.slice (some ⟨R,0,none⟩) n m)∧n=(keptK g m).length∧Blk w' R 56 (ivA m G)∧(∀ p,p<n→(keptK g m)[p]?=some (G p))∧KpB w w' R∧∀ p,n≤p→p<m→G p=ivZ
theorem delete_iv2 (R m : Nat) (g : Nat → Iv) (w : World) (h : Blk w R 56 (ivA m g)) (hm : m ≤ 5000) :
    Calls Tryz.prog 49 #[.slice (some ⟨R, 0, none⟩) m m, .func (.func 50) #[] #[]] w (DelPost2 R m g w) := by
  have H := lh h
  have HIX := lh (index_iv R m m g w h hm)
  clear h
  go_enter Tryz.func49, Tryz.ntmps49
  go_upto_region 2 with (go_at_call 73; refine HIX.out.mono ?_; rintro e w2 ⟨z, rfl, hb2, hz⟩; have HB2 := lh hb2; have HZ := lh hz; clear hb2 hz)
  rcases HZ.out with ⟨rfl, hall⟩ | ⟨i, rfl, him, hif, hlo⟩
  · have HA : Hid (keptK g m = (List.range m).map g) := lh (keptK_all hall)
    clear hall HZ
    go_wp2
    go_ret
    exact ⟨m, g, rfl, by rw [HA.out]; simp, H.out.below HB2.out H.out.lt, fun p hp => by rw [HA.out]; exact range_at g hp, KpB.of_below R HB2.out, fun p h1 h2 => by omega⟩
  · have HD0 : Hid (DelI w R m i (i + 1) g g w2) := lh (by
      have e : keptK g (i + 1) = (List.range i).map g := by rw [keptK_succ, if_pos hif, List.append_nil, keptK_all hlo]
      exact ⟨H.out.below HB2.out H.out.lt, KpB.of_below R HB2.out, by rw [e]; simp, fun p hp => by rw [e]; exact range_at g hp, fun p _ _ => rfl, by omega⟩)
    have hi1 : ((i : Int) == -1) = false := by simp
    clear hif hlo HZ
    go_wp2
    go_loopw [5, 6] (fun s t wr => ∃ (i j : Nat) (G : Nat → Iv), j ≤ m ∧ s = .int .i64 i ∧ t = .int .i64 j ∧ Hid (DelI w R m i j g G wr)) (fun _ t _ => m - (intOf t).toNat)
    case atStart => exact ⟨i, i + 1, g, by omega, rfl, by go_num, HD0⟩
    case round =>
      clear HD0
      obtain ⟨i, j, G, hj, rfl, rfl, HD⟩ := hrel
      have hij := HD.out.lt
      by_cases hlt : j < m
      · have hGj := HD.out.high j (Nat.le_refl _) hlt
        have z0 : wr.cell? ⟨R, j * 4, none⟩ = some (.int .i64 (g j).p) := by rw [HD.out.row.cell, ← hGj]; exact ivA_at (j := 0) _ hlt (by decide)
        have z1 : wr.cell? ⟨R, j * 4 + 1, none⟩ = some (.int .i64 (g j).f) := by rw [HD.out.row.cell, ← hGj, ivA_at _ hlt (by decide)]; rfl
        have z2 : wr.cell? ⟨R, j * 4 + 2, none⟩ = some (.int .i64 (g j).t) := by rw [HD.out.row.cell, ← hGj, ivA_at _ hlt (by decide)]; rfl
        have z3 : wr.cell? ⟨R, j * 4 + 3, none⟩ = some (.bool (g j).h) := by rw [HD.out.row.cell, ← hGj, ivA_at _ hlt (by decide)]; rfl
        have hbA : Below wr.heap.size wr (wr.alloc (.cells #[.int .i64 (g j).p, .int .i64 (g j).f, .int .i64 (g j).t, .bool (g j).h] 56)) := (Below.refl _ _).alloc (Nat.le_refl _) _
        have HBX := lh (Blk.new wr 56 #[.int .i64 (g j).p, .int .i64 (g j).f, .int .i64 (g j).t, .bool (g j).h])
        have HBA := lh hbA
        have HRL := lh HD.out.row.lt
        clear hbA hGj
        have HU := lh (unused_any (g j) (wr.alloc (.cells #[.int .i64 (g j).p, .int .i64 (g j).f, .int .i64 (g j).t, .bool (g j).h] 56)))
        by_cases hf : (g j).f = -1
        · have g1 : ((g j).f == -1) = true := by rw [hf]; rfl
          rw [g1] at HU
          have HFK := lh hf
          clear hf g1
          go_wp2_with (go_at_call 50; refine HU.out.mono ?_; rintro e w3 ⟨rfl, hb3⟩; have HB3 := lh (HBA.out.trans (hb3.mono HBA.out.size)); clear hb3)
          go_roundw
          case rel => exact ⟨i, j + 1, G, by omega, rfl, by go_num, lh (HD.out.skip HB3.out HFK.out)⟩
          case measure => simp [intOf]; omega
        · have g1 : ((g j).f == -1) = false := by simpa using hf
          rw [g1] at HU
          have HFK := lh hf
          clear hf g1
          go_wp2_with (go_at_call 50; refine HU.out.mono ?_; rintro e w3 ⟨rfl, hb3⟩; have HB3 := lh (HBA.out.trans (hb3.mono HBA.out.size)); have HBX3 := lh (HBX.out.below hb3 HBX.out.lt); have HR3 := lh (HD.out.row.below HB3.out HRL.out); have q0 : w3.cell? ⟨wr.heap.size, 0, none⟩ = some (.int .i64 (g j).p) := HBX3.out.cell 0; have q1 : w3.cell? ⟨wr.heap.size, 1, none⟩ = some (.int .i64 (g j).f) := HBX3.out.cell 1; have q2 : w3.cell? ⟨wr.heap.size, 2, none⟩ = some (.int .i64 (g j).t) := HBX3.out.cell 2; have q3 : w3.cell? ⟨wr.heap.size, 3, none⟩ = some (.bool (g j).h) := HBX3.out.cell 3; have him : i < m := by omega
                       have r0 : w3.cell? ⟨R, i * 4, none⟩ = some (ivX (G i) 0) := by rw [HR3.out.cell]; exact ivA_at (j := 0) _ him (by decide)
                       have r1 : w3.cell? ⟨R, i * 4 + 1, none⟩ = some (ivX (G i) 1) := by rw [HR3.out.cell, ivA_at _ him (by decide)]
                       have r2 : w3.cell? ⟨R, i * 4 + 2, none⟩ = some (ivX (G i) 2) := by rw [HR3.out.cell, ivA_at _ him (by decide)]
                       have r3 : w3.cell? ⟨R, i * 4 + 3, none⟩ = some (ivX (G i) 3) := by rw [HR3.out.cell, ivA_at _ him (by decide)]
                       have e0 : w3.frozen? ⟨R, i * 4, none⟩ = false := HR3.out.frozen _
                       have e1 : w3.frozen? ⟨R, i * 4 + 1, none⟩ = false := HR3.out.frozen _
                       have e2 : w3.frozen? ⟨R, i * 4 + 2, none⟩ = false := HR3.out.frozen _
                       have e3 : w3.frozen? ⟨R, i * 4 + 3, none⟩ = false := HR3.out.frozen _
                       clear hb3)
          go_roundw
          case rel => exact ⟨i + 1, j + 1, _, by omega, by go_num, by go_num, lh (HD.out.keep HB3.out HFK.out)⟩
          case measure => simp [intOf]; omega
      · have hjm : j = m := by omega
        have him : i < m := by omega
        obtain ⟨W2, hcl, hblk, hkp⟩ := clear_iv wr R m i G him HD.out.row
        have HBL := lh hblk
        have HKP := lh hkp
        rw [hjm] at HD
        have hne : ¬ (m = i) := by omega
        clear hblk hkp hjm
        go_wp2
        go_ret
        refine ⟨i, ivClr G i, rfl, HD.out.cnt.symm, HBL.out, fun p hp => ?_, HD.out.kp.trans HKP.out, fun p h1 _ => if_neg (by omega)⟩
        unfold ivClr
        rw [if_pos hp]
        exact HD.out.low p hp
def SoPost2 (ns:List Nd) (ps l:List Int) (m:Nat) (w:World) (e:Ending) (w':World):Prop :=
 ∃ (R n:Nat) (G:Nat→Iv),e=.returned (.slice (some ⟨R,0,none⟩) n m)∧w.heap.size≤R∧n=(spansL ns ps l m).length∧Blk w' R 56 (ivA m G)∧(∀ p,p<n→(spansL ns ps l m)[p]?=some (G p))∧(∀ p,n≤p→p<m→G p=ivZ)∧Below w.heap.size w w'
theorem spansOf_any2 (B:Nat) (po ko io no lA:Option Addr) (nP pc m kc nI ic n nc nl lc:Nat) (cells keep entry:Int) (res:Bool) (rn:List RN) (ps l:List Int) (O1 O2 b1 b2:Nat) (vs1 vs2:Nat→Value) (w:World)
  (hN:RdNs w B no n rn) (hP:Reads w B 1 po nP (i64c ps)) (hpl:ps.length=nP) (hpin:∀ x ∈ ps,0≤x∧x<(m:Int)) (hp4:nP≤4) (hL:Reads w w.heap.size 1 lA nl (i64c l)) (hlin:∀ x ∈ l,∃ k:Nat,x=k∧k<n) (hll:l.length=nl) (hln:nl≤4096) (h0:0<nl)
  (h1:RdL w b1 O1 n vs1 (liveL (nds rn) m)) (h2:RdL w b2 O2 n vs2 (liveOL (nds rn) m)) (hB:B≤w.heap.size) (hn:n≤4096) (hm:m≤1024) (hwr:∀ nd ∈ nds rn,∀ x ∈ writesOf nd,0≤x∧x<(m:Int)) :
  Calls Tryz.prog 24 #[.agg #[.slice po nP pc,.slice ko m kc,.int .i64 cells,.slice io nI ic,.bool res,.int .i64 keep,.slice no n nc,.int .i64 entry],.slice lA nl lc,.slice (some ⟨O1,0,none⟩) n n,.slice (some ⟨O2,0,none⟩) n n] w (SoPost2 (nds rn) ps l m w):=by
 have hmk:∀ W:World,(Instr.makeSlice 48 (.int .i64 m) (.int .i64 m)).run Tryz.prog W=.ok (.slice (some ⟨W.heap.size,0,none⟩) m m) (W.alloc (.cells (ivA m fun _=>⟨0,0,0,false⟩) 56)):=fun W=>make_iv m (by omega) W
 have HN:=lh hN
 have HP:=lh hP
 have HPL:=lh hpl
 have HPI:=lh hpin
 have HL:=lh hL
 have HLI:=lh hlin
 have HLL:=lh hll
 have H1:=lh h1
 have H2:=lh h2
 have HWR:=lh hwr
 obtain ⟨cs,hcs⟩:∃ cs:Array Value,cs=#[.slice po nP pc,.slice ko m kc,.int .i64 cells,.slice io nI ic,.bool res,.int .i64 keep,.slice no n nc,.int .i64 entry]:=⟨_,rfl⟩
 have HS0:=lh (SoI.start w m cs)
 have HGC:Hid (∀ W,Blk W w.heap.size 35 cs→W.cell? ⟨w.heap.size,0,none⟩=some (.slice po nP pc)∧W.cell? ⟨w.heap.size,6,none⟩=some (.slice no n nc)):=lh fun W h=>by
  rw [hcs] at h
  exact ⟨h.cell 0,h.cell 6⟩
 clear hN hP hpl hpin hL hlin hll h1 h2 hwr
 obtain ⟨W1,hW1⟩:∃ W1,W1=(((w.alloc (.cells cs 35)).alloc (.cells (ivA m fun _=>⟨0,0,0,false⟩) 56)).alloc (.cells #[.slice (some ⟨w.heap.size+1,0,none⟩) m m] 48)):=⟨_,rfl⟩
 rw [← hW1] at HS0
 rw [hcs] at hW1
 go_enter Tryz.func24,Tryz.ntmps24
 go_upto_region 2 with fail
 rw [← hW1]
 clear hW1 hmk
 obtain ⟨R,hR⟩:∃ R,R=w.heap.size+1:=⟨_,rfl⟩
 obtain ⟨b,hbb⟩:∃ b,b=R+1:=⟨_,rfl⟩
 rw [← hR] at HS0 ⊢
 rw [← hbb] at HS0 ⊢
 clear hR hbb
 have x0:W1.cell? ⟨b,0,none⟩=some (.slice (some ⟨R,0,none⟩) m m):=HS0.out.box.cell 0
 go_wp2
 clear x0
 go_loopw [24] (fun s wr=>∃ k:Nat,k≤m∧s=.int .i64 k∧Hid (SoI w w.heap.size b R m cs (ivBeg k) wr)) (fun s _=>m-(intOf s).toNat)
 case atStart=>exact ⟨0,by omega,rfl,lh (HS0.out.congr fun p _=>by unfold ivBeg;rw [if_neg (by omega)])⟩
 case round =>
  clear HS0
  obtain ⟨k,hk,rfl,HI⟩:=hrel
  have y0:wr.cell? ⟨b,0,none⟩=some (.slice (some ⟨R,0,none⟩) m m):=HI.out.box.cell 0
  by_cases hlt:k<m
  ·have z0:wr.cell? ⟨R,k*4,none⟩=some (ivX (ivBeg k k) 0):=by rw [HI.out.row.cell];exact ivA_at (j:=0) _ hlt (by decide)
   have z1:wr.cell? ⟨R,k*4+1,none⟩=some (ivX (ivBeg k k) 1):=by rw [HI.out.row.cell,ivA_at _ hlt (by decide)]
   have z2:wr.cell? ⟨R,k*4+2,none⟩=some (ivX (ivBeg k k) 2):=by rw [HI.out.row.cell,ivA_at _ hlt (by decide)]
   have z3:wr.cell? ⟨R,k*4+3,none⟩=some (ivX (ivBeg k k) 3):=by rw [HI.out.row.cell,ivA_at _ hlt (by decide)]
   have e0:wr.frozen? ⟨R,k*4,none⟩=false:=HI.out.row.frozen _
   have e1:wr.frozen? ⟨R,k*4+1,none⟩=false:=HI.out.row.frozen _
   have e2:wr.frozen? ⟨R,k*4+2,none⟩=false:=HI.out.row.frozen _
   have e3:wr.frozen? ⟨R,k*4+3,none⟩=false:=HI.out.row.frozen _
   go_wp2
   go_roundw
   case rel=>exact ⟨k+1,by omega,by go_num,lh HI.out.init⟩
   case measure=>simp [intOf];omega
  ·obtain ⟨wo,hwo⟩:∃ wo,wo=wr:=⟨_,rfl⟩
   rw [← hwo] at HI y0 ⊢
   clear hwo
   have hkm:k=m:=by omega
   rw [hkm] at HI
   have HB0:Hid (SoI w w.heap.size b R m cs (fun p=>⟨p,-1,0,false⟩) wo):=lh (HI.out.congr fun p hp=>by unfold ivBeg;rw [if_pos hp])
   have hwoz:=HB0.out.below.size
   have yp:wo.cell? ⟨w.heap.size,0,none⟩=some (.slice po nP pc):=(HGC.out wo HB0.out.gr).1
   have HRC:=lh (record_any w.heap.size b R m 0 nP pc po (fun p=>⟨p,-1,0,false⟩) ps wo HB0.out.box HB0.out.row (fun W hk=>((HP.out.below (HB0.out.below.mono hB)).below (hk.out B (by omega) (by have:=HB0.out.lt;omega))).more hB) HPL.out HPI.out (by omega) (by omega))
   clear hkm hk HI
   go_wp2_with (go_at_call 46;refine HRC.out.mono ?_;rintro e w2 ⟨rfl,hr2,hk2⟩;have HI2:=lh (HB0.out.kp hk2 hr2);clear hr2 hk2)
   have HB2:Hid (SoI w w.heap.size b R m cs (fun p=>ivC (nds rn) ps l p 0) w2):=lh (HI2.out.congr fun p hp=>(ivC_start _ _ _ p).symm)
   clear HRC HB0 yp y0 hwoz HI2
   go_loopw [40] (fun s wr=>∃ k:Nat,k≤nl∧s=.int .i64 k∧Hid (SoI w w.heap.size b R m cs (fun p=>ivC (nds rn) ps l p k) wr)) (fun s _=>nl-(intOf s).toNat)
   case atStart=>exact ⟨0,by omega,rfl,HB2⟩
   case round =>
    clear HB2
    obtain ⟨k,hk,rfl,HI⟩:=hrel
    by_cases hkl:k<nl
    ·obtain ⟨bx,ox,x,hxe,hbx,HXX,x1⟩:=(HL.out.below HI.out.below).int hkl
     obtain ⟨i,rfl,hi⟩:=HLI.out x (List.mem_of_getElem? HXX.out)
     have hwz:=HI.out.below.size
     have HAT:Hid (atL l k=i):=lh (by unfold atL;rw [List.getD_eq_getElem?_getD,HXX.out];simp)
     obtain ⟨bn,on,nd,hno,hbn,HXI,HRN1,HWI,u0,u1,u2,u3,u4,u5,u6,u7,u8,u9,u10,u11⟩:=(HN.out.below (HI.out.below.mono hB)).nd hi
     have HXN:Hid ((nds rn)[i]?=some nd.nd):=lh (by unfold nds;rw [List.getElem?_map,HXI.out];rfl)
     have hbnr:bn<wr.heap.size:=by omega
     have y6:wr.cell? ⟨w.heap.size,6,none⟩=some (.slice no n nc):=(HGC.out wr HI.out.gr).2
     rw [hno] at y6
     have hbA:Below wr.heap.size wr (wr.alloc (.cells #[.int .u8 nd.nd.op,.int .u8 nd.nd.bop,.int .i64 nd.nd.d,.int .i64 nd.nd.e,.int .i64 nd.nd.a,.int .i64 nd.nd.b,.int .i64 nd.nd.f,.int .i64 nd.nd.cell,.int .u64 nd.nd.imm,.slice nd.ao nd.nd.args.length nd.ac,.int .i64 nd.nd.next,.int .i64 nd.nd.els] 47)):=(Below.refl _ _).alloc (Nat.le_refl _) _
     have HBA:=lh hbA
     have HNB:=lh (Blk.new wr 47 #[.int .u8 nd.nd.op,.int .u8 nd.nd.bop,.int .i64 nd.nd.d,.int .i64 nd.nd.e,.int .i64 nd.nd.a,.int .i64 nd.nd.b,.int .i64 nd.nd.f,.int .i64 nd.nd.cell,.int .u64 nd.nd.imm,.slice nd.ao nd.nd.args.length nd.ac,.int .i64 nd.nd.next,.int .i64 nd.nd.els])
     obtain ⟨wA,hwA⟩:∃ wA,wA=wr.alloc (.cells #[.int .u8 nd.nd.op,.int .u8 nd.nd.bop,.int .i64 nd.nd.d,.int .i64 nd.nd.e,.int .i64 nd.nd.a,.int .i64 nd.nd.b,.int .i64 nd.nd.f,.int .i64 nd.nd.cell,.int .u64 nd.nd.imm,.slice nd.ao nd.nd.args.length nd.ac,.int .i64 nd.nd.next,.int .i64 nd.nd.els] 47):=⟨_,rfl⟩
     rw [← hwA] at hbA HBA HNB
     have HIA:=lh (HI.out.on hbA)
     have hAz:=HIA.out.below.size
     have HWX:=lh (writes_own B nd.nd.op nd.nd.bop nd.nd.d nd.nd.e nd.nd.a nd.nd.b nd.nd.f nd.nd.cell nd.nd.imm nd.nd.args nd.nd.next nd.nd.els nd.ao nd.nd.args.length nd.ac wA HWI.out.o0 HWI.out.o1 HWI.out.d HWI.out.e HWI.out.a HWI.out.b HWI.out.next HWI.out.els (HRN1.out.args.below (hbA.mono (by omega))) rfl HWI.out.args HWI.out.al HRN1.out.cap (by omega))
     obtain ⟨ws,hws⟩:∃ ws,ws=writesOf ⟨nd.nd.op,nd.nd.bop,nd.nd.d,nd.nd.e,nd.nd.a,nd.nd.b,nd.nd.f,nd.nd.cell,nd.nd.imm,nd.nd.args,nd.nd.next,nd.nd.els⟩:=⟨_,rfl⟩
     rw [← hws] at HWX
     have HWS:Hid (ws=writesOf nd.nd):=lh hws
     have HWIN:Hid (∀ x ∈ ws,0≤x∧x<(m:Int)):=lh (by rw [HWS.out];exact HWR.out _ (List.mem_of_getElem? HXN.out))
     have hw2:ws.length≤2:=by rw [hws];exact llens _
     have v0:wA.cell? ⟨wr.heap.size,0,none⟩=some (.int .u8 nd.nd.op):=HNB.out.cell 0
     have v1:wA.cell? ⟨wr.heap.size,1,none⟩=some (.int .u8 nd.nd.bop):=HNB.out.cell 1
     have v2:wA.cell? ⟨wr.heap.size,2,none⟩=some (.int .i64 nd.nd.d):=HNB.out.cell 2
     have v3:wA.cell? ⟨wr.heap.size,3,none⟩=some (.int .i64 nd.nd.e):=HNB.out.cell 3
     have v4:wA.cell? ⟨wr.heap.size,4,none⟩=some (.int .i64 nd.nd.a):=HNB.out.cell 4
     have v5:wA.cell? ⟨wr.heap.size,5,none⟩=some (.int .i64 nd.nd.b):=HNB.out.cell 5
     have v6:wA.cell? ⟨wr.heap.size,6,none⟩=some (.int .i64 nd.nd.f):=HNB.out.cell 6
     have v7:wA.cell? ⟨wr.heap.size,7,none⟩=some (.int .i64 nd.nd.cell):=HNB.out.cell 7
     have v8:wA.cell? ⟨wr.heap.size,8,none⟩=some (.int .u64 nd.nd.imm):=HNB.out.cell 8
     have v9:wA.cell? ⟨wr.heap.size,9,none⟩=some (.slice nd.ao nd.nd.args.length nd.ac):=HNB.out.cell 9
     have v10:wA.cell? ⟨wr.heap.size,10,none⟩=some (.int .i64 nd.nd.next):=HNB.out.cell 10
     have v11:wA.cell? ⟨wr.heap.size,11,none⟩=some (.int .i64 nd.nd.els):=HNB.out.cell 11
     rw [hxe]
     clear hxe hws hbA hno
     obtain ⟨q,hq⟩:∃ q,q=wr.heap.size:=⟨_,rfl⟩
     go_upto_region 13 with fail
     rw [← hwA]
     rw [← hq] at HNB v0 v1 v2 v3 v4 v5 v6 v7 v8 v9 v10 v11 HBA hbnr ⊢
     clear hwA hq u0 u1 u2 u3 u4 u5 u6 u7 u8 u9 u10 u11 x1 y6 HI HRN1
     obtain ⟨A1,c1,hs1⟩:=own_slice (H1.out.own i hi)
     have HA1:Hid (Reads w w.heap.size 1 A1 (liveL (nds rn) m i).length (i64c (liveL (nds rn) m i))):=lh (by
      have h:=H1.out.own i hi
      rw [hs1] at h
      exact Reads.of_own h)
     obtain ⟨A2,c2,hs2⟩:=own_slice (H2.out.own i hi)
     have HA2:Hid (Reads w w.heap.size 1 A2 (liveOL (nds rn) m i).length (i64c (liveOL (nds rn) m i))):=lh (by
      have h:=H2.out.own i hi
      rw [hs2] at h
      exact Reads.of_own h)
     have HC1:Hid (∀ W,Below w.heap.size w W→W.cell? ⟨O1,i,none⟩=some (.slice A1 (liveL (nds rn) m i).length c1)):=lh fun W hb=>by rw [(H1.out.on hb).row.cell,rowA_at _ hi,hs1]
     have HC2:Hid (∀ W,Below w.heap.size w W→W.cell? ⟨O2,i,none⟩=some (.slice A2 (liveOL (nds rn) m i).length c2)):=lh fun W hb=>by rw [(H2.out.on hb).row.cell,rowA_at _ hi,hs2]
     have hla:=liveL_max (nds rn) m i
     have hlo:=liveOL_max (nds rn) m i
     clear hs1 hs2
     obtain ⟨la,hlae⟩:∃ la,la=liveL (nds rn) m i:=⟨_,rfl⟩
     obtain ⟨lo,hloe⟩:∃ lo,lo=liveOL (nds rn) m i:=⟨_,rfl⟩
     have HLAE:=lh hlae
     have HLOE:=lh hloe
     rw [← hlae] at HA1 HC1 hla
     rw [← hloe] at HA2 HC2 hlo
     obtain ⟨nla,hnla⟩:∃ n,n=la.length:=⟨_,rfl⟩
     obtain ⟨nlo,hnlo⟩:∃ n,n=lo.length:=⟨_,rfl⟩
     obtain ⟨nws,hnws⟩:∃ n,n=ws.length:=⟨_,rfl⟩
     rw [← hnla] at HA1 HC1 hla
     rw [← hnlo] at HA2 HC2 hlo
     have HNLA:=lh hnla.symm
     have HNLO:=lh hnlo.symm
     have HNWS:=lh hnws.symm
     have HLAI:Hid (∀ x ∈ la,0≤x∧x<(m:Int)):=lh (by rw [hlae];exact liveL_in)
     have HLOI:Hid (∀ x ∈ lo,0≤x∧x<(m:Int)):=lh (by rw [hloe];exact liveOL_in)
     rw [← hnws] at hw2
     clear hlae hloe hnla hnlo hnws
     go_upto_region 16 with (first
      | (go_at_call 47;refine HWX.out.mono ?_;rintro e w3 ⟨A3,c3,rfl,ho3,hc3,hb3⟩;rw [HNWS.out] at ho3 hc3 ⊢;have HO3:=lh ho3;have HI3:=lh (HIA.out.on hb3);have HNB3:=lh (HNB.out.below hb3 HNB.out.lt);have t1:=HC1.out w3 HI3.out.below;have HR1:=lh (record_any w.heap.size b R m k nla c1 A1 (fun p=>ivC (nds rn) ps l p k) la w3 HI3.out.box HI3.out.row (fun W hk=>HA1.out.below (HI3.out.below.trans (hk.out w.heap.size HI3.out.below.size HI3.out.lt))) HNLA.out HLAI.out (by omega) (by omega));have HZ3:Hid (R<wA.heap.size):=lh HIA.out.row.lt;clear ho3 hb3)
      | (go_at_call 46;(with_reducible refine HR1.out.mono ?_);rintro e w4 ⟨rfl,hr4,hk4⟩;have HI4:=lh (HI3.out.kp hk4 hr4);have HNB4:=lh (hk4.blk HNB3.out (Blk.ne_ HNB3.out HI3.out.row (by decide)));have HO4:Hid (w4.ownsRow wA.heap.size 3 1 (.slice A3 nws c3) nws (i64c ws)):=lh (own_kept HO3.out fun g hg=>hk4.block g (own_block_le HO3.out hg).2 (by have:=(own_block_le HO3.out hg).1;have:=HZ3.out;omega));have HOK:Hid (∀ W,KpB w4 W R→W.ownsRow wA.heap.size 3 1 (.slice A3 nws c3) nws (i64c ws)):=lh (fun W hk=>own_kept HO4.out fun g hg=>hk.block g (own_block_le HO4.out hg).2 (by have:=(own_block_le HO4.out hg).1;have:=HZ3.out;omega));have HR2:=lh (record_any w4.heap.size b R m k nws c3 A3 _ ws w4 HI4.out.box HI4.out.row (fun W hk=>(Reads.of_own_le (HOK.out W hk) HO4.out)) HNWS.out HWIN.out (by omega) (by omega));clear hr4 hk4)
      | (go_at_call 46;(with_reducible refine HR2.out.mono ?_);rintro e w5 ⟨rfl,hr5,hk5⟩;have HI5:=lh (HI4.out.kp hk5 hr5);have HNB5:=lh (hk5.blk HNB4.out (Blk.ne_ HNB4.out HI4.out.row (by decide)));have HK5:=lh hk5;have s0:w5.cell? ⟨q,0,none⟩=some (.int .u8 nd.nd.op):=HNB5.out.cell 0;have t2:=HC2.out w5 HI5.out.below;clear hr5 hk5))
     have HSTEP:Hid (∀ p,p<m→(if nd.nd.op=11∨nd.nd.op=13 then helL lo ws (recL k ws (recL k la fun p=>ivC (nds rn) ps l p k)) p else recL k ws (recL k la fun p=>ivC (nds rn) ps l p k) p)=ivC (nds rn) ps l p (k+1)):=lh fun p hp=>by
      rw [HWS.out]
      refine ivC_step (by rw [HAT.out];exact HXN.out) (by rw [HLL.out];exact hkl) (fun p hp=>?_) (fun p hp=>?_) p hp
      ·rw [HLAE.out,HAT.out];exact liveN_mem p hp
      ·rw [HLOE.out,HAT.out];exact liveON_mem p hp
     clear HWX HIA HNB HC1 HR1 HR2 HI3 HI4 HNB3 HNB4 t1 v0 v1 v2 v3 v4 v5 v6 v7 v8 v9 v10 v11 HBA HA1
     by_cases hop:nd.nd.op=11∨nd.nd.op=13
     ·have HSY:Hid (∀ p,p<m→helL lo ws (recL k ws (recL k la fun p=>ivC (nds rn) ps l p k)) p=ivC (nds rn) ps l p (k+1)):=lh fun p hp=>by
       have h:=HSTEP.out p hp
       rw [if_pos hop] at h
       exact h
      have gop:(nd.nd.op != 11)=false∨(nd.nd.op != 11)=true∧(nd.nd.op != 13)=false:=by
       rcases hop with h | h
       ·exact .inl (by rw [h];rfl)
       ·exact .inr ⟨by rw [h];rfl,by rw [h];rfl⟩
      clear hop HSTEP
      rcases gop with g11 | ⟨g11,g13⟩
      all_goals
       go_wp2
       clear t2 s0
       go_loopw [76] (fun s wr=>∃ j:Nat,j≤nlo∧s=.int .i64 j∧Hid (SoI w w.heap.size b R m cs (helL (lo.take j) ws (recL k ws (recL k la fun p=>ivC (nds rn) ps l p k))) wr)∧Hid (KpB w4 wr R)) (fun s _=>nlo-(intOf s).toNat)
       case atStart=>exact ⟨0,by omega,rfl,by rw [List.take_zero,helL_nil];exact HI5,HK5⟩
       case round =>
        clear HI5 HK5
        obtain ⟨j,hj,rfl,HI,HK⟩:=hrel
        by_cases hjl:j<nlo
        ·obtain ⟨by2,oy,y,hye,hby,HYY,y1⟩:=(HA2.out.below HI.out.below).int hjl
         obtain ⟨hy0,hy1⟩:=HLOI.out y (List.mem_of_getElem? HYY.out)
         obtain ⟨z,rfl⟩:∃ z:Nat,y=(z:Int):=⟨y.toNat,by omega⟩
         have hzm:z<m:=by omega
         have HCT:=lh (contains_eq w4.heap.size A3 nws c3 ws z wr (Reads.of_own_le (HOK.out wr HK.out) HO4.out) HNWS.out (by omega))
         have HTK:Hid (lo.take (j+1)=lo.take j ++ [(z:Int)]):=lh (take_at HYY.out)
         rw [hye]
         clear hye hy0 hy1
         by_cases hzw:(z:Int) ∈ ws
         ·have HD:Hid (decide ((z:Int) ∈ ws)=true):=lh (decide_eq_true hzw)
          have HSK:Hid (helL (lo.take (j+1)) ws (recL k ws (recL k la fun p=>ivC (nds rn) ps l p k))=helL (lo.take j) ws (recL k ws (recL k la fun p=>ivC (nds rn) ps l p k))):=lh (by rw [HTK.out,helL_skip hzw])
          rw [HD.out] at HCT
          clear hzw
          go_wp2_with (go_at_call 48;refine HCT.out.mono ?_;rintro e w6 ⟨rfl,hw6⟩;rw [hw6];clear hw6)
          go_roundw
          case rel=>exact ⟨j+1,by omega,by go_num,by rw [HSK.out];exact HI,HK⟩
          case measure=>simp [intOf];omega
         ·have HD:Hid (decide ((z:Int) ∈ ws)=false):=lh (decide_eq_false hzw)
          obtain ⟨G,hG⟩:∃ G,G=helL (lo.take j) ws (recL k ws (recL k la fun p=>ivC (nds rn) ps l p k)):=⟨_,rfl⟩
          have HSK:Hid (helL (lo.take (j+1)) ws (recL k ws (recL k la fun p=>ivC (nds rn) ps l p k))=upd G z ⟨(G z).p,(G z).f,(G z).t,true⟩):=lh (by
           rw [HTK.out,helL_add hzw,← hG]
           funext p
           unfold upd
           by_cases e:p=z
           ·subst e;simp
           ·rw [if_neg e,if_neg e])
          rw [← hG] at HI
          rw [HD.out] at HCT
          have b0:wr.cell? ⟨b,0,none⟩=some (.slice (some ⟨R,0,none⟩) m m):=HI.out.box.cell 0
          have r3:wr.cell? ⟨R,z*4+3,none⟩=some (.bool (G z).h):=by rw [HI.out.row.cell,ivA_at _ hzm (by decide)];rfl
          have e3:wr.frozen? ⟨R,z*4+3,none⟩=false:=HI.out.row.frozen _
          have HNW:Hid (SoI w w.heap.size b R m cs (upd G z ⟨(G z).p,(G z).f,(G z).t,true⟩) (wr.setCell ⟨R,z*4+3,none⟩ (.bool true))):=lh (HI.out.kp ((KpB.refl _ _).set _ _) (by
           have h:=HI.out.row.set_ (z*4+3) (.bool true)
           rw [ivA_h] at h
           exact h))
          have HNK:Hid (KpB w4 (wr.setCell ⟨R,z*4+3,none⟩ (.bool true)) R):=lh (HK.out.set _ _)
          clear hzw hG
          go_wp2_with (go_at_call 48;refine HCT.out.mono ?_;rintro e w6 ⟨rfl,hw6⟩;rw [hw6];clear hw6)
          go_roundw
          case rel=>exact ⟨j+1,by omega,by go_num,by rw [HSK.out];exact HNW,HNK⟩
          case measure=>simp [intOf];omega
        ·have hjn:j=nlo:=by omega
         have HFIN:Hid (SoI w w.heap.size b R m cs (fun p=>ivC (nds rn) ps l p (k+1)) wr):=lh (HI.out.congr fun p hp=>by
          rw [List.take_of_length_le (by rw [HNLO.out];omega)]
          exact HSY.out p hp)
         go_wp2
         go_roundw
         case rel=>exact ⟨k+1,by omega,by go_num,HFIN⟩
         case measure=>simp [intOf];omega
     ·have HFIN:Hid (SoI w w.heap.size b R m cs (fun p=>ivC (nds rn) ps l p (k+1)) w5):=lh (HI5.out.congr fun p hp=>by
       have h:=HSTEP.out p hp
       rw [if_neg hop] at h
       exact h)
      have g11:(nd.nd.op != 11)=true:=by simp;omega
      have g13:(nd.nd.op != 13)=true:=by simp;omega
      clear hop HSTEP
      go_wp2
      go_roundw
      case rel=>exact ⟨k+1,by omega,by go_num,HFIN⟩
      case measure=>simp [intOf];omega
    ·have hkn:k=nl:=by omega
     rw [hkn] at HI
     have HE:Hid (SoI w w.heap.size b R m cs (fun p=>ivK (nds rn) ps l (p:Int) l.length) wr):=lh (HI.out.congr fun p hp=>by rw [← HLL.out];exact ivC_end (by rw [HLL.out];omega))
     have HDEL:=lh (delete_iv2 R m (fun p=>ivK (nds rn) ps l (p:Int) l.length) wr HE.out.row (by omega))
     have b0:wr.cell? ⟨b,0,none⟩=some (.slice (some ⟨R,0,none⟩) m m):=HI.out.box.cell 0
     go_wp2_with (go_at_call 49;refine HDEL.out.mono ?_;rintro e w6 ⟨nn,G,rfl,hnn,hg6,hp6,hk6,ht6⟩;have HT6:=lh ht6;have HNN:=lh hnn;have HG6:=lh hg6;have HP6:=lh hp6;have HK6:=lh hk6;clear hnn hg6 hp6 hk6 ht6)
     go_ret
     rw [spans_kept] at HNN HP6
     exact ⟨R,nn,G,rfl,HE.out.lt,HNN.out,HG6.out,HP6.out,HT6.out,HE.out.below.trans (HK6.out.out w.heap.size HE.out.below.size HE.out.lt)⟩
noncomputable def spF (g:Gr):Nat→Iv:=fun p=>(spansG g).getD p ivZ
theorem blk_sp {w:World} {R m n:Nat} {G:Nat→Iv} {sp:List Iv} (hn:n=sp.length) (hb:Blk w R 56 (ivA m G)) (hp:∀ p,p<n→sp[p]?=some (G p)) (ht:∀ p,n≤p→p<m→G p=ivZ):Blk w R 56 (ivA m fun p=>sp.getD p ivZ):=by
 rw [ivA_congr (g':=G)]
 ·exact hb
 ·intro p hpm
  rw [List.getD_eq_getElem?_getD]
  by_cases h:p<n
  ·rw [hp p h];rfl
  ·rw [List.getElem?_eq_none (by omega),ht p (by omega) hpm];rfl
def SpPost2 (gs:List Gr) (f:Int) (w:World) (e:Ending) (w':World):Prop :=
 Below w.heap.size w w'∧∃ (A:Option Addr) (n c:Nat),e=.returned (.tuple #[.slice A n c,.int .i64 (chkL gs f)])∧(chkL gs f≠0→A=none∧n=0∧c=0) ∧
  (chkL gs f=0→∃ g R,gs[f.toNat]?=some g∧A=some ⟨R,0,none⟩∧w.heap.size≤R∧c=g.kinds.length∧n=(spansG g).length∧Blk w' R 56 (ivA c (spF g)))
theorem spans_any2 (B:Nat) (fo:Option Addr) (nF cF:Nat) (rs:List RG) (f:Int) (w:World) (h:RdP w B fo nF rs) (hB:B≤w.heap.size) (hT:TzTab w) :
  Calls Tryz.prog 14 #[.agg #[.slice fo nF cF],.int .i64 f] w (SpPost2 (grs rs) f w):=by
 have HBL:Hid (Below w.heap.size w (w.alloc (.cells #[.slice fo nF cF] 24))):=(Below.refl _ _).alloc (Nat.le_refl _) _
 have HG0:=lh (Blk.new w 24 #[.slice fo nF cF])
 have HZ1:Hid ((w.alloc (.cells #[.slice fo nF cF] 24)).heap.size=w.heap.size+1):=lh (by simp)
 have HLN:=lh (line_any B fo nF cF rs f (w.alloc (.cells #[.slice fo nF cF] 24)) (h.below (HBL.out.mono hB)) (by simp;omega))
 have HG:Hid (∀ W,Below (w.heap.size+1) (w.alloc (.cells #[.slice fo nF cF] 24)) W→W.cell? ⟨w.heap.size,0,none⟩=some (.slice fo nF cF)):=lh fun W hb=>(HG0.out.below hb (by omega)).cell 0
 have H:=lh h
 have HT:=lh hT
 clear h hT
 obtain ⟨z,hz⟩:∃ z,z=chkL (grs rs) f:=⟨_,rfl⟩
 have HZ:=lh hz
 by_cases h0:z=0
 ·subst h0
  obtain ⟨hv,k,rfl,hk⟩:=chk_zero hz.symm
  have hkF:k<nF:=by rw [length_grs,H.out.len] at hk;exact hk
  obtain ⟨b,off,r,hfe,hb,HX,HRG,HWG,x0,x1,x2,x3,x4,x5,x6,x7⟩:=H.out.gr hkF
  have HXG:Hid ((grs rs)[k]?=some r.gr):=lh (by unfold grs;rw [List.getElem?_map,HX.out];rfl)
  have hmem:r.gr ∈ grs rs:=List.mem_of_getElem? HXG.out
  have hsz:=valid_sizes hv hmem
  have hwin:=valid_writes hv hmem
  have hpin:=valid_params hv hmem
  have hlin:=lineG_in hv hmem
  rw [← HRG.out.nd] at hwin
  have HIN:Hid (∀ W,Below w.heap.size w W→Calls Tryz.prog 22 #[.agg #[.slice fo nF cF],.int .i64 k] W (LvPost liveL (grs rs) k W)):=lh fun W hb=>in_live B fo nF cF rs k W (H.out.below (hb.mono hB)) (by have:=hb.size;omega) (HT.out.below hb)
  have HOU:Hid (∀ W,Below w.heap.size w W→Calls Tryz.prog 23 #[.agg #[.slice fo nF cF],.int .i64 k] W (LvPost liveOL (grs rs) k W)):=lh fun W hb=>out_live B fo nF cF rs k W (H.out.below (hb.mono hB)) (by have:=hb.size;omega) (HT.out.below hb)
  have HSO:Hid (∀ (lA:Option Addr) (lc O1 O2 b1 b2:Nat) (vs1 vs2:Nat→Value) (W:World),Below w.heap.size w W→Reads W W.heap.size 1 lA (lineG r.gr).length (i64c (lineG r.gr))→RdL W b1 O1 r.gr.nodes.length vs1 (liveL r.gr.nodes r.gr.kinds.length)→RdL W b2 O2 r.gr.nodes.length vs2 (liveOL r.gr.nodes r.gr.kinds.length) →
    Calls Tryz.prog 24 #[.agg #[.slice r.po r.gr.params.length r.pc,.slice r.ko r.gr.kinds.length r.kc,.int .i64 r.gr.cells,.slice r.io r.gr.init.length r.ic,.bool r.gr.result,.int .i64 r.gr.keep,.slice r.no r.gr.nodes.length r.nc,.int .i64 r.gr.entry],.slice lA (lineG r.gr).length lc,.slice (some ⟨O1,0,none⟩) r.gr.nodes.length r.gr.nodes.length,.slice (some ⟨O2,0,none⟩) r.gr.nodes.length r.gr.nodes.length] W (SoPost2 r.gr.nodes r.gr.params (lineG r.gr) r.gr.kinds.length W)):=lh fun lA lc O1 O2 b1 b2 vs1 vs2 W hbw hL h1 h2=>by
   rw [← HRG.out.nd] at h1 h2 ⊢
   have hnl:(nds r.ns).length=r.gr.nodes.length:=by rw [HRG.out.nd]
   rw [hnl] at h1 h2
   rw [hnl]
   exact spansOf_any2 B r.po r.ko r.io r.no lA r.gr.params.length r.pc r.gr.kinds.length r.kc r.gr.init.length r.ic r.gr.nodes.length r.nc (lineG r.gr).length lc r.gr.cells r.gr.keep r.gr.entry r.gr.result r.ns r.gr.params (lineG r.gr) O1 O2 b1 b2 vs1 vs2 W (HRG.out.nodes.below (hbw.mono hB)) (HRG.out.params.below (hbw.mono hB)) rfl hpin.1 hpin.2 hL hlin.1 rfl hlin.2.1 hlin.2.2 h1 h2 (by have:=hbw.size;omega) hsz.2 hsz.1 hwin
  have HV:=lh hv
  have HCE:Hid (∀ W,Below w.heap.size w W→W.cell? ⟨b,off+k*8,none⟩=some (.slice r.po r.gr.params.length r.pc)∧W.cell? ⟨b,off+k*8+1,none⟩=some (.slice r.ko r.gr.kinds.length r.kc)∧W.cell? ⟨b,off+k*8+2,none⟩=some (.int .i64 r.gr.cells)∧W.cell? ⟨b,off+k*8+3,none⟩=some (.slice r.io r.gr.init.length r.ic)∧W.cell? ⟨b,off+k*8+4,none⟩=some (.bool r.gr.result)∧W.cell? ⟨b,off+k*8+5,none⟩=some (.int .i64 r.gr.keep)∧W.cell? ⟨b,off+k*8+6,none⟩=some (.slice r.no r.gr.nodes.length r.nc)∧W.cell? ⟨b,off+k*8+7,none⟩=some (.int .i64 r.gr.entry)):=lh fun W hbw=>⟨(hbw.cell (p:=⟨b,_,none⟩) (by show b<_;omega)).trans x0,(hbw.cell (p:=⟨b,_,none⟩) (by show b<_;omega)).trans x1,(hbw.cell (p:=⟨b,_,none⟩) (by show b<_;omega)).trans x2,(hbw.cell (p:=⟨b,_,none⟩) (by show b<_;omega)).trans x3,(hbw.cell (p:=⟨b,_,none⟩) (by show b<_;omega)).trans x4,(hbw.cell (p:=⟨b,_,none⟩) (by show b<_;omega)).trans x5,(hbw.cell (p:=⟨b,_,none⟩) (by show b<_;omega)).trans x6,(hbw.cell (p:=⟨b,_,none⟩) (by show b<_;omega)).trans x7⟩
  rw [hfe] at HG0 HBL HLN HIN HOU HG HZ1 H ⊢
  clear hfe x0 x1 x2 x3 x4 x5 x6 x7 hsz hwin hpin hlin hv hmem hk hz
  go_enter Tryz.func14,Tryz.ntmps14
  go_wp2_with (first
   | (go_at_call 21;refine HLN.out.mono ?_;rintro e w1 hl;obtain ⟨hb1,A1,c1,rfl,ho1⟩:=hl.ok HV.out HXG.out;rw [HZ1.out] at hb1;have HB1:=lh hb1;have HW1:=lh (HBL.out.trans (hb1.mono (by omega)));have HO1:=lh ho1;have y1:=HG.out _ hb1;clear hl hb1 ho1)
   | (go_at_call 22;refine (HIN.out _ HW1.out).mono ?_;rintro e w2 hl;obtain ⟨hb2,O2,vs2,rfl,hO2,hr2⟩:=hl.okO HV.out HXG.out;have hb2':=HB1.out.trans (hb2.mono (by have:=HB1.out.size;rw [HZ1.out] at this;exact this));have HB2:=lh hb2';have HW2:=lh (HW1.out.trans (hb2.mono HW1.out.size));have HR2:=lh hr2;have HO2:=lh (own_kept HO1.out fun g hg=>hb2.block g (own_block_le HO1.out hg).2);have y2:=HG.out _ hb2';clear hl hb2 hb2' hr2)
   | (go_at_call 23;refine (HOU.out _ HW2.out).mono ?_;rintro e w3 hl;obtain ⟨hb3,O3,vs3,rfl,hO3,hr3⟩:=hl.okO HV.out HXG.out;have hb3':=HB2.out.trans (hb3.mono (by have:=HB2.out.size;rw [HZ1.out] at this;exact this));have HB3:=lh hb3';have HW3:=lh (HW2.out.trans (hb3.mono HW2.out.size));have HR3:=lh hr3;have HR2c:=lh (HR2.out.on hb3);have HO3:=lh (own_kept HO2.out fun g hg=>hb3.block g (own_block_le HO2.out hg).2);have y3:=HG.out _ hb3';obtain ⟨q0,q1,q2,q3,q4,q5,q6,q7⟩:=HCE.out _ HW3.out;clear hl hb3 hb3' hr3)
   | (go_at_call 24;refine (HSO.out A1 c1 O2 O3 _ _ vs2 vs3 w3 HW3.out (Reads.of_own HO3.out) HR2c.out HR3.out).mono ?_;rintro e w4 ⟨R,nn,G,rfl,hR4,hn4,hb4,hp4,ht4,hbl4⟩;replace hb4:=blk_sp hn4 hb4 hp4 ht4;have HW4:=lh (HW3.out.trans (hbl4.mono HW3.out.size));have HB4:=lh hb4;have HN4:=lh hn4;have HR4:Hid (w.heap.size≤R):=lh (Nat.le_trans HW3.out.size hR4);clear hR4 hn4 hb4 hp4 hbl4))
  go_ret2
  exact ⟨HW4.out,some ⟨R,0,none⟩,nn,r.gr.kinds.length,by rw [← HZ.out];rfl,fun h=>absurd HZ.out.symm h,fun _=>⟨r.gr,R,by rw [Int.toNat_natCast];exact HXG.out,rfl,HR4.out,rfl,HN4.out,HB4.out⟩⟩
 ·have g1:(z != 0)=true:=by simpa using h0
  have H0:=lh h0
  clear h0 hz
  go_enter Tryz.func14,Tryz.ntmps14
  go_wp2_with (go_at_call 21;refine HLN.out.mono ?_;rintro e w1 hl;obtain ⟨hb1,rfl⟩:=hl.bad HZ.out.symm H0.out;rw [HZ1.out] at hb1;have HW1:=lh (HBL.out.trans (hb1.mono (by omega)));clear hl hb1)
  go_ret2
  exact ⟨HW1.out,none,0,0,by rw [← HZ.out];rfl,fun _=>⟨rfl,rfl,rfl⟩,fun h=>absurd (HZ.out.trans h) H0.out⟩
theorem spG_in {gs:List Gr} {g:Gr} (h:valid gs false) (hg:g ∈ gs) {s:Iv} (hs:s ∈ spansG g):(∃ q:Nat,s.p=q∧q<g.kinds.length∧s=ivK g.nodes g.params (lineG g) (q:Int) (lineG g).length)∧0≤s.f∧s.f≤s.t∧s.t<(lineG g).length∧(lineG g).length≤4096:=by
 obtain ⟨p,hp,e,h0⟩:=spansL_mem.1 hs
 have h1:=(lineG_in h hg).2.1
 have h2:=ivK_ok g.nodes g.params (lineG g) (p:Int) (lineG g).length
 rw [← e] at h2
 refine ⟨⟨p,by rw [e,ivK_p],hp,e⟩,?_⟩
 rcases h2 with ⟨h3,_⟩ | ⟨_,h4,h5,_⟩
 ·omega
 ·exact ⟨h0,h4,h5,h1⟩
theorem spF_mem {g:Gr} {i:Nat} (hi:i<(spansG g).length):spF g i ∈ spansG g:=by
 unfold spF
 rw [List.getD_eq_getElem?_getD,List.getElem?_eq_getElem hi]
 exact List.getElem_mem hi
theorem spG_len (g:Gr):(spansG g).length≤g.kinds.length:=spansL_len _ _ _ _
noncomputable def spS (g:Gr):Nat→Iv:=stb kyF (spansG g).length (spF g)
noncomputable def asgG (g:Gr) (q:Nat):Int:=(asRun (kdL g.kinds) (spS g) (spansG g).length).bd q
def AsPost (gs:List Gr) (f:Int) (w:World) (e:Ending) (w':World):Prop :=
 Below w.heap.size w w'∧∃ (A:Option Addr) (n:Nat),e=.returned (.tuple #[.slice A n n,.int .i64 (chkL gs f)])∧(chkL gs f≠0→A=none∧n=0) ∧
  (chkL gs f=0→∃ g b,gs[f.toNat]?=some g∧A=some ⟨b,0,none⟩∧w.heap.size≤b∧n=g.kinds.length∧Blk w' b 3 (rowA n fun q=>.int .i64 (asgG g q)))

theorem kdL_ok {gs:List Gr} {g:Gr} (h:valid gs false) (hg:g ∈ gs):∀ x ∈ g.kinds,0≤x∧x<2:=fun x hx=>by
 have:=(h.2.2.1 g hg).1.2.2 x hx
 omega
theorem asg_any (B:Nat) (fo:Option Addr) (nF cF:Nat) (rs:List RG) (f:Int) (w:World) (h:RdP w B fo nF rs) (hB:B≤w.heap.size) (hT:TzTab w) :
  Calls Tryz.prog 7 #[.agg #[.slice fo nF cF],.int .i64 f] w (AsPost (grs rs) f w):=by
 have HBL:Hid (Below w.heap.size w (w.alloc (.cells #[.slice fo nF cF] 24))):=(Below.refl _ _).alloc (Nat.le_refl _) _
 have HG0:=lh (Blk.new w 24 #[.slice fo nF cF])
 have HZ1:Hid ((w.alloc (.cells #[.slice fo nF cF] 24)).heap.size=w.heap.size+1):=lh (by simp)
 have HSP:=lh (spans_any2 B fo nF cF rs f (w.alloc (.cells #[.slice fo nF cF] 24)) (h.below (HBL.out.mono hB)) (by simp;omega) (hT.below HBL.out))
 have H:=lh h
 clear h hT
 obtain ⟨z,hz⟩:∃ z,z=chkL (grs rs) f:=⟨_,rfl⟩
 have HZ:=lh hz
 by_cases h0:z=0
 ·subst h0
  obtain ⟨hv,k,rfl,hk⟩:=chk_zero hz.symm
  have hkF:k<nF:=by rw [length_grs,H.out.len] at hk;exact hk
  obtain ⟨b,off,r,hfe,hb,HX,HRG,HWG,x0,x1,x2,x3,x4,x5,x6,x7⟩:=H.out.gr hkF
  have HXG:Hid ((grs rs)[k]?=some r.gr):=lh (by unfold grs;rw [List.getElem?_map,HX.out];rfl)
  have hmem:r.gr ∈ grs rs:=List.mem_of_getElem? HXG.out
  have hsz:=valid_sizes hv hmem
  have HKO:=lh (kdL_ok hv hmem)
  have HIN:Hid (∀ i,i<(spansG r.gr).length→(∃ q:Nat,(spF r.gr i).p=q∧q<r.gr.kinds.length)∧-1≤(spF r.gr i).f∧(spF r.gr i).f≤5000):=lh fun i hi=>by
   obtain ⟨⟨q,h1,h2,_⟩,h3,h4,h5,h6⟩:=spG_in hv hmem (spF_mem hi)
   exact ⟨⟨q,h1,h2⟩,by omega,by omega⟩
  have HCK:Hid (∀ W,Below w.heap.size w W→W.cell? ⟨b,off+k*8+1,none⟩=some (.slice r.ko r.gr.kinds.length r.kc)):=lh fun W hW=>by
   rw [hW.cell (show b<w.heap.size by omega)];exact x1
  have hgl:=spG_len r.gr
  have HSZ:=lh hsz
  have HGL:=lh hgl
  rw [hfe] at HG0 HBL HSP HZ1 H ⊢
  clear hfe x0 x1 x2 x3 x4 x5 x6 x7 hv hmem hk hz hsz hgl
  have HAS:Hid (∀ (W:World) (R:Nat),Below w.heap.size w W→w.heap.size≤R→Blk W R 56 (ivA r.gr.kinds.length (spF r.gr))→Calls Tryz.prog 15 #[.slice (some ⟨R,0,none⟩) (spansG r.gr).length r.gr.kinds.length,.slice r.ko r.gr.kinds.length r.kc] W fun e w' =>
    ∃ g,e=.returned (.slice (some ⟨g,0,none⟩) r.gr.kinds.length r.gr.kinds.length)∧W.heap.size≤g∧Blk w' g 3 (rowA r.gr.kinds.length fun q=>.int .i64 (asgG r.gr q))∧Below w.heap.size w w'):=lh fun W R hW hR hblk=>by
   refine (assign_any R (spansG r.gr).length r.gr.kinds.length r.gr.kinds.length r.kc r.ko (spF r.gr) r.gr.kinds W hblk (fun i hi=>(HIN.out i hi).2) HGL.out (by have:=HSZ.out;omega) (by have:=HSZ.out;have:=HGL.out;omega) HSZ.out.1 ?_ ?_ HKO.out (fun j hj=>(HIN.out j hj).1)).mono ?_
   ·exact (HRG.out.kinds.below (hW.mono hB)).more (by have:=hW.size;omega)
   ·intro kb ko2 he hm0 hne
    obtain ⟨ad,e1,e2,_⟩:=HRG.out.kinds.2 hm0
    rw [he] at e1
    injection e1 with e1
    rw [← e1] at e2
    simp at e2
    omega
   ·rintro e w' ⟨g,rfl,hg,hbk,hkp⟩
    exact ⟨g,rfl,hg,hbk,hW.trans (hkp.out w.heap.size hW.size hR)⟩
  go_enter Tryz.func7,Tryz.ntmps7
  go_wp2_with (first
   | (go_at_call 14;refine HSP.out.mono ?_;rintro e w2 ⟨hb2,A2,n2,c2,rfl,_,hp2⟩;obtain ⟨g2,R2,hg2,rfl,hR2,rfl,rfl,hk2⟩:=hp2 HZ.out.symm;rw [Int.toNat_natCast,HXG.out] at hg2;injection hg2 with hg2;subst hg2;rw [HZ1.out] at hb2 hR2;rw [← HZ.out];have HW2:=lh (HBL.out.trans (hb2.mono (by omega)));have HA2:=lh (HAS.out w2 R2 HW2.out (by omega) hk2);have y0:w2.cell? ⟨w.heap.size,0,none⟩=some (.slice (some ⟨b,off,none⟩) nF cF):=(HG0.out.below hb2 (by omega)).cell 0;have y1:=HCK.out w2 HW2.out;clear hb2 hp2 hR2 hk2)
   | (go_at_call 15;refine HA2.out.mono ?_;rintro e w3 ⟨g3,rfl,hg3,hbk3,hb3⟩;have HG3:=lh hg3;have HK3:=lh hbk3;have HB3:=lh hb3;clear hg3 hbk3 hb3)
   | go_in)
  go_ret2
  refine ⟨HB3.out,some ⟨g3,0,none⟩,r.gr.kinds.length,by rw [← HZ.out];rfl,fun h=>absurd HZ.out.symm h,fun _=>⟨r.gr,g3,by rw [Int.toNat_natCast];exact HXG.out,rfl,Nat.le_trans HW2.out.size HG3.out,rfl,HK3.out⟩⟩
 ·have g1:(z != 0)=true:=by simpa using h0
  have H0:=lh h0
  clear h0 hz
  go_enter Tryz.func7,Tryz.ntmps7
  go_wp2_with (first
   | (go_at_call 14;refine HSP.out.mono ?_;rintro e w2 ⟨hb2,A2,n2,c2,rfl,hp2,_⟩;obtain ⟨rfl,rfl,rfl⟩:=hp2 (by rw [← HZ.out];exact H0.out);rw [HZ1.out] at hb2;rw [← HZ.out];have HW2:=lh (HBL.out.trans (hb2.mono (by omega)));clear hb2 hp2)
   | go_in)
  go_ret2
  exact ⟨HW2.out,none,0,by rw [← HZ.out];rfl,fun _=>⟨rfl,rfl⟩,fun h=>absurd (HZ.out.trans h) H0.out⟩
theorem AsPost.ok {gs:List Gr} {g:Gr} {k:Nat} {w w':World} {e:Ending} (h:AsPost gs k w e w') (hv:valid gs false) (hg:gs[k]?=some g) :
  Below w.heap.size w w'∧∃ b,e=.returned (.tuple #[.slice (some ⟨b,0,none⟩) g.kinds.length g.kinds.length,.int .i64 0])∧w.heap.size≤b∧Blk w' b 3 (rowA g.kinds.length fun q=>.int .i64 (asgG g q)):=by
 obtain ⟨hb,A,n,rfl,_,h0⟩:=h
 have hz:chkL gs k=0:=chk_ok hv (List.getElem?_eq_some_iff.1 hg).1
 obtain ⟨g2,b,h1,rfl,h2,rfl,h3⟩:=h0 hz
 rw [Int.toNat_natCast,hg] at h1
 injection h1 with h1
 subst h1
 exact ⟨hb,b,by rw [hz],h2,h3⟩
theorem AsPost.bad {gs:List Gr} {f z:Int} {w w':World} {e:Ending} (h:AsPost gs f w e w') (hz:chkL gs f=z) (h0:z≠0):Below w.heap.size w w'∧e=.returned (.tuple #[.slice none 0 0,.int .i64 z]):=by
 obtain ⟨hb,A,n,rfl,h1,_⟩:=h
 obtain ⟨rfl,rfl⟩:=h1 (by rw [hz];exact h0)
 exact ⟨hb,by rw [hz]⟩
theorem blk_readsO {w:World} {g n size B:Nat} {t:TypeId} {cs:Array Value} (h:Blk w g t cs) (hs:cs.size=n*size) (hB:g<B):Reads w B size (some ⟨g,0,none⟩) n cs.toList :=
 ⟨by simpa using hs,fun _=>⟨_,rfl,hB,fun j u hj=>by
  have ea:(⟨g,0,none⟩:Addr).add j=⟨g,j,none⟩:=by simp [Addr.add];exact Eq.symm
  rw [ea,h.cell]
  simpa using hj⟩⟩
def jn0:Nd:=⟨1,0,0,0,0,0,0,0,0,[],1,0⟩
def jn1:Nd:=⟨17,0,0,0,0,0,0,0,0,[],2,0⟩
def jn2:Nd:=⟨12,0,0,0,-1,0,0,0,0,[],0,0⟩
def jgr:Gr:=⟨[],[0],0,[],false,-1,[jn0,jn1,jn2],0⟩
def jrg (z:Nat):RG:=⟨jgr,none,0,some ⟨z,0,none⟩,1,none,0,some ⟨z+1,0,none⟩,3,[⟨jn0,none,0⟩,⟨jn1,none,0⟩,⟨jn2,none,0⟩]⟩
theorem jvalid:valid [jgr] false:=by decide +kernel
theorem jwfn (n:Nd) (h:n ∈ [jn0,jn1,jn2]):WfN n:=by
 simp at h
 rcases h with rfl | rfl | rfl <;> exact ⟨by decide,by decide,by decide,by decide,⟨by decide,by decide⟩,⟨by decide,by decide⟩,⟨by decide,by decide⟩,⟨by decide,by decide⟩,⟨by decide,by decide⟩,⟨by decide,by decide⟩,by decide,by decide,(fun x h=>by cases h),⟨by decide,by decide⟩,⟨by decide,by decide⟩,by decide⟩
theorem jwfg:WfG jgr:=⟨(fun x h=>by cases h),(fun x h=>by simp [jgr] at h;subst h;exact ⟨by decide,by decide⟩),⟨by decide,by decide⟩,(fun x h=>by cases h),⟨by decide,by decide⟩,(fun i hi=>jwfn i hi),⟨by decide,by decide⟩,by decide,by decide,by decide,by decide⟩
def jcK:Array Value:=#[.int .u8 0]
def jcN:Array Value:=#[.int .u8 1,.int .u8 0,.int .i64 0,.int .i64 0,.int .i64 0,.int .i64 0,.int .i64 0,.int .i64 0,.int .u64 0,.slice none 0 0,.int .i64 1,.int .i64 0,.int .u8 17,.int .u8 0,.int .i64 0,.int .i64 0,.int .i64 0,.int .i64 0,.int .i64 0,.int .i64 0,.int .u64 0,.slice none 0 0,.int .i64 2,.int .i64 0,.int .u8 12,.int .u8 0,.int .i64 0,.int .i64 0,.int .i64 (-1),.int .i64 0,.int .i64 0,.int .i64 0,.int .u64 0,.slice none 0 0,.int .i64 0,.int .i64 0]
def jcG (z:Nat):Array Value:=#[.slice none 0 0,.slice (some ⟨z,0,none⟩) 1 1,.int .i64 0,.slice none 0 0,.bool false,.int .i64 (-1),.slice (some ⟨z+1,0,none⟩) 3 3,.int .i64 0]
theorem jrd_ {W:World} {z:Nat} (hK:Blk W z 42 jcK) (hN:Blk W (z+1) 47 jcN) (hG:Blk W (z+2) 35 (jcG z)):RdP W (z+3) (some ⟨z+2,0,none⟩) 1 [jrg z]:=by
 refine ⟨blk_readsO (size:=8) hG rfl (by omega),rfl,fun r hr=>?_,fun r hr=>?_,by omega⟩
 ·obtain rfl:r=jrg z:=by simpa using hr
  refine ⟨Reads.none_,blk_readsO (size:=1) (n:=1) hK rfl (by omega),Reads.none_,⟨blk_readsO (size:=12) (n:=3) hN rfl (by omega),rfl,fun i hi=>?_,fun i hi=>?_⟩,rfl,Nat.le_refl _⟩
  ·simp [jrg] at hi
   rcases hi with rfl | rfl | rfl <;> exact ⟨Reads.none_,Nat.le_refl _⟩
  ·simp [jrg] at hi
   rcases hi with rfl | rfl | rfl
   ·exact jwfn _ (by simp)
   ·exact jwfn _ (by simp)
   ·exact jwfn _ (by simp)
 ·obtain rfl:r=jrg z:=by simpa using hr
  exact jwfg
theorem jline:lineG jgr=[0,1,2]:=by decide +kernel
theorem jw0:WorkP jgr.nodes jgr.params [0,1,2] (0:Int) 0:=.inl (.inr ⟨jn0,rfl,by decide⟩)
theorem jw1:WorkP jgr.nodes jgr.params [0,1,2] (0:Int) 1:=.inl (.inl (.here (n:=jn1) rfl (by decide)))
theorem jw2:¬ WorkP jgr.nodes jgr.params [0,1,2] (0:Int) 2:=by
 rintro (h | h)
 ·rcases h with h | ⟨n,h,h2⟩
  ·cases h with
   | here h hr =>
    obtain rfl:jn2=_:=by simpa [jgr,atL] using h
    exact absurd hr (by decide)
   | next h _ hj _ =>
    obtain rfl:jn2=_:=by simpa [jgr,atL] using h
    exact absurd hj (by simp [nextsOf,jn2])
  ·obtain rfl:jn2=_:=by simpa [jgr,atL] using h
   exact absurd h2 (by decide)
 ·exact absurd h.1 (by decide)
theorem jh (i:Nat):¬ HeldN jgr.nodes (0:Int) i:=by
 rintro ⟨n,h,h2,_⟩
 have hm:=List.mem_of_getElem? h
 simp [jgr] at hm
 rcases hm with rfl | rfl | rfl <;> simp [jn0,jn1,jn2] at h2
theorem jspans:spansG jgr=[⟨0,0,1,false⟩]:=by
 unfold spansG
 rw [jline]
 show spansL jgr.nodes jgr.params [0,1,2] 1=_
 rw [spansL_succ]
 have e:ivK jgr.nodes jgr.params [0,1,2] ((0:Nat):Int) ([0,1,2]:List Int).length=⟨0,0,1,false⟩:=by
  show ivK jgr.nodes jgr.params [0,1,2] (0:Int) 3=_
  rw [ivK_no jw2,ivK_yes jw1,ivK_yes jw0]
  simp [jh,ivK]
 rw [e]
 rfl
theorem jasg:asgG jgr 0=0:=by
 unfold asgG spS spF
 rw [jspans]
 rfl
theorem jfirst_any (w:World) (hT:TzTab w):Calls Tryz.prog 6 #[] w fun e w'=>e=.returned (.bool true)∧Below w.heap.size w w':=by
 obtain ⟨W,hW⟩:∃ W,W=((((w.alloc (.cells jcK 42)).alloc (.cells jcN 47)).alloc (.cells (jcG w.heap.size) 35)).alloc (.cells #[.slice (some ⟨w.heap.size+1+1,0,none⟩) 1 1] 24)):=⟨_,rfl⟩
 have hz:W.heap.size=w.heap.size+4:=by rw [hW];simp
 have hbw:Below w.heap.size w W:=by
  rw [hW]
  exact ((((Below.refl _ _).alloc (Nat.le_refl _) _).alloc (by simp) _).alloc (by simp;omega) _).alloc (by simp;omega) _
 have b0:Blk W w.heap.size 42 jcK:=by
  rw [hW]
  exact (((Blk.new w _ _).alloc _).alloc _).alloc _
 have b1:Blk W (w.heap.size+1) 47 jcN:=by
  have h:=Blk.new (w.alloc (.cells jcK 42)) 47 jcN
  rw [show (w.alloc (.cells jcK 42)).heap.size=w.heap.size+1 by simp] at h
  rw [hW]
  exact (h.alloc _).alloc _
 have b2:Blk W (w.heap.size+2) 35 (jcG w.heap.size):=by
  have h:=Blk.new ((w.alloc (.cells jcK 42)).alloc (.cells jcN 47)) 35 (jcG w.heap.size)
  rw [show ((w.alloc (.cells jcK 42)).alloc (.cells jcN 47)).heap.size=w.heap.size+2 by simp] at h
  rw [hW]
  exact h.alloc _
 have b3:Blk W (w.heap.size+1+1+1) 24 #[.slice (some ⟨w.heap.size+1+1,0,none⟩) 1 1]:=by
  have h:=Blk.new (((w.alloc (.cells jcK 42)).alloc (.cells jcN 47)).alloc (.cells (jcG w.heap.size) 35)) 24 #[.slice (some ⟨w.heap.size+1+1,0,none⟩) 1 1]
  rw [show (((w.alloc (.cells jcK 42)).alloc (.cells jcN 47)).alloc (.cells (jcG w.heap.size) 35)).heap.size=w.heap.size+1+1+1 by simp] at h
  rw [hW]
  exact h
 have HRD:=lh (jrd_ b0 b1 b2)
 have HB3:=lh b3
 have HBW:=lh hbw
 have HZ:=lh hz
 have HT:=lh hT
 have HAS:=lh (asg_any (w.heap.size+3) (some ⟨w.heap.size+1+1,0,none⟩) 1 1 [jrg w.heap.size] 0 W HRD.out (by omega) (HT.out.below HBW.out))
 have z0:W.cell? ⟨w.heap.size+1+1+1,0,none⟩=some (.slice (some ⟨w.heap.size+1+1,0,none⟩) 1 1):=b3.cell 0
 clear b0 b1 b2 b3 hbw hz hT
 go_enter Tryz.func6,Tryz.ntmps6
 go_upto_region 2 with fail
 unfold jcK jcN jcG at hW
 rw [← hW]
 clear hW
 obtain ⟨p2,hp2⟩:∃ p,p=w.heap.size+1+1:=⟨_,rfl⟩
 obtain ⟨p3,hp3⟩:∃ p,p=p2+1:=⟨_,rfl⟩
 rw [← hp2] at HAS HB3 z0 ⊢
 rw [← hp3] at HB3 z0 ⊢
 clear hp2 hp3
 go_wp2_with (first
  | (go_at_call 7;refine HAS.out.mono ?_;rintro e w2 hl;obtain ⟨hb2,g2,rfl,hg2,hk2⟩:=AsPost.ok (k:=0) (g:=jgr) hl jvalid rfl;rw [show jgr.kinds.length=1 from rfl] at hk2 ⊢;have y0:w2.cell? ⟨g2,0,none⟩=some (.int .i64 0):=(by have h:=hk2.cell 0;rw [rowA_at _ (show 0<1 by decide),jasg] at h;exact h);have HB2:=lh hb2;clear hl hb2 hg2 hk2)
  | go_in)
 first | go_ret | go_end0
 exact ⟨rfl,HBW.out.trans (HB2.out.mono (by rw [HZ.out];omega))⟩
end Go.Proofs.YtedmcfaghfgpoaaGreatDoor
