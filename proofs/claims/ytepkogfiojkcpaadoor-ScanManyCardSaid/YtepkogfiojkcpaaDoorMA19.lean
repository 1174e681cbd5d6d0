/-
  Texts of one seat, one behind the other: JDel, JAg, JPq.
-/
import Derived.Test.YtepkogfiojkcpaaDoorMA14
import Derived.Test.YtepkogfiojkcpaaDoorMA18

set_option linter.unusedVariables false
set_option linter.unusedSimpArgs false
set_option maxRecDepth 100000
set_option maxHeartbeats 51200000
namespace Go.Proofs.YtepkogfiojkcpaaDoor
open Go.ChangeShapes Go.WideShapes Go.ChangeAt Go.RowKit
def DelPost2 (R m:Nat) (g:Nat→Iv) (w:World) (e:Ending) (w':World):Prop :=
 ∃ (n:Nat) (G:Nat→Iv),e=.returned (.slice (some ⟨R,0,none⟩) n m)∧n=(keptK g m).length∧Blk w' R 110 (ivA m G)∧(∀ p,p<n→(keptK g m)[p]?=some (G p))∧KpB w w' R∧∀ p,n≤p→p<m→G p=ivZ
theorem delete_iv2 (R m : Nat) (g : Nat → Iv) (w : World) (h : Blk w R 110 (ivA m g)) (hm : m ≤ 5000) :
    Calls Tryd.prog 70 #[.slice (some ⟨R, 0, none⟩) m m, .func (.func 71) #[] #[]] w (DelPost2 R m g w) := by
  have H := Lib.hid h
  have HIX := Lib.hid (index_iv R m m g w h hm)
  clear h
  go_enter Tryd.func70, Tryd.ntmps70
  go_upto_region 2 with (go_at_call 93; refine HIX.out.mono ?_; rintro e w2 ⟨z, rfl, hb2, hz⟩; have HB2 := Lib.hid hb2; have HZ := Lib.hid hz; clear hb2 hz)
  rcases HZ.out with ⟨rfl, hall⟩ | ⟨i, rfl, him, hif, hlo⟩
  · have HA : Hid (keptK g m = (List.range m).map g) := Lib.hid (keptK_all hall)
    clear hall HZ
    go_wp2
    go_ret
    exact ⟨m, g, rfl, by rw [HA.out]; simp, H.out.below HB2.out H.out.lt, fun p hp => by rw [HA.out]; exact range_at g hp, KpB.of_below R HB2.out, fun p h1 h2 => by omega⟩
  · have HD0 : Hid (DelI w R m i (i + 1) g g w2) := Lib.hid (by
      have e : keptK g (i + 1) = (List.range i).map g := by rw [keptK_succ, if_pos hif, List.append_nil, keptK_all hlo]
      exact ⟨H.out.below HB2.out H.out.lt, KpB.of_below R HB2.out, by rw [e]; simp, fun p hp => by rw [e]; exact range_at g hp, fun p _ _ => rfl, by omega⟩)
    have hi1 : ((i : Int) == -1) = false := by simp
    clear hif hlo HZ
    go_wp2
    go_loopw [5, 6] (fun s t wr => ∃ (i j : Nat) (G : Nat → Iv), j ≤ m ∧ s = .int .i64 i ∧ t = .int .i64 j ∧ Hid (DelI w R m i j g G wr)) (fun _ t _ => m - (intOf t).toNat)
    case atStart => exact ⟨i, i + 1, g, by omega, rfl, by go_num, HD0⟩
    case round =>
      clear HD0
      obtain ⟨i, j, G, hj, rfl, rfl, HD⟩ := hrel
      have hij := HD.out.lt
      by_cases hlt : j < m
      · have hGj := HD.out.high j (Nat.le_refl _) hlt
        have z0 : wr.cell? ⟨R, j * 4, none⟩ = some (.int .i64 (g j).p) := by rw [HD.out.row.cell, ← hGj]; exact ivA_at (j := 0) _ hlt (by decide)
        have z1 : wr.cell? ⟨R, j * 4 + 1, none⟩ = some (.int .i64 (g j).f) := by rw [HD.out.row.cell, ← hGj, ivA_at _ hlt (by decide)]; rfl
        have z2 : wr.cell? ⟨R, j * 4 + 2, none⟩ = some (.int .i64 (g j).t) := by rw [HD.out.row.cell, ← hGj, ivA_at _ hlt (by decide)]; rfl
        have z3 : wr.cell? ⟨R, j * 4 + 3, none⟩ = some (.bool (g j).h) := by rw [HD.out.row.cell, ← hGj, ivA_at _ hlt (by decide)]; rfl
        have hbA : Below wr.heap.size wr (wr.alloc (.cells #[.int .i64 (g j).p, .int .i64 (g j).f, .int .i64 (g j).t, .bool (g j).h] 110)) := (Below.refl _ _).alloc (Nat.le_refl _) _
        have HBX := Lib.hid (Blk.new wr 110 #[.int .i64 (g j).p, .int .i64 (g j).f, .int .i64 (g j).t, .bool (g j).h])
        have HBA := Lib.hid hbA
        have HRL := Lib.hid HD.out.row.lt
        clear hbA hGj
        have HU := Lib.hid (unused_any (g j) (wr.alloc (.cells #[.int .i64 (g j).p, .int .i64 (g j).f, .int .i64 (g j).t, .bool (g j).h] 110)))
        by_cases hf : (g j).f = -1
        · have g1 : ((g j).f == -1) = true := by rw [hf]; rfl
          rw [g1] at HU
          have HFK := Lib.hid hf
          clear hf g1
          go_wp2_with (go_at_call 71; refine HU.out.mono ?_; rintro e w3 ⟨rfl, hb3⟩; have HB3 := Lib.hid (HBA.out.trans (hb3.mono HBA.out.size)); clear hb3)
          go_roundw
          case rel => exact ⟨i, j + 1, G, by omega, rfl, by go_num, Lib.hid (HD.out.skip HB3.out HFK.out)⟩
          case measure => simp [intOf]; omega
        · have g1 : ((g j).f == -1) = false := by simpa using hf
          rw [g1] at HU
          have HFK := Lib.hid hf
          clear hf g1
          go_wp2_with (go_at_call 71; refine HU.out.mono ?_; rintro e w3 ⟨rfl, hb3⟩; have HB3 := Lib.hid (HBA.out.trans (hb3.mono HBA.out.size)); have HBX3 := Lib.hid (HBX.out.below hb3 HBX.out.lt); have HR3 := Lib.hid (HD.out.row.below HB3.out HRL.out); have q0 : w3.cell? ⟨wr.heap.size, 0, none⟩ = some (.int .i64 (g j).p) := HBX3.out.cell 0; have q1 : w3.cell? ⟨wr.heap.size, 1, none⟩ = some (.int .i64 (g j).f) := HBX3.out.cell 1; have q2 : w3.cell? ⟨wr.heap.size, 2, none⟩ = some (.int .i64 (g j).t) := HBX3.out.cell 2; have q3 : w3.cell? ⟨wr.heap.size, 3, none⟩ = some (.bool (g j).h) := HBX3.out.cell 3; have him : i < m := by omega
                       have r0 : w3.cell? ⟨R, i * 4, none⟩ = some (ivX (G i) 0) := by rw [HR3.out.cell]; exact ivA_at (j := 0) _ him (by decide)
                       have r1 : w3.cell? ⟨R, i * 4 + 1, none⟩ = some (ivX (G i) 1) := by rw [HR3.out.cell, ivA_at _ him (by decide)]
                       have r2 : w3.cell? ⟨R, i * 4 + 2, none⟩ = some (ivX (G i) 2) := by rw [HR3.out.cell, ivA_at _ him (by decide)]
                       have r3 : w3.cell? ⟨R, i * 4 + 3, none⟩ = some (ivX (G i) 3) := by rw [HR3.out.cell, ivA_at _ him (by decide)]
                       have e0 : w3.frozen? ⟨R, i * 4, none⟩ = false := HR3.out.frozen _
                       have e1 : w3.frozen? ⟨R, i * 4 + 1, none⟩ = false := HR3.out.frozen _
                       have e2 : w3.frozen? ⟨R, i * 4 + 2, none⟩ = false := HR3.out.frozen _
                       have e3 : w3.frozen? ⟨R, i * 4 + 3, none⟩ = false := HR3.out.frozen _
                       clear hb3)
          go_roundw
          case rel => exact ⟨i + 1, j + 1, _, by omega, by go_num, by go_num, Lib.hid (HD.out.keep HB3.out HFK.out)⟩
          case measure => simp [intOf]; omega
      · have hjm : j = m := by omega
        have him : i < m := by omega
        obtain ⟨W2, hcl, hblk, hkp⟩ := clear_iv wr R m i G him HD.out.row
        have HBL := Lib.hid hblk
        have HKP := Lib.hid hkp
        rw [hjm] at HD
        have hne : ¬ (m = i) := by omega
        clear hblk hkp hjm
        go_wp2
        go_ret
        refine ⟨i, ivClr G i, rfl, HD.out.cnt.symm, HBL.out, fun p hp => ?_, HD.out.kp.trans HKP.out, fun p h1 _ => if_neg (by omega)⟩
        unfold ivClr
        rw [if_pos hp]
        exact HD.out.low p hp
def SoPost2 (ns:List Nd) (ps l:List Int) (m:Nat) (w:World) (e:Ending) (w':World):Prop :=
 ∃ (R n:Nat) (G:Nat→Iv),e=.returned (.slice (some ⟨R,0,none⟩) n m)∧w.heap.size≤R∧n=(spansL ns ps l m).length∧Blk w' R 110 (ivA m G)∧(∀ p,p<n→(spansL ns ps l m)[p]?=some (G p))∧(∀ p,n≤p→p<m→G p=ivZ)∧Below w.heap.size w w'
theorem spansOf_any2 (B:Nat) (po ko io no lA:Option Addr) (nP pc m kc nI ic n nc nl lc:Nat) (cells keep entry:Int) (res:Bool) (rn:List RN) (ps l:List Int) (O1 O2 b1 b2:Nat) (vs1 vs2:Nat→Value) (w:World)
  (hN:RdNs w B no n rn) (hP:Reads w B 1 po nP (i64c ps)) (hpl:ps.length=nP) (hpin:∀ x ∈ ps,0≤x∧x<(m:Int)) (hp4:nP≤4) (hL:Reads w w.heap.size 1 lA nl (i64c l)) (hlin:∀ x ∈ l,∃ k:Nat,x=k∧k<n) (hll:l.length=nl) (hln:nl≤4096) (h0:0<nl)
  (h1:RdL w b1 O1 n vs1 (liveL (nds rn) m)) (h2:RdL w b2 O2 n vs2 (liveOL (nds rn) m)) (hB:B≤w.heap.size) (hn:n≤4096) (hm:m≤1024) (hwr:∀ nd ∈ nds rn,∀ x ∈ writesOf nd,0≤x∧x<(m:Int)) :
  Calls Tryd.prog 50 #[.agg #[.slice po nP pc,.slice ko m kc,.int .i64 cells,.slice io nI ic,.bool res,.int .i64 keep,.slice no n nc,.int .i64 entry],.slice lA nl lc,.slice (some ⟨O1,0,none⟩) n n,.slice (some ⟨O2,0,none⟩) n n] w (SoPost2 (nds rn) ps l m w):=by
 have hmk:∀ W:World,(Instr.makeSlice 88 (.int .i64 m) (.int .i64 m)).run Tryd.prog W=.ok (.slice (some ⟨W.heap.size,0,none⟩) m m) (W.alloc (.cells (ivA m fun _=>⟨0,0,0,false⟩) 110)):=fun W=>make_iv m (by omega) W
 have HN:=Lib.hid hN
 have HP:=Lib.hid hP
 have HPL:=Lib.hid hpl
 have HPI:=Lib.hid hpin
 have HL:=Lib.hid hL
 have HLI:=Lib.hid hlin
 have HLL:=Lib.hid hll
 have H1:=Lib.hid h1
 have H2:=Lib.hid h2
 have HWR:=Lib.hid hwr
 obtain ⟨cs,hcs⟩:∃ cs:Array Value,cs=#[.slice po nP pc,.slice ko m kc,.int .i64 cells,.slice io nI ic,.bool res,.int .i64 keep,.slice no n nc,.int .i64 entry]:=⟨_,rfl⟩
 have HS0:=Lib.hid (SoI.start w m cs)
 have HGC:Hid (∀ W,Blk W w.heap.size 38 cs→W.cell? ⟨w.heap.size,0,none⟩=some (.slice po nP pc)∧W.cell? ⟨w.heap.size,6,none⟩=some (.slice no n nc)):=Lib.hid fun W h=>by
  rw [hcs] at h
  exact ⟨h.cell 0,h.cell 6⟩
 clear hN hP hpl hpin hL hlin hll h1 h2 hwr
 obtain ⟨W1,hW1⟩:∃ W1,W1=(((w.alloc (.cells cs 38)).alloc (.cells (ivA m fun _=>⟨0,0,0,false⟩) 110)).alloc (.cells #[.slice (some ⟨w.heap.size+1,0,none⟩) m m] 88)):=⟨_,rfl⟩
 rw [← hW1] at HS0
 rw [hcs] at hW1
 go_enter Tryd.func50,Tryd.ntmps50
 go_upto_region 2 with fail
 rw [← hW1]
 clear hW1 hmk
 obtain ⟨R,hR⟩:∃ R,R=w.heap.size+1:=⟨_,rfl⟩
 obtain ⟨b,hbb⟩:∃ b,b=R+1:=⟨_,rfl⟩
 rw [← hR] at HS0 ⊢
 rw [← hbb] at HS0 ⊢
 clear hR hbb
 have x0:W1.cell? ⟨b,0,none⟩=some (.slice (some ⟨R,0,none⟩) m m):=HS0.out.box.cell 0
 go_wp2
 clear x0
 go_loopw [24] (fun s wr=>∃ k:Nat,k≤m∧s=.int .i64 k∧Hid (SoI w w.heap.size b R m cs (ivBeg k) wr)) (fun s _=>m-(intOf s).toNat)
 case atStart=>exact ⟨0,by omega,rfl,Lib.hid (HS0.out.congr fun p _=>by unfold ivBeg;rw [if_neg (by omega)])⟩
 case round =>
  clear HS0
  obtain ⟨k,hk,rfl,HI⟩:=hrel
  have y0:wr.cell? ⟨b,0,none⟩=some (.slice (some ⟨R,0,none⟩) m m):=HI.out.box.cell 0
  by_cases hlt:k<m
  ·have z0:wr.cell? ⟨R,k*4,none⟩=some (ivX (ivBeg k k) 0):=by rw [HI.out.row.cell];exact ivA_at (j:=0) _ hlt (by decide)
   have z1:wr.cell? ⟨R,k*4+1,none⟩=some (ivX (ivBeg k k) 1):=by rw [HI.out.row.cell,ivA_at _ hlt (by decide)]
   have z2:wr.cell? ⟨R,k*4+2,none⟩=some (ivX (ivBeg k k) 2):=by rw [HI.out.row.cell,ivA_at _ hlt (by decide)]
   have z3:wr.cell? ⟨R,k*4+3,none⟩=some (ivX (ivBeg k k) 3):=by rw [HI.out.row.cell,ivA_at _ hlt (by decide)]
   have e0:wr.frozen? ⟨R,k*4,none⟩=false:=HI.out.row.frozen _
   have e1:wr.frozen? ⟨R,k*4+1,none⟩=false:=HI.out.row.frozen _
   have e2:wr.frozen? ⟨R,k*4+2,none⟩=false:=HI.out.row.frozen _
   have e3:wr.frozen? ⟨R,k*4+3,none⟩=false:=HI.out.row.frozen _
   go_wp2
   go_roundw
   case rel=>exact ⟨k+1,by omega,by go_num,Lib.hid HI.out.init⟩
   case measure=>simp [intOf];omega
  ·obtain ⟨wo,hwo⟩:∃ wo,wo=wr:=⟨_,rfl⟩
   rw [← hwo] at HI y0 ⊢
   clear hwo
   have hkm:k=m:=by omega
   rw [hkm] at HI
   have HB0:Hid (SoI w w.heap.size b R m cs (fun p=>⟨p,-1,0,false⟩) wo):=Lib.hid (HI.out.congr fun p hp=>by unfold ivBeg;rw [if_pos hp])
   have hwoz:=HB0.out.below.size
   have yp:wo.cell? ⟨w.heap.size,0,none⟩=some (.slice po nP pc):=(HGC.out wo HB0.out.gr).1
   have HRC:=Lib.hid (record_any w.heap.size b R m 0 nP pc po (fun p=>⟨p,-1,0,false⟩) ps wo HB0.out.box HB0.out.row (fun W hk=>((HP.out.below (HB0.out.below.mono hB)).below (hk.out B (by omega) (by have:=HB0.out.lt;omega))).more hB) HPL.out HPI.out (by omega) (by omega))
   clear hkm hk HI
   go_wp2_with (go_at_call 69;refine HRC.out.mono ?_;rintro e w2 ⟨rfl,hr2,hk2⟩;have HI2:=Lib.hid (HB0.out.kp hk2 hr2);clear hr2 hk2)
   have HB2:Hid (SoI w w.heap.size b R m cs (fun p=>ivC (nds rn) ps l p 0) w2):=Lib.hid (HI2.out.congr fun p hp=>(ivC_start _ _ _ p).symm)
   clear HRC HB0 yp y0 hwoz HI2
   go_loopw [40] (fun s wr=>∃ k:Nat,k≤nl∧s=.int .i64 k∧Hid (SoI w w.heap.size b R m cs (fun p=>ivC (nds rn) ps l p k) wr)) (fun s _=>nl-(intOf s).toNat)
   case atStart=>exact ⟨0,by omega,rfl,HB2⟩
   case round =>
    clear HB2
    obtain ⟨k,hk,rfl,HI⟩:=hrel
    by_cases hkl:k<nl
    ·obtain ⟨bx,ox,x,hxe,hbx,HXX,x1⟩:=(HL.out.below HI.out.below).int hkl
     obtain ⟨i,rfl,hi⟩:=HLI.out x (List.mem_of_getElem? HXX.out)
     have hwz:=HI.out.below.size
     have HAT:Hid (atL l k=i):=Lib.hid (by unfold atL;rw [List.getD_eq_getElem?_getD,HXX.out];simp)
     obtain ⟨bn,on,nd,hno,hbn,HXI,HRN1,HWI,u0,u1,u2,u3,u4,u5,u6,u7,u8,u9,u10,u11⟩:=(HN.out.below (HI.out.below.mono hB)).nd hi
     have HXN:Hid ((nds rn)[i]?=some nd.nd):=Lib.hid (by unfold nds;rw [List.getElem?_map,HXI.out];rfl)
     have hbnr:bn<wr.heap.size:=by omega
     have y6:wr.cell? ⟨w.heap.size,6,none⟩=some (.slice no n nc):=(HGC.out wr HI.out.gr).2
     rw [hno] at y6
     have hbA:Below wr.heap.size wr (wr.alloc (.cells #[.int .u8 nd.nd.op,.int .u8 nd.nd.bop,.int .i64 nd.nd.d,.int .i64 nd.nd.e,.int .i64 nd.nd.a,.int .i64 nd.nd.b,.int .i64 nd.nd.f,.int .i64 nd.nd.cell,.int .u64 nd.nd.imm,.slice nd.ao nd.nd.args.length nd.ac,.int .i64 nd.nd.next,.int .i64 nd.nd.els] 60)):=(Below.refl _ _).alloc (Nat.le_refl _) _
     have HBA:=Lib.hid hbA
     have HNB:=Lib.hid (Blk.new wr 60 #[.int .u8 nd.nd.op,.int .u8 nd.nd.bop,.int .i64 nd.nd.d,.int .i64 nd.nd.e,.int .i64 nd.nd.a,.int .i64 nd.nd.b,.int .i64 nd.nd.f,.int .i64 nd.nd.cell,.int .u64 nd.nd.imm,.slice nd.ao nd.nd.args.length nd.ac,.int .i64 nd.nd.next,.int .i64 nd.nd.els])
     obtain ⟨wA,hwA⟩:∃ wA,wA=wr.alloc (.cells #[.int .u8 nd.nd.op,.int .u8 nd.nd.bop,.int .i64 nd.nd.d,.int .i64 nd.nd.e,.int .i64 nd.nd.a,.int .i64 nd.nd.b,.int .i64 nd.nd.f,.int .i64 nd.nd.cell,.int .u64 nd.nd.imm,.slice nd.ao nd.nd.args.length nd.ac,.int .i64 nd.nd.next,.int .i64 nd.nd.els] 60):=⟨_,rfl⟩
     rw [← hwA] at hbA HBA HNB
     have HIA:=Lib.hid (HI.out.on hbA)
     have hAz:=HIA.out.below.size
     have HWX:=Lib.hid (writes_own B nd.nd.op nd.nd.bop nd.nd.d nd.nd.e nd.nd.a nd.nd.b nd.nd.f nd.nd.cell nd.nd.imm nd.nd.args nd.nd.next nd.nd.els nd.ao nd.nd.args.length nd.ac wA HWI.out.o0 HWI.out.o1 HWI.out.d HWI.out.e HWI.out.a HWI.out.b HWI.out.next HWI.out.els (HRN1.out.args.below (hbA.mono (by omega))) rfl HWI.out.args HWI.out.al HRN1.out.cap (by omega))
     obtain ⟨ws,hws⟩:∃ ws,ws=writesOf ⟨nd.nd.op,nd.nd.bop,nd.nd.d,nd.nd.e,nd.nd.a,nd.nd.b,nd.nd.f,nd.nd.cell,nd.nd.imm,nd.nd.args,nd.nd.next,nd.nd.els⟩:=⟨_,rfl⟩
     rw [← hws] at HWX
     have HWS:Hid (ws=writesOf nd.nd):=Lib.hid hws
     have HWIN:Hid (∀ x ∈ ws,0≤x∧x<(m:Int)):=Lib.hid (by rw [HWS.out];exact HWR.out _ (List.mem_of_getElem? HXN.out))
     have hw2:ws.length≤2:=by rw [hws];exact llens _
     have v0:wA.cell? ⟨wr.heap.size,0,none⟩=some (.int .u8 nd.nd.op):=HNB.out.cell 0
     have v1:wA.cell? ⟨wr.heap.size,1,none⟩=some (.int .u8 nd.nd.bop):=HNB.out.cell 1
     have v2:wA.cell? ⟨wr.heap.size,2,none⟩=some (.int .i64 nd.nd.d):=HNB.out.cell 2
     have v3:wA.cell? ⟨wr.heap.size,3,none⟩=some (.int .i64 nd.nd.e):=HNB.out.cell 3
     have v4:wA.cell? ⟨wr.heap.size,4,none⟩=some (.int .i64 nd.nd.a):=HNB.out.cell 4
     have v5:wA.cell? ⟨wr.heap.size,5,none⟩=some (.int .i64 nd.nd.b):=HNB.out.cell 5
     have v6:wA.cell? ⟨wr.heap.size,6,none⟩=some (.int .i64 nd.nd.f):=HNB.out.cell 6
     have v7:wA.cell? ⟨wr.heap.size,7,none⟩=some (.int .i64 nd.nd.cell):=HNB.out.cell 7
     have v8:wA.cell? ⟨wr.heap.size,8,none⟩=some (.int .u64 nd.nd.imm):=HNB.out.cell 8
     have v9:wA.cell? ⟨wr.heap.size,9,none⟩=some (.slice nd.ao nd.nd.args.length nd.ac):=HNB.out.cell 9
     have v10:wA.cell? ⟨wr.heap.size,10,none⟩=some (.int .i64 nd.nd.next):=HNB.out.cell 10
     have v11:wA.cell? ⟨wr.heap.size,11,none⟩=some (.int .i64 nd.nd.els):=HNB.out.cell 11
     rw [hxe]
     clear hxe hws hbA hno
     obtain ⟨q,hq⟩:∃ q,q=wr.heap.size:=⟨_,rfl⟩
     go_upto_region 13 with fail
     rw [← hwA]
     rw [← hq] at HNB v0 v1 v2 v3 v4 v5 v6 v7 v8 v9 v10 v11 HBA hbnr ⊢
     clear hwA hq u0 u1 u2 u3 u4 u5 u6 u7 u8 u9 u10 u11 x1 y6 HI HRN1
     obtain ⟨A1,c1,hs1⟩:=own_slice (H1.out.own i hi)
     have HA1:Hid (Reads w w.heap.size 1 A1 (liveL (nds rn) m i).length (i64c (liveL (nds rn) m i))):=Lib.hid (by
      have h:=H1.out.own i hi
      rw [hs1] at h
      exact Reads.of_own h)
     obtain ⟨A2,c2,hs2⟩:=own_slice (H2.out.own i hi)
     have HA2:Hid (Reads w w.heap.size 1 A2 (liveOL (nds rn) m i).length (i64c (liveOL (nds rn) m i))):=Lib.hid (by
      have h:=H2.out.own i hi
      rw [hs2] at h
      exact Reads.of_own h)
     have HC1:Hid (∀ W,Below w.heap.size w W→W.cell? ⟨O1,i,none⟩=some (.slice A1 (liveL (nds rn) m i).length c1)):=Lib.hid fun W hb=>by rw [(H1.out.on hb).row.cell,rowA_at _ hi,hs1]
     have HC2:Hid (∀ W,Below w.heap.size w W→W.cell? ⟨O2,i,none⟩=some (.slice A2 (liveOL (nds rn) m i).length c2)):=Lib.hid fun W hb=>by rw [(H2.out.on hb).row.cell,rowA_at _ hi,hs2]
     have hla:=liveL_max (nds rn) m i
     have hlo:=liveOL_max (nds rn) m i
     clear hs1 hs2
     obtain ⟨la,hlae⟩:∃ la,la=liveL (nds rn) m i:=⟨_,rfl⟩
     obtain ⟨lo,hloe⟩:∃ lo,lo=liveOL (nds rn) m i:=⟨_,rfl⟩
     have HLAE:=Lib.hid hlae
     have HLOE:=Lib.hid hloe
     rw [← hlae] at HA1 HC1 hla
     rw [← hloe] at HA2 HC2 hlo
     obtain ⟨nla,hnla⟩:∃ n,n=la.length:=⟨_,rfl⟩
     obtain ⟨nlo,hnlo⟩:∃ n,n=lo.length:=⟨_,rfl⟩
     obtain ⟨nws,hnws⟩:∃ n,n=ws.length:=⟨_,rfl⟩
     rw [← hnla] at HA1 HC1 hla
     rw [← hnlo] at HA2 HC2 hlo
     have HNLA:=Lib.hid hnla.symm
     have HNLO:=Lib.hid hnlo.symm
     have HNWS:=Lib.hid hnws.symm
     have HLAI:Hid (∀ x ∈ la,0≤x∧x<(m:Int)):=Lib.hid (by rw [hlae];exact liveL_in)
     have HLOI:Hid (∀ x ∈ lo,0≤x∧x<(m:Int)):=Lib.hid (by rw [hloe];exact liveOL_in)
     rw [← hnws] at hw2
     clear hlae hloe hnla hnlo hnws
     go_upto_region 16 with (first
      | (go_at_call 64;refine HWX.out.mono ?_;rintro e w3 ⟨A3,c3,rfl,ho3,hc3,hb3⟩;rw [HNWS.out] at ho3 hc3 ⊢;have HO3:=Lib.hid ho3;have HI3:=Lib.hid (HIA.out.on hb3);have HNB3:=Lib.hid (HNB.out.below hb3 HNB.out.lt);have t1:=HC1.out w3 HI3.out.below;have HR1:=Lib.hid (record_any w.heap.size b R m k nla c1 A1 (fun p=>ivC (nds rn) ps l p k) la w3 HI3.out.box HI3.out.row (fun W hk=>HA1.out.below (HI3.out.below.trans (hk.out w.heap.size HI3.out.below.size HI3.out.lt))) HNLA.out HLAI.out (by omega) (by omega));have HZ3:Hid (R<wA.heap.size):=Lib.hid HIA.out.row.lt;clear ho3 hb3)
      | (go_at_call 69;(with_reducible refine HR1.out.mono ?_);rintro e w4 ⟨rfl,hr4,hk4⟩;have HI4:=Lib.hid (HI3.out.kp hk4 hr4);have HNB4:=Lib.hid (hk4.blk HNB3.out (Blk.ne_ HNB3.out HI3.out.row (by decide)));have HO4:Hid (w4.ownsRow wA.heap.size 3 1 (.slice A3 nws c3) nws (i64c ws)):=Lib.hid (own_kept HO3.out fun g hg=>hk4.block g (own_block_le HO3.out hg).2 (by have:=(own_block_le HO3.out hg).1;have:=HZ3.out;omega));have HOK:Hid (∀ W,KpB w4 W R→W.ownsRow wA.heap.size 3 1 (.slice A3 nws c3) nws (i64c ws)):=Lib.hid (fun W hk=>own_kept HO4.out fun g hg=>hk.block g (own_block_le HO4.out hg).2 (by have:=(own_block_le HO4.out hg).1;have:=HZ3.out;omega));have HR2:=Lib.hid (record_any w4.heap.size b R m k nws c3 A3 _ ws w4 HI4.out.box HI4.out.row (fun W hk=>(Reads.of_own_le (HOK.out W hk) HO4.out)) HNWS.out HWIN.out (by omega) (by omega));clear hr4 hk4)
      | (go_at_call 69;(with_reducible refine HR2.out.mono ?_);rintro e w5 ⟨rfl,hr5,hk5⟩;have HI5:=Lib.hid (HI4.out.kp hk5 hr5);have HNB5:=Lib.hid (hk5.blk HNB4.out (Blk.ne_ HNB4.out HI4.out.row (by decide)));have HK5:=Lib.hid hk5;have s0:w5.cell? ⟨q,0,none⟩=some (.int .u8 nd.nd.op):=HNB5.out.cell 0;have t2:=HC2.out w5 HI5.out.below;clear hr5 hk5))
     have HSTEP:Hid (∀ p,p<m→(if nd.nd.op=11∨nd.nd.op=13 then helL lo ws (recL k ws (recL k la fun p=>ivC (nds rn) ps l p k)) p else recL k ws (recL k la fun p=>ivC (nds rn) ps l p k) p)=ivC (nds rn) ps l p (k+1)):=Lib.hid fun p hp=>by
      rw [HWS.out]
      refine ivC_step (by rw [HAT.out];exact HXN.out) (by rw [HLL.out];exact hkl) (fun p hp=>?_) (fun p hp=>?_) p hp
      ·rw [HLAE.out,HAT.out];exact liveN_mem p hp
      ·rw [HLOE.out,HAT.out];exact liveON_mem p hp
     clear HWX HIA HNB HC1 HR1 HR2 HI3 HI4 HNB3 HNB4 t1 v0 v1 v2 v3 v4 v5 v6 v7 v8 v9 v10 v11 HBA HA1
     by_cases hop:nd.nd.op=11∨nd.nd.op=13
     ·have HSY:Hid (∀ p,p<m→helL lo ws (recL k ws (recL k la fun p=>ivC (nds rn) ps l p k)) p=ivC (nds rn) ps l p (k+1)):=Lib.hid fun p hp=>by
       have h:=HSTEP.out p hp
       rw [if_pos hop] at h
       exact h
      have gop:(nd.nd.op != 11)=false∨(nd.nd.op != 11)=true∧(nd.nd.op != 13)=false:=by
       rcases hop with h | h
       ·exact .inl (by rw [h];rfl)
       ·exact .inr ⟨by rw [h];rfl,by rw [h];rfl⟩
      clear hop HSTEP
      rcases gop with g11 | ⟨g11,g13⟩
      all_goals
       go_wp2
       clear t2 s0
       go_loopw [76] (fun s wr=>∃ j:Nat,j≤nlo∧s=.int .i64 j∧Hid (SoI w w.heap.size b R m cs (helL (lo.take j) ws (recL k ws (recL k la fun p=>ivC (nds rn) ps l p k))) wr)∧Hid (KpB w4 wr R)) (fun s _=>nlo-(intOf s).toNat)
       case atStart=>exact ⟨0,by omega,rfl,by rw [List.take_zero,helL_nil];exact HI5,HK5⟩
       case round =>
        clear HI5 HK5
        obtain ⟨j,hj,rfl,HI,HK⟩:=hrel
        by_cases hjl:j<nlo
        ·obtain ⟨by2,oy,y,hye,hby,HYY,y1⟩:=(HA2.out.below HI.out.below).int hjl
         obtain ⟨hy0,hy1⟩:=HLOI.out y (List.mem_of_getElem? HYY.out)
         obtain ⟨z,rfl⟩:∃ z:Nat,y=(z:Int):=⟨y.toNat,by omega⟩
         have hzm:z<m:=by omega
         have HCT:=Lib.hid (contains_eq w4.heap.size A3 nws c3 ws z wr (Reads.of_own_le (HOK.out wr HK.out) HO4.out) HNWS.out (by omega))
         have HTK:Hid (lo.take (j+1)=lo.take j ++ [(z:Int)]):=Lib.hid (take_at HYY.out)
         rw [hye]
         clear hye hy0 hy1
         by_cases hzw:(z:Int) ∈ ws
         ·have HD:Hid (decide ((z:Int) ∈ ws)=true):=Lib.hid (decide_eq_true hzw)
          have HSK:Hid (helL (lo.take (j+1)) ws (recL k ws (recL k la fun p=>ivC (nds rn) ps l p k))=helL (lo.take j) ws (recL k ws (recL k la fun p=>ivC (nds rn) ps l p k))):=Lib.hid (by rw [HTK.out,helL_skip hzw])
          rw [HD.out] at HCT
          clear hzw
          go_wp2_with (go_at_call 67;refine HCT.out.mono ?_;rintro e w6 ⟨rfl,hw6⟩;rw [hw6];clear hw6)
          go_roundw
          case rel=>exact ⟨j+1,by omega,by go_num,by rw [HSK.out];exact HI,HK⟩
          case measure=>simp [intOf];omega
         ·have HD:Hid (decide ((z:Int) ∈ ws)=false):=Lib.hid (decide_eq_false hzw)
          obtain ⟨G,hG⟩:∃ G,G=helL (lo.take j) ws (recL k ws (recL k la fun p=>ivC (nds rn) ps l p k)):=⟨_,rfl⟩
          have HSK:Hid (helL (lo.take (j+1)) ws (recL k ws (recL k la fun p=>ivC (nds rn) ps l p k))=upd G z ⟨(G z).p,(G z).f,(G z).t,true⟩):=Lib.hid (by
           rw [HTK.out,helL_add hzw,← hG]
           funext p
           unfold upd
           by_cases e:p=z
           ·subst e;simp
           ·rw [if_neg e,if_neg e])
          rw [← hG] at HI
          rw [HD.out] at HCT
          have b0:wr.cell? ⟨b,0,none⟩=some (.slice (some ⟨R,0,none⟩) m m):=HI.out.box.cell 0
          have r3:wr.cell? ⟨R,z*4+3,none⟩=some (.bool (G z).h):=by rw [HI.out.row.cell,ivA_at _ hzm (by decide)];rfl
          have e3:wr.frozen? ⟨R,z*4+3,none⟩=false:=HI.out.row.frozen _
          have HNW:Hid (SoI w w.heap.size b R m cs (upd G z ⟨(G z).p,(G z).f,(G z).t,true⟩) (wr.setCell ⟨R,z*4+3,none⟩ (.bool true))):=Lib.hid (HI.out.kp ((KpB.refl _ _).set _ _) (by
           have h:=HI.out.row.set_ (z*4+3) (.bool true)
           rw [ivA_h] at h
           exact h))
          have HNK:Hid (KpB w4 (wr.setCell ⟨R,z*4+3,none⟩ (.bool true)) R):=Lib.hid (HK.out.set _ _)
          clear hzw hG
          go_wp2_with (go_at_call 67;refine HCT.out.mono ?_;rintro e w6 ⟨rfl,hw6⟩;rw [hw6];clear hw6)
          go_roundw
          case rel=>exact ⟨j+1,by omega,by go_num,by rw [HSK.out];exact HNW,HNK⟩
          case measure=>simp [intOf];omega
        ·have hjn:j=nlo:=by omega
         have HFIN:Hid (SoI w w.heap.size b R m cs (fun p=>ivC (nds rn) ps l p (k+1)) wr):=Lib.hid (HI.out.congr fun p hp=>by
          rw [List.take_of_length_le (by rw [HNLO.out];omega)]
          exact HSY.out p hp)
         go_wp2
         go_roundw
         case rel=>exact ⟨k+1,by omega,by go_num,HFIN⟩
         case measure=>simp [intOf];omega
     ·have HFIN:Hid (SoI w w.heap.size b R m cs (fun p=>ivC (nds rn) ps l p (k+1)) w5):=Lib.hid (HI5.out.congr fun p hp=>by
       have h:=HSTEP.out p hp
       rw [if_neg hop] at h
       exact h)
      have g11:(nd.nd.op != 11)=true:=by simp;omega
      have g13:(nd.nd.op != 13)=true:=by simp;omega
      clear hop HSTEP
      go_wp2
      go_roundw
      case rel=>exact ⟨k+1,by omega,by go_num,HFIN⟩
      case measure=>simp [intOf];omega
    ·have hkn:k=nl:=by omega
     rw [hkn] at HI
     have HE:Hid (SoI w w.heap.size b R m cs (fun p=>ivK (nds rn) ps l (p:Int) l.length) wr):=Lib.hid (HI.out.congr fun p hp=>by rw [← HLL.out];exact ivC_end (by rw [HLL.out];omega))
     have HDEL:=Lib.hid (delete_iv2 R m (fun p=>ivK (nds rn) ps l (p:Int) l.length) wr HE.out.row (by omega))
     have b0:wr.cell? ⟨b,0,none⟩=some (.slice (some ⟨R,0,none⟩) m m):=HI.out.box.cell 0
     go_wp2_with (go_at_call 70;refine HDEL.out.mono ?_;rintro e w6 ⟨nn,G,rfl,hnn,hg6,hp6,hk6,ht6⟩;have HT6:=Lib.hid ht6;have HNN:=Lib.hid hnn;have HG6:=Lib.hid hg6;have HP6:=Lib.hid hp6;have HK6:=Lib.hid hk6;clear hnn hg6 hp6 hk6 ht6)
     go_ret
     rw [spans_kept] at HNN HP6
     exact ⟨R,nn,G,rfl,HE.out.lt,HNN.out,HG6.out,HP6.out,HT6.out,HE.out.below.trans (HK6.out.out w.heap.size HE.out.below.size HE.out.lt)⟩
noncomputable def spF (g:Gr):Nat→Iv:=fun p=>(spansG g).getD p ivZ
theorem blk_sp {w:World} {R m n:Nat} {G:Nat→Iv} {sp:List Iv} (hn:n=sp.length) (hb:Blk w R 110 (ivA m G)) (hp:∀ p,p<n→sp[p]?=some (G p)) (ht:∀ p,n≤p→p<m→G p=ivZ):Blk w R 110 (ivA m fun p=>sp.getD p ivZ):=by
 rw [ivA_congr (g':=G)]
 ·exact hb
 ·intro p hpm
  rw [List.getD_eq_getElem?_getD]
  by_cases h:p<n
  ·rw [hp p h];rfl
  ·rw [List.getElem?_eq_none (by omega),ht p (by omega) hpm];rfl
def SpPost2 (gs:List Gr) (f:Int) (w:World) (e:Ending) (w':World):Prop :=
 Below w.heap.size w w'∧∃ (A:Option Addr) (n c:Nat),e=.returned (.tuple #[.slice A n c,.int .i64 (chkL gs f)])∧(chkL gs f≠0→A=none∧n=0∧c=0) ∧
  (chkL gs f=0→∃ g R,gs[f.toNat]?=some g∧A=some ⟨R,0,none⟩∧w.heap.size≤R∧c=g.kinds.length∧n=(spansG g).length∧Blk w' R 110 (ivA c (spF g)))
theorem spans_any2 (B:Nat) (fo:Option Addr) (nF cF:Nat) (rs:List RG) (f:Int) (w:World) (h:RdP w B fo nF rs) (hB:B≤w.heap.size) (hT:TzTab w) :
  Calls Tryd.prog 31 #[.agg #[.slice fo nF cF],.int .i64 f] w (SpPost2 (grs rs) f w):=by
 have HBL:Hid (Below w.heap.size w (w.alloc (.cells #[.slice fo nF cF] 24))):=(Below.refl _ _).alloc (Nat.le_refl _) _
 have HG0:=Lib.hid (Blk.new w 24 #[.slice fo nF cF])
 have HZ1:Hid ((w.alloc (.cells #[.slice fo nF cF] 24)).heap.size=w.heap.size+1):=Lib.hid (by simp)
 have HLN:=Lib.hid (line_any B fo nF cF rs f (w.alloc (.cells #[.slice fo nF cF] 24)) (h.below (HBL.out.mono hB)) (by simp;omega))
 have HG:Hid (∀ W,Below (w.heap.size+1) (w.alloc (.cells #[.slice fo nF cF] 24)) W→W.cell? ⟨w.heap.size,0,none⟩=some (.slice fo nF cF)):=Lib.hid fun W hb=>(HG0.out.below hb (by omega)).cell 0
 have H:=Lib.hid h
 have HT:=Lib.hid hT
 clear h hT
 obtain ⟨z,hz⟩:∃ z,z=chkL (grs rs) f:=⟨_,rfl⟩
 have HZ:=Lib.hid hz
 by_cases h0:z=0
 ·subst h0
  obtain ⟨hv,k,rfl,hk⟩:=chk_zero hz.symm
  have hkF:k<nF:=by rw [length_grs,H.out.len] at hk;exact hk
  obtain ⟨b,off,r,hfe,hb,HX,HRG,HWG,x0,x1,x2,x3,x4,x5,x6,x7⟩:=H.out.gr hkF
  have HXG:Hid ((grs rs)[k]?=some r.gr):=Lib.hid (by unfold grs;rw [List.getElem?_map,HX.out];rfl)
  have hmem:r.gr ∈ grs rs:=List.mem_of_getElem? HXG.out
  have hsz:=valid_sizes hv hmem
  have hwin:=valid_writes hv hmem
  have hpin:=valid_params hv hmem
  have hlin:=lineG_in hv hmem
  rw [← HRG.out.nd] at hwin
  have HIN:Hid (∀ W,Below w.heap.size w W→Calls Tryd.prog 7 #[.agg #[.slice fo nF cF],.int .i64 k] W (LvPost liveL (grs rs) k W)):=Lib.hid fun W hb=>in_live B fo nF cF rs k W (H.out.below (hb.mono hB)) (by have:=hb.size;omega) (HT.out.below hb)
  have HOU:Hid (∀ W,Below w.heap.size w W→Calls Tryd.prog 15 #[.agg #[.slice fo nF cF],.int .i64 k] W (LvPost liveOL (grs rs) k W)):=Lib.hid fun W hb=>out_live B fo nF cF rs k W (H.out.below (hb.mono hB)) (by have:=hb.size;omega) (HT.out.below hb)
  have HSO:Hid (∀ (lA:Option Addr) (lc O1 O2 b1 b2:Nat) (vs1 vs2:Nat→Value) (W:World),Below w.heap.size w W→Reads W W.heap.size 1 lA (lineG r.gr).length (i64c (lineG r.gr))→RdL W b1 O1 r.gr.nodes.length vs1 (liveL r.gr.nodes r.gr.kinds.length)→RdL W b2 O2 r.gr.nodes.length vs2 (liveOL r.gr.nodes r.gr.kinds.length) →
    Calls Tryd.prog 50 #[.agg #[.slice r.po r.gr.params.length r.pc,.slice r.ko r.gr.kinds.length r.kc,.int .i64 r.gr.cells,.slice r.io r.gr.init.length r.ic,.bool r.gr.result,.int .i64 r.gr.keep,.slice r.no r.gr.nodes.length r.nc,.int .i64 r.gr.entry],.slice lA (lineG r.gr).length lc,.slice (some ⟨O1,0,none⟩) r.gr.nodes.length r.gr.nodes.length,.slice (some ⟨O2,0,none⟩) r.gr.nodes.length r.gr.nodes.length] W (SoPost2 r.gr.nodes r.gr.params (lineG r.gr) r.gr.kinds.length W)):=Lib.hid fun lA lc O1 O2 b1 b2 vs1 vs2 W hbw hL h1 h2=>by
   rw [← HRG.out.nd] at h1 h2 ⊢
   have hnl:(nds r.ns).length=r.gr.nodes.length:=by rw [HRG.out.nd]
   rw [hnl] at h1 h2
   rw [hnl]
   exact spansOf_any2 B r.po r.ko r.io r.no lA r.gr.params.length r.pc r.gr.kinds.length r.kc r.gr.init.length r.ic r.gr.nodes.length r.nc (lineG r.gr).length lc r.gr.cells r.gr.keep r.gr.entry r.gr.result r.ns r.gr.params (lineG r.gr) O1 O2 b1 b2 vs1 vs2 W (HRG.out.nodes.below (hbw.mono hB)) (HRG.out.params.below (hbw.mono hB)) rfl hpin.1 hpin.2 hL hlin.1 rfl hlin.2.1 hlin.2.2 h1 h2 (by have:=hbw.size;omega) hsz.2 hsz.1 hwin
  have HV:=Lib.hid hv
  have HCE:Hid (∀ W,Below w.heap.size w W→W.cell? ⟨b,off+k*8,none⟩=some (.slice r.po r.gr.params.length r.pc)∧W.cell? ⟨b,off+k*8+1,none⟩=some (.slice r.ko r.gr.kinds.length r.kc)∧W.cell? ⟨b,off+k*8+2,none⟩=some (.int .i64 r.gr.cells)∧W.cell? ⟨b,off+k*8+3,none⟩=some (.slice r.io r.gr.init.length r.ic)∧W.cell? ⟨b,off+k*8+4,none⟩=some (.bool r.gr.result)∧W.cell? ⟨b,off+k*8+5,none⟩=some (.int .i64 r.gr.keep)∧W.cell? ⟨b,off+k*8+6,none⟩=some (.slice r.no r.gr.nodes.length r.nc)∧W.cell? ⟨b,off+k*8+7,none⟩=some (.int .i64 r.gr.entry)):=Lib.hid fun W hbw=>⟨(hbw.cell (p:=⟨b,_,none⟩) (by show b<_;omega)).trans x0,(hbw.cell (p:=⟨b,_,none⟩) (by show b<_;omega)).trans x1,(hbw.cell (p:=⟨b,_,none⟩) (by show b<_;omega)).trans x2,(hbw.cell (p:=⟨b,_,none⟩) (by show b<_;omega)).trans x3,(hbw.cell (p:=⟨b,_,none⟩) (by show b<_;omega)).trans x4,(hbw.cell (p:=⟨b,_,none⟩) (by show b<_;omega)).trans x5,(hbw.cell (p:=⟨b,_,none⟩) (by show b<_;omega)).trans x6,(hbw.cell (p:=⟨b,_,none⟩) (by show b<_;omega)).trans x7⟩
  rw [hfe] at HG0 HBL HLN HIN HOU HG HZ1 H ⊢
  clear hfe x0 x1 x2 x3 x4 x5 x6 x7 hsz hwin hpin hlin hv hmem hk hz
  go_enter Tryd.func31,Tryd.ntmps31
  go_wp2_with (first
   | (go_at_call 49;refine HLN.out.mono ?_;rintro e w1 hl;obtain ⟨hb1,A1,c1,rfl,ho1⟩:=hl.ok HV.out HXG.out;rw [HZ1.out] at hb1;have HB1:=Lib.hid hb1;have HW1:=Lib.hid (HBL.out.trans (hb1.mono (by omega)));have HO1:=Lib.hid ho1;have y1:=HG.out _ hb1;clear hl hb1 ho1)
   | (go_at_call 7;refine (HIN.out _ HW1.out).mono ?_;rintro e w2 hl;obtain ⟨hb2,O2,vs2,rfl,hO2,hr2⟩:=hl.okO HV.out HXG.out;have hb2':=HB1.out.trans (hb2.mono (by have:=HB1.out.size;rw [HZ1.out] at this;exact this));have HB2:=Lib.hid hb2';have HW2:=Lib.hid (HW1.out.trans (hb2.mono HW1.out.size));have HR2:=Lib.hid hr2;have HO2:=Lib.hid (own_kept HO1.out fun g hg=>hb2.block g (own_block_le HO1.out hg).2);have y2:=HG.out _ hb2';clear hl hb2 hb2' hr2)
   | (go_at_call 15;refine (HOU.out _ HW2.out).mono ?_;rintro e w3 hl;obtain ⟨hb3,O3,vs3,rfl,hO3,hr3⟩:=hl.okO HV.out HXG.out;have hb3':=HB2.out.trans (hb3.mono (by have:=HB2.out.size;rw [HZ1.out] at this;exact this));have HB3:=Lib.hid hb3';have HW3:=Lib.hid (HW2.out.trans (hb3.mono HW2.out.size));have HR3:=Lib.hid hr3;have HR2c:=Lib.hid (HR2.out.on hb3);have HO3:=Lib.hid (own_kept HO2.out fun g hg=>hb3.block g (own_block_le HO2.out hg).2);have y3:=HG.out _ hb3';obtain ⟨q0,q1,q2,q3,q4,q5,q6,q7⟩:=HCE.out _ HW3.out;clear hl hb3 hb3' hr3)
   | (go_at_call 50;refine (HSO.out A1 c1 O2 O3 _ _ vs2 vs3 w3 HW3.out (Reads.of_own HO3.out) HR2c.out HR3.out).mono ?_;rintro e w4 ⟨R,nn,G,rfl,hR4,hn4,hb4,hp4,ht4,hbl4⟩;replace hb4:=blk_sp hn4 hb4 hp4 ht4;have HW4:=Lib.hid (HW3.out.trans (hbl4.mono HW3.out.size));have HB4:=Lib.hid hb4;have HN4:=Lib.hid hn4;have HR4:Hid (w.heap.size≤R):=Lib.hid (Nat.le_trans HW3.out.size hR4);clear hR4 hn4 hb4 hp4 hbl4))
  go_ret2
  exact ⟨HW4.out,some ⟨R,0,none⟩,nn,r.gr.kinds.length,by rw [← HZ.out];rfl,fun h=>absurd HZ.out.symm h,fun _=>⟨r.gr,R,by rw [Int.toNat_natCast];exact HXG.out,rfl,HR4.out,rfl,HN4.out,HB4.out⟩⟩
 ·have g1:(z != 0)=true:=by simpa using h0
  have H0:=Lib.hid h0
  clear h0 hz
  go_enter Tryd.func31,Tryd.ntmps31
  go_wp2_with (go_at_call 49;refine HLN.out.mono ?_;rintro e w1 hl;obtain ⟨hb1,rfl⟩:=hl.bad HZ.out.symm H0.out;rw [HZ1.out] at hb1;have HW1:=Lib.hid (HBL.out.trans (hb1.mono (by omega)));clear hl hb1)
  go_ret2
  exact ⟨HW1.out,none,0,0,by rw [← HZ.out];rfl,fun _=>⟨rfl,rfl,rfl⟩,fun h=>absurd (HZ.out.trans h) H0.out⟩
theorem spG_in {gs:List Gr} {g:Gr} (h:valid gs false) (hg:g ∈ gs) {s:Iv} (hs:s ∈ spansG g):(∃ q:Nat,s.p=q∧q<g.kinds.length∧s=ivK g.nodes g.params (lineG g) (q:Int) (lineG g).length)∧0≤s.f∧s.f≤s.t∧s.t<(lineG g).length∧(lineG g).length≤4096:=by
 obtain ⟨p,hp,e,h0⟩:=spansL_mem.1 hs
 have h1:=(lineG_in h hg).2.1
 have h2:=ivK_ok g.nodes g.params (lineG g) (p:Int) (lineG g).length
 rw [← e] at h2
 refine ⟨⟨p,by rw [e,ivK_p],hp,e⟩,?_⟩
 rcases h2 with ⟨h3,_⟩ | ⟨_,h4,h5,_⟩
 ·omega
 ·exact ⟨h0,h4,h5,h1⟩
theorem spF_mem {g:Gr} {i:Nat} (hi:i<(spansG g).length):spF g i ∈ spansG g:=by
 unfold spF
 rw [List.getD_eq_getElem?_getD,List.getElem?_eq_getElem hi]
 exact List.getElem_mem hi
theorem spG_len (g:Gr):(spansG g).length≤g.kinds.length:=spansL_len _ _ _ _
noncomputable def spS (g:Gr):Nat→Iv:=stb kyF (spansG g).length (spF g)
noncomputable def asgG (g:Gr) (q:Nat):Int:=(asRun (kdL g.kinds) (spS g) (spansG g).length).bd q
def AsPost (gs:List Gr) (f:Int) (w:World) (e:Ending) (w':World):Prop :=
 Below w.heap.size w w'∧∃ (A:Option Addr) (n:Nat),e=.returned (.tuple #[.slice A n n,.int .i64 (chkL gs f)])∧(chkL gs f≠0→A=none∧n=0) ∧
  (chkL gs f=0→∃ g b,gs[f.toNat]?=some g∧A=some ⟨b,0,none⟩∧w.heap.size≤b∧n=g.kinds.length∧Blk w' b 3 (rowA n fun q=>.int .i64 (asgG g q)))

theorem kdL_ok {gs:List Gr} {g:Gr} (h:valid gs false) (hg:g ∈ gs):∀ x ∈ g.kinds,0≤x∧x<2:=fun x hx=>by
 have:=(h.2.2.1 g hg).1.2.2 x hx
 omega
theorem asg_any (B:Nat) (fo:Option Addr) (nF cF:Nat) (rs:List RG) (f:Int) (w:World) (h:RdP w B fo nF rs) (hB:B≤w.heap.size) (hT:TzTab w) :
  Calls Tryd.prog 14 #[.agg #[.slice fo nF cF],.int .i64 f] w (AsPost (grs rs) f w):=by
 have HBL:Hid (Below w.heap.size w (w.alloc (.cells #[.slice fo nF cF] 24))):=(Below.refl _ _).alloc (Nat.le_refl _) _
 have HG0:=Lib.hid (Blk.new w 24 #[.slice fo nF cF])
 have HZ1:Hid ((w.alloc (.cells #[.slice fo nF cF] 24)).heap.size=w.heap.size+1):=Lib.hid (by simp)
 have HSP:=Lib.hid (spans_any2 B fo nF cF rs f (w.alloc (.cells #[.slice fo nF cF] 24)) (h.below (HBL.out.mono hB)) (by simp;omega) (hT.below HBL.out))
 have H:=Lib.hid h
 clear h hT
 obtain ⟨z,hz⟩:∃ z,z=chkL (grs rs) f:=⟨_,rfl⟩
 have HZ:=Lib.hid hz
 by_cases h0:z=0
 ·subst h0
  obtain ⟨hv,k,rfl,hk⟩:=chk_zero hz.symm
  have hkF:k<nF:=by rw [length_grs,H.out.len] at hk;exact hk
  obtain ⟨b,off,r,hfe,hb,HX,HRG,HWG,x0,x1,x2,x3,x4,x5,x6,x7⟩:=H.out.gr hkF
  have HXG:Hid ((grs rs)[k]?=some r.gr):=Lib.hid (by unfold grs;rw [List.getElem?_map,HX.out];rfl)
  have hmem:r.gr ∈ grs rs:=List.mem_of_getElem? HXG.out
  have hsz:=valid_sizes hv hmem
  have HKO:=Lib.hid (kdL_ok hv hmem)
  have HIN:Hid (∀ i,i<(spansG r.gr).length→(∃ q:Nat,(spF r.gr i).p=q∧q<r.gr.kinds.length)∧-1≤(spF r.gr i).f∧(spF r.gr i).f≤5000):=Lib.hid fun i hi=>by
   obtain ⟨⟨q,h1,h2,_⟩,h3,h4,h5,h6⟩:=spG_in hv hmem (spF_mem hi)
   exact ⟨⟨q,h1,h2⟩,by omega,by omega⟩
  have HCK:Hid (∀ W,Below w.heap.size w W→W.cell? ⟨b,off+k*8+1,none⟩=some (.slice r.ko r.gr.kinds.length r.kc)):=Lib.hid fun W hW=>by
   rw [hW.cell (show b<w.heap.size by omega)];exact x1
  have hgl:=spG_len r.gr
  have HSZ:=Lib.hid hsz
  have HGL:=Lib.hid hgl
  rw [hfe] at HG0 HBL HSP HZ1 H ⊢
  clear hfe x0 x1 x2 x3 x4 x5 x6 x7 hv hmem hk hz hsz hgl
  have HAS:Hid (∀ (W:World) (R:Nat),Below w.heap.size w W→w.heap.size≤R→Blk W R 110 (ivA r.gr.kinds.length (spF r.gr))→Calls Tryd.prog 32 #[.slice (some ⟨R,0,none⟩) (spansG r.gr).length r.gr.kinds.length,.slice r.ko r.gr.kinds.length r.kc] W fun e w' =>
    ∃ g,e=.returned (.slice (some ⟨g,0,none⟩) r.gr.kinds.length r.gr.kinds.length)∧W.heap.size≤g∧Blk w' g 3 (rowA r.gr.kinds.length fun q=>.int .i64 (asgG r.gr q))∧Below w.heap.size w w'):=Lib.hid fun W R hW hR hblk=>by
   refine (assign_any R (spansG r.gr).length r.gr.kinds.length r.gr.kinds.length r.kc r.ko (spF r.gr) r.gr.kinds W hblk (fun i hi=>(HIN.out i hi).2) HGL.out (by have:=HSZ.out;omega) (by have:=HSZ.out;have:=HGL.out;omega) HSZ.out.1 ?_ ?_ HKO.out (fun j hj=>(HIN.out j hj).1)).mono ?_
   ·exact (HRG.out.kinds.below (hW.mono hB)).more (by have:=hW.size;omega)
   ·intro kb ko2 he hm0 hne
    obtain ⟨ad,e1,e2,_⟩:=HRG.out.kinds.2 hm0
    rw [he] at e1
    injection e1 with e1
    rw [← e1] at e2
    simp at e2
    omega
   ·rintro e w' ⟨g,rfl,hg,hbk,hkp⟩
    exact ⟨g,rfl,hg,hbk,hW.trans (hkp.out w.heap.size hW.size hR)⟩
  go_enter Tryd.func14,Tryd.ntmps14
  go_wp2_with (first
   | (go_at_call 31;refine HSP.out.mono ?_;rintro e w2 ⟨hb2,A2,n2,c2,rfl,_,hp2⟩;obtain ⟨g2,R2,hg2,rfl,hR2,rfl,rfl,hk2⟩:=hp2 HZ.out.symm;rw [Int.toNat_natCast,HXG.out] at hg2;injection hg2 with hg2;subst hg2;rw [HZ1.out] at hb2 hR2;rw [← HZ.out];have HW2:=Lib.hid (HBL.out.trans (hb2.mono (by omega)));have HA2:=Lib.hid (HAS.out w2 R2 HW2.out (by omega) hk2);have y0:w2.cell? ⟨w.heap.size,0,none⟩=some (.slice (some ⟨b,off,none⟩) nF cF):=(HG0.out.below hb2 (by omega)).cell 0;have y1:=HCK.out w2 HW2.out;clear hb2 hp2 hR2 hk2)
   | (go_at_call 32;refine HA2.out.mono ?_;rintro e w3 ⟨g3,rfl,hg3,hbk3,hb3⟩;have HG3:=Lib.hid hg3;have HK3:=Lib.hid hbk3;have HB3:=Lib.hid hb3;clear hg3 hbk3 hb3)
   | go_in)
  go_ret2
  refine ⟨HB3.out,some ⟨g3,0,none⟩,r.gr.kinds.length,by rw [← HZ.out];rfl,fun h=>absurd HZ.out.symm h,fun _=>⟨r.gr,g3,by rw [Int.toNat_natCast];exact HXG.out,rfl,Nat.le_trans HW2.out.size HG3.out,rfl,HK3.out⟩⟩
 ·have g1:(z != 0)=true:=by simpa using h0
  have H0:=Lib.hid h0
  clear h0 hz
  go_enter Tryd.func14,Tryd.ntmps14
  go_wp2_with (first
   | (go_at_call 31;refine HSP.out.mono ?_;rintro e w2 ⟨hb2,A2,n2,c2,rfl,hp2,_⟩;obtain ⟨rfl,rfl,rfl⟩:=hp2 (by rw [← HZ.out];exact H0.out);rw [HZ1.out] at hb2;rw [← HZ.out];have HW2:=Lib.hid (HBL.out.trans (hb2.mono (by omega)));clear hb2 hp2)
   | go_in)
  go_ret2
  exact ⟨HW2.out,none,0,by rw [← HZ.out];rfl,fun _=>⟨rfl,rfl⟩,fun h=>absurd (HZ.out.trans h) H0.out⟩
theorem sp_apart:∀ (ns:List Nd) (ps l:List Int) (m:Nat),(spansL ns ps l m).Pairwise (fun s t=>s.p<t.p)∧∀ s ∈ spansL ns ps l m,s.p<m
 | ns,ps,l,0=>by simp [spansL]
 | ns,ps,l,m+1=>by
  obtain ⟨h1,h2⟩:=sp_apart ns ps l m
  rw [spansL_succ]
  have hp:(ivK ns ps l (m:Int) l.length).p=m:=ivK_p _ _ _ _ _
  refine ⟨List.pairwise_append.2 ⟨h1,by split <;> simp,fun a ha b hb=>?_⟩,fun s hs=>?_⟩
  ·split at hb
   ·rw [List.mem_singleton] at hb
    rw [hb,hp]
    exact h2 a ha
   ·cases hb
  ·rcases List.mem_append.1 hs with h | h
   ·have:=h2 s h;omega
   ·split at h
    ·rw [List.mem_singleton] at h
     rw [h,hp];omega
    ·cases h
theorem spF_apart (g:Gr) {i j:Nat} (hij:i<j) (hj:j<(spansG g).length):(spF g i).p<(spF g j).p:=by
 have h:=(sp_apart g.nodes g.params (lineG g) g.kinds.length).1
 have h2:=List.pairwise_iff_getElem.1 h i j (by exact Nat.lt_trans hij hj) hj hij
 have e:∀ k (hk:k<(spansG g).length),spF g k=(spansG g)[k]:=fun k hk=>by
  unfold spF
  rw [List.getD_eq_getElem?_getD,List.getElem?_eq_getElem hk];rfl
 rw [e i (by omega),e j hj]
 exact h2
theorem kd_lt {gs:List Gr} {g:Gr} (h:valid gs false) (hg:g ∈ gs) (q:Nat):kdL g.kinds q<2:=by
 unfold kdL
 rw [List.getD_eq_getElem?_getD]
 by_cases hq:q<g.kinds.length
 ·have:=kdL_ok h hg _ (List.getElem_mem hq)
  rw [List.getElem?_eq_getElem hq,Option.getD_some]
  omega
 ·rw [List.getElem?_eq_none (by omega)];decide
structure RtI (g:Gr) (l:Nat→Int):Prop where
 none_:∀ q,(∀ i,i<(spansG g).length→(spF g i).p.toNat≠q)→l q=-1
 dom:∀ i,i<(spansG g).length→0≤l (spF g i).p.toNat∧(l (spF g i).p.toNat≤11∨16≤l (spF g i).p.toNat)∧l (spF g i).p.toNat<16+g.kinds.length∧((spF g i).h=true→6≤l (spF g i).p.toNat∧(l (spF g i).p.toNat<16→kdL g.kinds (spF g i).p.toNat≠1))
 two:∀ i j,i<(spansG g).length→j<(spansG g).length→i≠j→l (spF g i).p.toNat=l (spF g j).p.toNat→¬ ((spF g i).f≤(spF g j).t∧(spF g j).f≤(spF g i).t)∧(16≤l (spF g i).p.toNat→kdL g.kinds (spF g i).p.toNat=kdL g.kinds (spF g j).p.toNat)
 slot:∀ (i:Nat) (x:Int),i<(spansG g).length→16≤x→x≤l (spF g i).p.toNat→∃ j,j<(spansG g).length∧l (spF g j).p.toNat=x
theorem asg_right {gs:List Gr} {g:Gr} (h:valid gs false) (hg:g ∈ gs):RtI g (asgG g):=by
 obtain ⟨n,hn⟩:∃ n,n=(spansG g).length:=⟨_,rfl⟩
 obtain ⟨hso,hpr⟩:=stb_ok kyF n (spF g)
 have hS:spS g=stb kyF n (spF g):=by unfold spS;rw [hn]
 rw [← hS] at hso hpr
 obtain ⟨π,ρ,hπ⟩:=hpr
 have hS2:∀ a,a<n→spS g a=spF g (π a):=fun a ha=>(hπ a ha).2.2.2.2
 have hS3:∀ i,i<n→ρ i<n∧spS g (ρ i)=spF g i:=fun i hi=>by
  obtain ⟨a1,a2,a3,a4,a5⟩:=hπ i hi
  exact ⟨a2,by rw [hS2 _ a2,a3]⟩
 have hin:∀ i,i<n→∃ q:Nat,(spF g i).p=q∧q<g.kinds.length:=fun i hi=>by
  obtain ⟨⟨q,h1,h2,_⟩,_⟩:=spG_in h hg (spF_mem (by rw [← hn];exact hi))
  exact ⟨q,h1,h2⟩
 have hinj:∀ i j,i<n→j<n→(spF g i).p.toNat=(spF g j).p.toNat→i=j:=fun i j hi hj e=>by
  obtain ⟨q,h1,_⟩:=hin i hi
  obtain ⟨q2,h2,_⟩:=hin j hj
  rcases Nat.lt_trichotomy i j with hlt | heq | hgt
  ·have:=spF_apart g hlt (by omega);omega
  ·exact heq
  ·have:=spF_apart g hgt (by omega);omega
 have hd:∀ a b,a<b→b<n→(spS g a).p.toNat≠(spS g b).p.toNat:=fun a b hab hb e=>by
  obtain ⟨a1,a2,a3,a4,a5⟩:=hπ a (by omega)
  obtain ⟨b1,b2,b3,b4,b5⟩:=hπ b hb
  rw [hS2 a (by omega),hS2 b hb] at e
  have:=hinj _ _ a1 b1 e
  have:a=b:=by rw [← a4,← b4,this]
  omega
 obtain ⟨fam,hR⟩:=RI.all (kd:=kdL g.kinds) (S:=spS g) (n:=n) (fun a _=>kd_lt h hg _) hd (fun a b hab hb=>hso a b (by omega) hab hb) n (Nat.le_refl _)
 have hl:∀ q,asgG g q=(asRun (kdL g.kinds) (spS g) n).bd q:=fun q=>by unfold asgG;rw [hn]
 have hnm:n≤g.kinds.length:=by rw [hn];exact spG_len g
 have hnx:=hR.nx
 refine ⟨fun q hq=>?_,fun i hi=>?_,fun i j hi hj hij e=>?_,fun i x hi h1 h2=>?_⟩
 ·rw [hl]
  refine hR.out q (fun a ha=>?_)
  rw [hS2 a ha]
  exact hq _ (by rw [← hn];exact (hπ a ha).1)
 ·obtain ⟨c1,c2⟩:=hS3 i (by omega)
  obtain ⟨d1,d2,d3,d4⟩:=hR.asg (ρ i) c1
  rw [hl]
  rw [c2] at d1 d2 d3 d4
  have hk3:=kd_lt h hg (spF g i).p.toNat
  rcases d1 with ⟨e0,e1,e2⟩ | ⟨e0,e1,e2⟩ | ⟨e0,e1,e2⟩
  ·exact ⟨e1,.inl (by omega),by omega,fun hh=>absurd e0 (d2 hh)⟩
  ·exact ⟨by omega,.inl (by omega),by omega,fun hh=>⟨e1,fun _ e=>by have:=d3 hh e;omega⟩⟩
  ·exact ⟨by omega,.inr e1,by omega,fun hh=>⟨by omega,fun _=>by omega⟩⟩
 ·obtain ⟨c1,c2⟩:=hS3 i (by omega)
  obtain ⟨k1,k2⟩:=hS3 j (by omega)
  have hne:ρ i≠ρ j:=fun e2=>hij (hinj i j (by omega) (by omega) (by rw [← c2,← k2,e2]))
  rw [hl,hl] at e
  obtain ⟨d1,d2,d3,d4⟩:=hR.asg (ρ i) c1
  obtain ⟨m1,m2,m3,m4⟩:=hR.asg (ρ j) k1
  rw [c2] at d1 d2 d3 d4
  rw [k2] at m1 m2 m3 m4
  refine ⟨fun hm=>?_,fun hx=>?_⟩
  ·rcases Nat.lt_or_gt_of_ne hne with hlt | hgt
   ·have:=hR.ovl (ρ i) (ρ j) hlt k1 (by rw [c2,k2];exact e)
    rw [c2,k2] at this
    omega
   ·have:=hR.ovl (ρ j) (ρ i) hgt c1 (by rw [c2,k2];exact e.symm)
    rw [c2,k2] at this
    omega
  ·rw [hl] at hx
   have f2:2≤fam ((asRun (kdL g.kinds) (spS g) n).bd (spF g i).p.toNat):=by
    rcases d1 with ⟨_,_,e2⟩ | ⟨_,_,e2⟩ | ⟨e0,_,_⟩ <;> omega
   have f3:=d4 f2
   rw [e] at f2 f3
   have f4:=m4 f2
   omega
 ·rw [hl] at h2
  obtain ⟨c1,c2⟩:=hS3 i (by omega)
  obtain ⟨d1,_⟩:=hR.asg (ρ i) c1
  rw [c2] at d1
  have hxl:x<(asRun (kdL g.kinds) (spS g) n).nx:=by
   rcases d1 with ⟨_,_,e2⟩ | ⟨_,_,e2⟩ | ⟨_,_,e2⟩ <;> omega
  obtain ⟨a,ha,hax⟩:=hR.slot x h1 hxl
  rw [hS2 a ha] at hax
  exact ⟨π a,by rw [← hn];exact (hπ a ha).1,by rw [hl];exact hax⟩
end Go.Proofs.YtepkogfiojkcpaaDoor
