/-
  Texts of one seat, one behind the other: LAft, LOut, LRm, OLin, OLn, OSo, OSp.
-/
import Derived.Test.YtepkogfiojkcpaaDoorMA13
import Derived.Test.YtepkogfiojkcpaaDoorMA5
import Derived.Test.YtepkogfiojkcpaaDoorMA8

set_option linter.unusedVariables false
set_option linter.unusedSimpArgs false
set_option maxRecDepth 100000
set_option maxHeartbeats 51200000
namespace Go.Proofs.YtepkogfiojkcpaaDoor
open Go.ChangeShapes Go.WideShapes Go.ChangeAt Go.RowKit
def orS (wss:List (List Nat)) (i q:Nat) (vs:List Nat):List (List Nat):=wss.set i (orK (wss.getD i []) vs q)
theorem hasS_or {wss:List (List Nat)} {n q m i:Nat} {vs:List Nat} (h:WfS wss n q m) (hi:i<n) (hv:vs.length=q) (a b:Nat):hasS (orS wss i q vs) a b=(hasS wss a b || (decide (a=i) && hasW vs b)):=by
 unfold hasS orS
 rw [List.getD_eq_getElem?_getD,List.getElem?_set]
 by_cases e:i=a
 ·subst e
  rw [if_pos rfl,if_pos (by rw [h.len];exact hi),Option.getD_some,orK_has (h.each _ (getD_mem _ (by rw [h.len];exact hi))) hv]
  simp
 ·rw [if_neg e,← List.getD_eq_getElem?_getD]
  have:¬ a=i:=fun h=>e h.symm
  simp [this]
theorem orS_wf {wss:List (List Nat)} {n q m i:Nat} {vs:List Nat} (h:WfS wss n q m) (hi:i<n) (hv:vs.length=q) (hl:∀ x ∈ vs,x<18446744073709551616) (hm:∀ j,hasW vs j=true→j<m):WfS (orS wss i q vs) n q m:=by
 have hmem:=getD_mem [] (show i<wss.length by rw [h.len];exact hi)
 refine ⟨by simp [orS,h.len],fun ws hw=>?_,fun ws hw=>?_,fun a b hab=>?_⟩
 ·rcases List.mem_or_eq_of_mem_set hw with hw | rfl
  ·exact h.each ws hw
  ·rw [orK_len];exact h.each _ hmem
 ·rcases List.mem_or_eq_of_mem_set hw with hw | rfl
  ·exact h.lt ws hw
  ·exact orK_lt (h.lt _ hmem) hl q
 ·rw [hasS_or h hi hv] at hab
  rcases Bool.or_eq_true _ _ ▸ hab with hab | hab
  ·exact h.most a b hab
  ·simp at hab
   exact hm b hab.2
structure OvI (ns:List Nd) (wss:List (List Nat)) (k j:Nat):Prop where
 low:∀ i,i<k→∀ p:Nat,hasS wss i p=true↔LiveO ns p i
 mid:∀ p:Nat,hasS wss k p=true↔∃ nd,ns[k]?=some nd∧∃ x:Nat,(x:Int) ∈ (nextsOf nd).take j∧Live ns p x
 high:∀ i,k<i→∀ p,hasS wss i p=false
theorem OvI.start (ns:List Nd) (n q:Nat):OvI ns (List.replicate n (List.replicate q 0)) 0 0 :=
 ⟨fun i hi=>absurd hi (by omega),fun p=>by rw [zeroS_has];simp,fun i _ p=>zeroS_has n q i p⟩
theorem OvI.next {ns:List Nd} {wss:List (List Nat)} {k j:Nat} {nd:Nd} (h:OvI ns wss k j) (hn:ns[k]?=some nd) (hj:(nextsOf nd).length≤j):OvI ns wss (k+1) 0:=by
 refine ⟨fun i hi p=>?_,fun p=>?_,fun i hi p=>h.high i (by omega) p⟩
 ·by_cases e:i=k
  ·subst e
   rw [h.mid p]
   unfold LiveO
   constructor
   ·rintro ⟨n2,h1,x,h2,h3⟩
    exact ⟨n2,h1,x,List.mem_of_mem_take h2,h3⟩
   ·rintro ⟨n2,h1,x,h2,h3⟩
    have e2:n2=nd:=by
     rw [hn] at h1
     injection h1 with h1
     exact h1.symm
    subst e2
    exact ⟨n2,h1,x,by rw [List.take_of_length_le hj];exact h2,h3⟩
  ·exact h.low i (by omega) p
 ·rw [h.high (k+1) (by omega) p]
  simp
theorem OvI.step {ns:List Nd} {wa wss:List (List Nat)} {k j n q m x:Nat} {nd:Nd} (h:OvI ns wss k j) (hw:WfS wss n q m) (hk:k<n) (hl:(wa.getD x []).length=q) (hn:ns[k]?=some nd) (hx:(nextsOf nd)[j]?=some (x:Int)) (hL:∀ i p,hasS wa i p=true↔Live ns p i) :
  OvI ns (orS wss k q (wa.getD x [])) k (j+1):=by
 refine ⟨fun i hi p=>?_,fun p=>?_,fun i hi p=>?_⟩
 ·rw [hasS_or hw hk hl]
  have:¬ i=k:=by omega
  simpa [this] using h.low i hi p
 ·rw [hasS_or hw hk hl,Bool.or_eq_true,h.mid p]
  simp only [decide_true,Bool.true_and]
  rw [show hasW (wa.getD x []) p=hasS wa x p from rfl,hL x p]
  constructor
  ·rintro (⟨n2,h1,y,h2,h3⟩ | h1)
   ·refine ⟨n2,h1,y,?_,h3⟩
    rw [List.take_add_one]
    exact List.mem_append_left _ h2
   ·exact ⟨nd,hn,x,by rw [List.take_add_one,hx];simp,h1⟩
  ·rintro ⟨n2,h1,y,h2,h3⟩
   have e2:n2=nd:=by
    rw [hn] at h1
    injection h1 with h1
    exact h1.symm
   subst e2
   rw [List.take_add_one,hx] at h2
   rcases List.mem_append.1 h2 with h2 | h2
   ·exact .inl ⟨n2,h1,y,h2,h3⟩
   ·have:y=x:=by
     have:(y:Int)=x:=by simpa using h2
     omega
    subst this
    exact .inr h3
 ·rw [hasS_or hw hk hl,h.high i hi p]
  have:¬ i=k:=by omega
  simp [this]
section
variable {w w':World} {R n q m k:Nat} {wss:List (List Nat)}
theorem SetsI.or {vs:List Nat} (h:SetsI w R n q m wss) (hk:k<n) (hb:Blk w' (R+1+2*k) 26 (u64n (orK (wss.getD k []) vs q)).toArray) (kp:KpB w w' (R+1+2*k)) (hv:vs.length=q) (hl:∀ x ∈ vs,x<18446744073709551616) (hm:∀ j,hasW vs j=true→j<m):SetsI w' R n q m (orS wss k q vs):=by
 refine ⟨kp.blk h.row (by omega),fun i hi=>kp.blk (h.box i hi) (by omega),fun i hi=>?_,orS_wf h.wf hk hv hl hm,h.qm,h.mb⟩
 by_cases e:i=k
 ·subst e
  unfold orS
  rw [List.getD_eq_getElem?_getD,List.getElem?_set,if_pos rfl,if_pos (by rw [h.wf.len];exact hi),Option.getD_some]
  exact hb
 ·unfold orS
  rw [List.getD_eq_getElem?_getD,List.getElem?_set,if_neg (fun h=>e h.symm),← List.getD_eq_getElem?_getD]
  exact kp.blk (h.words i hi) (by omega)
theorem SetsI.apart {b:Nat} {ws:List Nat} (h:SetsI w R n q m wss) (hw:Blk w b 26 (u64n ws).toArray) (kp:KpB w w' b) (hb:∀ i,i<n→R+1+2*i≠b):SetsI w' R n q m wss :=
 ⟨kp.blk h.row (Blk.ne_ h.row hw (by decide)),fun i hi=>kp.blk (h.box i hi) (Blk.ne_ (h.box i hi) hw (by decide)),fun i hi=>kp.blk (h.words i hi) (hb i hi),h.wf,h.qm,h.mb⟩
end
structure AfI (W:World) (Ra Rb n q m:Nat) (wa wb:List (List Nat)) (wr:World):Prop where
 sa:SetsI wr Ra n q m wa
 sb:SetsI wr Rb n q m wb
 ap:∀ i j,i<n→j<n→Ra+1+2*i≠Rb+1+2*j
 below:Below W.heap.size W wr
 lb:W.heap.size<Rb
theorem AfI.on {W wr w':World} {Ra Rb n q m:Nat} {wa wb:List (List Nat)} (h:AfI W Ra Rb n q m wa wb wr) (hb:Below wr.heap.size wr w'):AfI W Ra Rb n q m wa wb w' :=
 ⟨h.sa.below hb,h.sb.below hb,h.ap,h.below.trans (hb.mono h.below.size),h.lb⟩
theorem AfI.A {W w1 w2 w3:World} {Ra Rb n q m:Nat} {wa wb:List (List Nat)} (h0:Below W.heap.size W w1) (hz:W.heap.size<w1.heap.size) (ha:SetsI w2 Ra n q m wa) (hb:Below w1.heap.size w1 w2) (hc:SetsI w3 Rb n q m wb) (hd:Below w2.heap.size w2 w3) (he:w2.heap.size≤Rb):AfI W Ra Rb n q m wa wb w3:=by
 have h1:=hb.size
 refine ⟨ha.below hd,hc,fun i j hi hj=>?_,(h0.trans (hb.mono h0.size)).trans (hd.mono (by omega)),by omega⟩
 have:=(ha.words i hi).lt
 omega
theorem AfI.B {W w1 w2 w3:World} {Ra Rb n q m:Nat} {wa wb:List (List Nat)} (h0:Below W.heap.size W w1) (hz:W.heap.size<w1.heap.size) (hc:SetsI w2 Rb n q m wb) (hb:Below w1.heap.size w1 w2) (hr:w1.heap.size≤Rb) (ha:SetsI w3 Ra n q m wa) (hd:Below w2.heap.size w2 w3) (he:w2.heap.size≤Ra):AfI W Ra Rb n q m wa wb w3:=by
 have h1:=hb.size
 refine ⟨ha,hc.below hd,fun i j hi hj=>?_,(h0.trans (hb.mono h0.size)).trans (hd.mono (by omega)),by omega⟩
 have:=(hc.words j hj).lt
 omega
theorem liveAfter_any (B:Nat) (po ko io no:Option Addr) (nP pc nK kc nI ic n nc q:Nat) (cells keep entry:Int) (res:Bool) (rn:List RN) (w:World) (hN:RdNs w B no n rn) (hB:B≤w.heap.size) (hn:n≤4096) (hK:nK≤1024) (hq:q=(nK+63) / 64) (hv:NextIn (nds rn)) (hrd:ReadIn (nds rn) nK) :
  Calls Tryd.prog 33 #[.agg #[.slice po nP pc,.slice ko nK kc,.int .i64 cells,.slice io nI ic,.bool res,.int .i64 keep,.slice no n nc,.int .i64 entry]] w fun e w' =>
   ∃ R wss,e=.returned (.slice (some ⟨R,0,none⟩) n n)∧SetsI w' R n q nK wss∧(∀ i,i<n→∀ p:Nat,hasS wss i p=true↔LiveO (nds rn) p i)∧Below w.heap.size w w'∧w.heap.size<R:=by
 have hb1:Below w.heap.size w (w.alloc (.cells #[.slice po nP pc,.slice ko nK kc,.int .i64 cells,.slice io nI ic,.bool res,.int .i64 keep,.slice no n nc,.int .i64 entry] 38)):=(Below.refl _ _).alloc (Nat.le_refl _) _
 have hg1:=Blk.new w 38 #[.slice po nP pc,.slice ko nK kc,.int .i64 cells,.slice io nI ic,.bool res,.int .i64 keep,.slice no n nc,.int .i64 entry]
 have HAT:Hid (∀ W,Below w.heap.size w W→Calls Tryd.prog 20 #[.agg #[.slice po nP pc,.slice ko nK kc,.int .i64 cells,.slice io nI ic,.bool res,.int .i64 keep,.slice no n nc,.int .i64 entry]] W fun e w' =>
   ∃ R wss,e=.returned (.slice (some ⟨R,0,none⟩) n n)∧SetsI w' R n q nK wss∧(∀ i p,hasS wss i p=true↔Live (nds rn) p i)∧Below W.heap.size W w'∧W.heap.size<R):=Lib.hid fun W hbw=>liveAt_any B po ko io no nP pc nK kc nI ic n nc q cells keep entry res rn W (hN.below (hbw.mono hB)) (by have:=hbw.size;omega) hn hK hq hv hrd
 have HNW:=Lib.hid (fun W=>newSets_any po ko io no nP pc nK kc nI ic n nc q cells keep entry res W hn hK hq)
 have HRN:=Lib.hid hN
 have HV:=Lib.hid hv
 have HLN:Hid ((nds rn).length=n):=Lib.hid (by rw [length_nds];exact hN.len)
 obtain ⟨W1,hW1⟩:∃ W,W=(w.alloc (.cells #[.slice po nP pc,.slice ko nK kc,.int .i64 cells,.slice io nI ic,.bool res,.int .i64 keep,.slice no n nc,.int .i64 entry] 38)):=⟨_,rfl⟩
 have HZ1:Hid (w.heap.size<W1.heap.size):=Lib.hid (by rw [hW1];simp)
 have HB1:Hid (Below w.heap.size w W1):=Lib.hid (by rw [hW1];exact hb1)
 have HG1:Hid (Blk W1 w.heap.size 38 #[.slice po nP pc,.slice ko nK kc,.int .i64 cells,.slice io nI ic,.bool res,.int .i64 keep,.slice no n nc,.int .i64 entry]):=Lib.hid (by rw [hW1];exact hg1)
 clear hN hv hrd hb1 hg1
 go_enter Tryd.func33,Tryd.ntmps33
 go_upto_region 1 with fail
 rw [← hW1]
 clear hW1 hq
 go_cut [3,4] (fun s3 s4 wx=>∃ Ra Rb wa,s3=.slice (some ⟨Ra,0,none⟩) n n∧s4=.slice (some ⟨Rb,0,none⟩) n n∧Hid (AfI w Ra Rb n q nK wa (List.replicate n (List.replicate q 0)) wx)∧Hid (∀ i p,hasS wa i p=true↔Live (nds rn) p i)∧Hid (Blk wx w.heap.size 38 #[.slice po nP pc,.slice ko nK kc,.int .i64 cells,.slice io nI ic,.bool res,.int .i64 keep,.slice no n nc,.int .i64 entry]))
 case first =>
  have x0:W1.cell? ⟨w.heap.size,0,none⟩=some (.slice po nP pc):=HG1.out.cell 0
  have x1:W1.cell? ⟨w.heap.size,1,none⟩=some (.slice ko nK kc):=HG1.out.cell 1
  have x2:W1.cell? ⟨w.heap.size,2,none⟩=some (.int .i64 cells):=HG1.out.cell 2
  have x3:W1.cell? ⟨w.heap.size,3,none⟩=some (.slice io nI ic):=HG1.out.cell 3
  have x4:W1.cell? ⟨w.heap.size,4,none⟩=some (.bool res):=HG1.out.cell 4
  have x5:W1.cell? ⟨w.heap.size,5,none⟩=some (.int .i64 keep):=HG1.out.cell 5
  have x6:W1.cell? ⟨w.heap.size,6,none⟩=some (.slice no n nc):=HG1.out.cell 6
  have x7:W1.cell? ⟨w.heap.size,7,none⟩=some (.int .i64 entry):=HG1.out.cell 7
  have HX:Hid (∀ W,Below W1.heap.size W1 W→Blk W w.heap.size 38 #[.slice po nP pc,.slice ko nK kc,.int .i64 cells,.slice io nI ic,.bool res,.int .i64 keep,.slice no n nc,.int .i64 entry]):=Lib.hid fun W hb=>HG1.out.below hb HG1.out.lt
  go_region_law (go_simp;first
   | (go_at_call 20;refine (HAT.out W1.drew HB1.out.drew).mono ?_;rintro e w2 ⟨Ra,wa,rfl,hs2,hl2,hb2,hlt2⟩;have HY:=Lib.hid (HX.out w2 ((Below.refl _ _).drew.trans hb2));have y0:=(HY.out.cell 0:w2.cell? ⟨w.heap.size,0,none⟩=some (.slice po nP pc));have y1:=(HY.out.cell 1:w2.cell? ⟨w.heap.size,1,none⟩=some (.slice ko nK kc));have y2:=(HY.out.cell 2:w2.cell? ⟨w.heap.size,2,none⟩=some (.int .i64 cells));have y3:=(HY.out.cell 3:w2.cell? ⟨w.heap.size,3,none⟩=some (.slice io nI ic));have y4:=(HY.out.cell 4:w2.cell? ⟨w.heap.size,4,none⟩=some (.bool res));have y5:=(HY.out.cell 5:w2.cell? ⟨w.heap.size,5,none⟩=some (.int .i64 keep));have y6:=(HY.out.cell 6:w2.cell? ⟨w.heap.size,6,none⟩=some (.slice no n nc));have y7:=(HY.out.cell 7:w2.cell? ⟨w.heap.size,7,none⟩=some (.int .i64 entry)))
   | (go_at_call 57;refine (HNW.out W1.drew).mono ?_;rintro e w2 ⟨rfl,hs2,hb2,hz2⟩;have HY:=Lib.hid (HX.out w2 ((Below.refl _ _).drew.trans hb2));have HB2:=Lib.hid (HB1.out.drew.trans (hb2.mono HB1.out.size));have y0:=(HY.out.cell 0:w2.cell? ⟨w.heap.size,0,none⟩=some (.slice po nP pc));have y1:=(HY.out.cell 1:w2.cell? ⟨w.heap.size,1,none⟩=some (.slice ko nK kc));have y2:=(HY.out.cell 2:w2.cell? ⟨w.heap.size,2,none⟩=some (.int .i64 cells));have y3:=(HY.out.cell 3:w2.cell? ⟨w.heap.size,3,none⟩=some (.slice io nI ic));have y4:=(HY.out.cell 4:w2.cell? ⟨w.heap.size,4,none⟩=some (.bool res));have y5:=(HY.out.cell 5:w2.cell? ⟨w.heap.size,5,none⟩=some (.int .i64 keep));have y6:=(HY.out.cell 6:w2.cell? ⟨w.heap.size,6,none⟩=some (.slice no n nc));have y7:=(HY.out.cell 7:w2.cell? ⟨w.heap.size,7,none⟩=some (.int .i64 entry)))
   | (go_at_call 57;refine (HNW.out w2).mono ?_;rintro e w3 ⟨rfl,hs3,hb3,hz3⟩;have HY3:=Lib.hid (HY.out.below hb3 HY.out.lt))
   | (go_at_call 20;refine (HAT.out w2 HB2.out).mono ?_;rintro e w3 ⟨Ra,wa,rfl,hs3,hl3,hb3,hlt3⟩;have HY3:=Lib.hid (HY.out.below hb3 HY.out.lt)))
  all_goals
   go_wp2_with fail
   go_meet
   first
    | exact ⟨_,_,_,rfl,rfl,Lib.hid (AfI.A HB1.out.drew HZ1.out hs2 hb2 hs3 hb3 (Nat.le_succ _)),Lib.hid hl2,HY3⟩
    | exact ⟨_,_,_,rfl,rfl,Lib.hid (AfI.B HB1.out.drew HZ1.out hs2 hb2 (Nat.le_succ _) hs3 hb3 (Nat.le_of_lt hlt3)),Lib.hid hl3,HY3⟩
 case rest =>
  obtain ⟨Ra,Rb,wa,rfl,rfl,HA0,HLV,HY⟩:=hcut
  have g6:wc.cell? ⟨w.heap.size,6,none⟩=some (.slice no n nc):=HY.out.cell 6
  clear HNW HAT HG1 HB1 HZ1 W1
  go_wp2
  clear g6
  go_loopw [16] (fun i wr=>∃ (k:Nat) (wb:List (List Nat)),k≤n∧i=.int .i64 k∧Hid (AfI w Ra Rb n q nK wa wb wr)∧Hid (OvI (nds rn) wb k 0)) (fun i _=>n-(intOf i).toNat)
  case atStart=>exact ⟨0,_,by omega,rfl,HA0,Lib.hid (OvI.start _ _ _)⟩
  case round =>
   clear HA0 HY
   obtain ⟨k,wb,hk,rfl,HA,HO⟩:=hrel
   by_cases hlt:k<n
   ·obtain ⟨bn,on,i,hno,hbn,HXI,HRN1,HWI,u0,u1,u2,u3,u4,u5,u6,u7,u8,u9,u10,u11⟩:=(HRN.out.below (HA.out.below.mono hB)).nd hlt
    have HXN:Hid ((nds rn)[k]?=some i.nd):=Lib.hid (by unfold nds;rw [List.getElem?_map,HXI.out];rfl)
    have hwz:=HA.out.below.size
    have hbnr:bn<wr.heap.size:=by omega
    have hb6:Below wr.heap.size wr (wr.alloc (.cells #[.int .u8 i.nd.op,.int .u8 i.nd.bop,.int .i64 i.nd.d,.int .i64 i.nd.e,.int .i64 i.nd.a,.int .i64 i.nd.b,.int .i64 i.nd.f,.int .i64 i.nd.cell,.int .u64 i.nd.imm,.slice i.ao i.nd.args.length i.ac,.int .i64 i.nd.next,.int .i64 i.nd.els] 60)):=(Below.refl _ _).alloc (Nat.le_refl _) _
    have HNX:=Lib.hid (gnext_own i.nd.op i.nd.bop i.nd.d i.nd.e i.nd.a i.nd.b i.nd.f i.nd.cell i.nd.imm i.nd.args i.nd.next i.nd.els i.ao i.nd.args.length i.ac (wr.alloc (.cells #[.int .u8 i.nd.op,.int .u8 i.nd.bop,.int .i64 i.nd.d,.int .i64 i.nd.e,.int .i64 i.nd.a,.int .i64 i.nd.b,.int .i64 i.nd.f,.int .i64 i.nd.cell,.int .u64 i.nd.imm,.slice i.ao i.nd.args.length i.ac,.int .i64 i.nd.next,.int .i64 i.nd.els] 60)) HWI.out.o0 HWI.out.o1)
    have HB6:=Lib.hid hb6
    rw [hno]
    have HNO:=Lib.hid hno
    clear hno hb6
    obtain ⟨xs,hxs⟩:∃ xs,xs=nextsOf ⟨i.nd.op,i.nd.bop,i.nd.d,i.nd.e,i.nd.a,i.nd.b,i.nd.f,i.nd.cell,i.nd.imm,i.nd.args,i.nd.next,i.nd.els⟩:=⟨_,rfl⟩
    rw [← hxs] at HNX
    have HXS:Hid (xs=nextsOf i.nd):=Lib.hid hxs
    have HXI2:Hid (∀ x ∈ xs,0≤x∧x<(n:Int)):=Lib.hid (by
     rw [HXS.out,← HLN.out]
     exact nextIn_at HV.out HXN.out)
    have hm2:xs.length≤2:=by rw [HXS.out];exact nexts_len _
    clear hxs
    go_wp2_with (go_at_call 58;refine HNX.out.mono ?_;rintro e w5 ⟨A5,c5,rfl,ho5,hc5,hb5⟩;have HO5:=Lib.hid ho5;have HA5:=Lib.hid (HA.out.on (HB6.out.trans (hb5.mono HB6.out.size)));clear ho5 hb5)
    clear u0 u1 u2 u3 u4 u5 u6 u7 u8 u9 u10 u11 hbnr
    obtain ⟨m,hm⟩:∃ m,m=xs.length:=⟨_,rfl⟩
    rw [← hm] at HO5 hm2 hc5 ⊢
    have HM:=Lib.hid hm
    obtain ⟨b5,hb5⟩:∃ b,b=(wr.alloc (.cells #[.int .u8 i.nd.op,.int .u8 i.nd.bop,.int .i64 i.nd.d,.int .i64 i.nd.e,.int .i64 i.nd.a,.int .i64 i.nd.b,.int .i64 i.nd.f,.int .i64 i.nd.cell,.int .u64 i.nd.imm,.slice i.ao i.nd.args.length i.ac,.int .i64 i.nd.next,.int .i64 i.nd.els] 60)).heap.size:=⟨_,rfl⟩
    rw [← hb5] at HO5
    clear hm hb5 HA HNX HB6 HRN1
    go_loopw [24] (fun i wr=>∃ (j:Nat) (wb:List (List Nat)),j≤m∧i=.int .i64 j∧Hid (AfI w Ra Rb n q nK wa wb wr)∧Hid (OvI (nds rn) wb k j)∧Hid (wr.ownsRow b5 3 1 (.slice A5 m c5) m (i64c xs))) (fun i _=>m-(intOf i).toNat)
    case atStart=>exact ⟨0,wb,by omega,rfl,HA5,HO,HO5⟩
    case round =>
     clear HA5 HO HO5
     obtain ⟨j,wb,hj,rfl,HA,HO,HR⟩:=hrel
     by_cases hjl:j<m
     ·obtain ⟨bx,ox,x,hxe,hbx,HXX,x1⟩:=(Reads.of_own HR.out).int hjl
      obtain ⟨hx0,hx1⟩:=HXI2.out x (List.mem_of_getElem? HXX.out)
      obtain ⟨y,rfl⟩:∃ y:Nat,x=(y:Int):=⟨x.toNat,by omega⟩
      have hy:y<n:=by omega
      have ra:wr.cell? ⟨Ra,y,none⟩=some (.pointer (some ⟨Ra+2+2*y,0,none⟩)):=by rw [HA.out.sa.row.cell,rowA_at _ hy]
      have rb:wr.cell? ⟨Rb,k,none⟩=some (.pointer (some ⟨Rb+2+2*k,0,none⟩)):=by rw [HA.out.sb.row.cell,rowA_at _ hlt]
      have hma:=getD_mem [] (show y<wa.length by rw [HA.out.sa.wf.len];exact hy)
      have hmb:=getD_mem [] (show k<wb.length by rw [HA.out.sb.wf.len];exact hlt)
      have HL1:=Lib.hid (HA.out.sa.wf.each _ hma)
      have HL2:=Lib.hid (HA.out.sa.wf.lt _ hma)
      have HL3:Hid (∀ j,hasW (wa.getD y []) j=true→j<nK):=Lib.hid fun j hj=>HA.out.sa.wf.most y j hj
      have HOR:=Lib.hid (lor_any (Rb+2+2*k) (Rb+1+2*k) (Ra+2+2*y) (Ra+1+2*y) nK q (wb.getD k []) (wa.getD y []) wr.drew (HA.out.sb.box k hlt) (HA.out.sb.words k hlt) (HA.out.sa.box y hy) (HA.out.sa.words y hy) (HA.out.sb.wf.each _ hmb) HL1.out (HA.out.sb.wf.lt _ hmb) HL2.out hK HA.out.sa.qm HL3.out (HA.out.ap y k hy hlt))
      have HST:=Lib.hid (HO.out.step HA.out.sb.wf hlt HL1.out HXN.out (show (nextsOf i.nd)[j]?=some (y:Int) by rw [← HXS.out];exact HXX.out) HLV.out)
      have HXE:=Lib.hid hxe
      rw [hxe]
      clear hxe hx0 hx1 hma hmb HXX
      go_wp2
      go_still_tail 8,(by kernel_rfl)
      change wpList _ _ _ _ _ wr.drew
      go_wp2_with (go_at_call 59;refine HOR.out.mono ?_;rintro e w7 ⟨⟨bo,rfl⟩,hb7,hk7⟩;have HB7:=Lib.hid hb7;have HK7:=Lib.hid hk7;clear hb7 hk7)
      go_roundw
      case rel =>
       rw [← HXE.out]
       have hwb:Blk wr (Rb+1+2*k) 26 _:=HA.out.sb.words k hlt
       have hbe:Below w.heap.size wr w7:=(Below.refl _ _).drew.trans (HK7.out.out w.heap.size HA.out.below.size (by have:=HA.out.lb;omega))
       refine ⟨j+1,_,by omega,by go_num,Lib.hid ⟨SetsI.apart (w:=wr.drew) (HA.out.sa.drewN 1) hwb HK7.out (fun i hi=>HA.out.ap i k hi hlt),SetsI.or (w:=wr.drew) (HA.out.sb.drewN 1) hlt HB7.out HK7.out HL1.out HL2.out HL3.out,HA.out.ap,HA.out.below.trans hbe,HA.out.lb⟩,HST,Lib.hid (own_kept (w:=wr.drew) HR.out fun g hg=>HK7.out.block g (own_block_le HR.out hg).2 fun e=>own_blk_ne HR.out hwb (by decide) (by rw [hg,e]))⟩
      case measure=>simp [intOf];omega
     ·obtain rfl:m=j:=by omega
      have HNXT:=Lib.hid (HO.out.next HXN.out (by rw [← HXS.out,← HM.out];exact Nat.le_refl _))
      go_wp2
      go_roundw
      case rel=>exact ⟨k+1,wb,by omega,by go_num,HA,HNXT⟩
      case measure=>simp [intOf];omega
   ·have hkn:k=n:=by omega
    rw [hkn] at HO
    go_wp2
    go_ret
    exact ⟨Rb,wb,rfl,HA.out.sb,HO.out.low,HA.out.below,HA.out.lb⟩
theorem out_live (B:Nat) (fo:Option Addr) (nF cF:Nat) (rs:List RG) (f:Int) (w:World) (h:RdP w B fo nF rs) (hB:B≤w.heap.size) (hT:TzTab w) :
  Calls Tryd.prog 15 #[.agg #[.slice fo nF cF],.int .i64 f] w (LvPost liveOL (grs rs) f w):=by
 have HBL:Hid (Below w.heap.size w (w.alloc (.cells #[.slice fo nF cF] 24))):=(Below.refl _ _).alloc (Nat.le_refl _) _
 have HG:=Lib.hid (Blk.new w 24 #[.slice fo nF cF])
 have HV:=Lib.hid (lcheck_any B fo nF cF rs f (w.alloc (.cells #[.slice fo nF cF] 24)) (h.below (HBL.out.mono hB)) (by simp;omega))
 have H:=Lib.hid h
 have HT:=Lib.hid hT
 clear h hT
 obtain ⟨z,hz⟩:∃ z,z=chkL (grs rs) f:=⟨_,rfl⟩
 rw [← hz] at HV
 have HZ:=Lib.hid hz
 clear hz
 by_cases h0:z=0
 ·subst h0
  obtain ⟨hv,k,rfl,hk⟩:=chk_zero HZ.out.symm
  have hkF:k<nF:=by rw [length_grs,H.out.len] at hk;exact hk
  obtain ⟨b,off,r,rfl,hb,HX,HRG,HWG,x0,x1,x2,x3,x4,x5,x6,x7⟩:=H.out.gr hkF
  have HXG:Hid ((grs rs)[k]?=some r.gr):=Lib.hid (by unfold grs;rw [List.getElem?_map,HX.out];rfl)
  have hmem:r.gr ∈ grs rs:=List.mem_of_getElem? HXG.out
  have hsz:=valid_sizes hv hmem
  have hrin:=valid_reads hv hmem
  have hnin:=valid_next hv hmem
  rw [← HRG.out.nd] at hrin hnin
  have HSZ:=Lib.hid hsz
  have HAT:Hid (∀ W,Below w.heap.size w W→Calls Tryd.prog 33 #[.agg #[.slice r.po r.gr.params.length r.pc,.slice r.ko r.gr.kinds.length r.kc,.int .i64 r.gr.cells,.slice r.io r.gr.init.length r.ic,.bool r.gr.result,.int .i64 r.gr.keep,.slice r.no r.gr.nodes.length r.nc,.int .i64 r.gr.entry]] W fun e w' =>
   ∃ R wss,e=.returned (.slice (some ⟨R,0,none⟩) r.gr.nodes.length r.gr.nodes.length)∧SetsI w' R r.gr.nodes.length ((r.gr.kinds.length+63) / 64) r.gr.kinds.length wss∧(∀ i,i<r.gr.nodes.length→∀ p:Nat,hasS wss i p=true↔LiveO (nds r.ns) p i)∧Below W.heap.size W w'∧W.heap.size<R):=Lib.hid fun W hbw =>
    liveAfter_any B r.po r.ko r.io r.no r.gr.params.length r.pc r.gr.kinds.length r.kc r.gr.init.length r.ic r.gr.nodes.length r.nc ((r.gr.kinds.length+63) / 64) r.gr.cells r.gr.keep r.gr.entry r.gr.result r.ns W (HRG.out.nodes.below (hbw.mono hB)) (by have:=hbw.size;omega) hsz.2 hsz.1 rfl hnin hrin
  clear hsz hrin hnin hv hk
  go_enter Tryd.func15,Tryd.ntmps15
  go_wp2_with (first
   | (go_at_call 18;refine HV.out.mono ?_;rintro e w2 ⟨rfl,hb2⟩;have HB2:=Lib.hid (HBL.out.trans (hb2.mono HBL.out.size));have g6:w2.cell? ⟨w.heap.size,0,none⟩=some (.slice (some ⟨b,off,none⟩) nF cF):=(HG.out.below hb2 HG.out.lt).cell 0;have bc:=HB2.out;have y0:=(bc.cell (p:=⟨b,off+k*8,none⟩) (by show b<_;omega)).trans x0;have y1:=(bc.cell (p:=⟨b,off+k*8+1,none⟩) (by show b<_;omega)).trans x1;have y2:=(bc.cell (p:=⟨b,off+k*8+2,none⟩) (by show b<_;omega)).trans x2;have y3:=(bc.cell (p:=⟨b,off+k*8+3,none⟩) (by show b<_;omega)).trans x3;have y4:=(bc.cell (p:=⟨b,off+k*8+4,none⟩) (by show b<_;omega)).trans x4;have y5:=(bc.cell (p:=⟨b,off+k*8+5,none⟩) (by show b<_;omega)).trans x5;have y6:=(bc.cell (p:=⟨b,off+k*8+6,none⟩) (by show b<_;omega)).trans x6;have y7:=(bc.cell (p:=⟨b,off+k*8+7,none⟩) (by show b<_;omega)).trans x7;clear hb2 bc)
   | (go_at_call 33;refine (HAT.out _ HB2.out).mono ?_;rintro e w3 ⟨R,wss,rfl,hs3,hl3,hb3,_⟩;have HS3:=Lib.hid hs3;have HL3:=Lib.hid hl3;have HB3:=Lib.hid (HB2.out.trans (hb3.mono HB2.out.size));clear hs3 hl3 hb3)
   | (go_at_call 19;refine (lists_any R _ _ _ wss w3 HS3.out HSZ.out.2 (HT.out.below HB3.out)).mono ?_;rintro e w4 ⟨vs,rfl,hr4,hb4⟩;have HR4:=Lib.hid hr4;have HB4:=Lib.hid (HB3.out.trans (hb4.mono HB3.out.size));clear hr4 hb4))
  go_ret2
  refine ⟨HB4.out,some ⟨w3.heap.size,0,none⟩,r.gr.nodes.length,r.gr.nodes.length,by rw [← HZ.out];rfl,fun h=>absurd HZ.out.symm h,fun _=>⟨w3.heap.size,vs,r.gr,HXG.out,rfl,rfl,rfl,HB3.out.size,HR4.out.row,fun i hi=>?_⟩⟩
  have e1:=liveOL_of HS3.out.wf rfl (fun p=>HL3.out i hi p)
  rw [HRG.out.nd] at e1
  rw [← e1]
  exact own_more (HR4.out.own i hi) HB3.out.size
 ·have g1:(z != 0)=true:=by simpa using h0
  have H0:=Lib.hid h0
  clear h0
  go_enter Tryd.func15,Tryd.ntmps15
  go_wp2_with (first
   | (go_at_call 18;refine HV.out.mono ?_;rintro e w2 ⟨rfl,hb2⟩;have HB2:=Lib.hid (HBL.out.trans (hb2.mono HBL.out.size));clear hb2))
  go_ret2
  exact ⟨HB2.out,none,0,0,by rw [← HZ.out];rfl,fun _=>⟨rfl,rfl,rfl⟩,fun h=>absurd (HZ.out.trans h) H0.out⟩
def ruleL (I:Nat→Nat→Bool) (nd:Nd) (p:Nat):Bool:=decide ((p:Int) ∈ readsOf nd) || (nextsOf nd).any fun x=>I x.toNat p && !decide ((p:Int) ∈ writesOf nd)
def upd2 (I:Nat→Nat→Bool) (i p:Nat):Nat→Nat→Bool:=fun a b=>if a=i∧b=p then true else I a b
theorem upd2_or (I:Nat→Nat→Bool) (i p a b:Nat):upd2 I i p a b=(I a b || decide (a=i∧b=p)):=by
 unfold upd2
 by_cases h:a=i∧b=p
 ·rw [if_pos h];simp [h]
 ·rw [if_neg h];simp [h]
def SndL (ns:List Nd) (I:Nat→Nat→Bool) (n m:Nat):Prop:=∀ i p:Nat,i<n→p<m→I i p=true→Live ns p i
theorem SndL.step {ns:List Nd} {I:Nat→Nat→Bool} {n m i p:Nat} {nd:Nd} (h:SndL ns I n m) (hn:ns[i]?=some nd) (hv:∀ x ∈ nextsOf nd,0≤x∧x<(n:Int)) (hp:p<m) (hr:ruleL I nd p=true):SndL ns (upd2 I i p) n m:=by
 intro a b ha hb hab
 rw [upd2_or] at hab
 rcases Bool.or_eq_true _ _ ▸ hab with hab | hab
 ·exact h a b ha hb hab
 ·obtain ⟨rfl,rfl⟩:=of_decide_eq_true hab
  unfold ruleL at hr
  rcases Bool.or_eq_true _ _ ▸ hr with hr | hr
  ·exact .here hn (of_decide_eq_true hr)
  ·obtain ⟨x,hx,h2⟩:=List.any_eq_true.1 hr
   obtain ⟨h3,h4⟩:=Bool.and_eq_true _ _ ▸ h2
   obtain ⟨h5,h6⟩:=hv x hx
   have h7:¬ (b:Int) ∈ writesOf nd:=by simpa using h4
   exact .next (j:=x.toNat) hn h7 (by rw [Int.toNat_of_nonneg h5];exact hx) (h x.toNat b (by omega) hb h3)
structure InI (W:World) (R n m:Nat) (cs:Array Value) (I:Nat→Nat→Bool) (wr:World):Prop where
 gr:Blk wr W.heap.size 38 cs
 row:Blk wr R 159 (rowA n fun i=>.slice (some ⟨R+1+i,0,none⟩) m m)
 bits:∀ i,i<n→Blk wr (R+1+i) 4 (rowA m fun p=>.bool (I i p))
 below:Below W.heap.size W wr
 at_:R=W.heap.size+1
structure KpI (w0 w:World) (E R n:Nat):Prop where
 size:w0.heap.size≤w.heap.size
 block:∀ i,i<E→(∀ j,j<n→i≠R+1+j)→w.heap[i]?=w0.heap[i]?
section
variable {W w0 w wr w':World} {E R n m:Nat} {cs:Array Value} {I:Nat→Nat→Bool}
theorem InI.on (h:InI W R n m cs I wr) (hb:Below wr.heap.size wr w'):InI W R n m cs I w' :=
 ⟨h.gr.below hb h.gr.lt,h.row.below hb h.row.lt,fun i hi=>(h.bits i hi).below hb (h.bits i hi).lt,h.below.trans (hb.mono h.below.size),h.at_⟩
theorem InI.set (h:InI W R n m cs I wr) {i p:Nat} (hi:i<n) (hp:p<m):InI W R n m cs (upd2 I i p) (wr.setCell ⟨R+1+i,p,none⟩ (.bool true)):=by
 have ha:=h.at_
 refine ⟨h.gr.far (p:=⟨R+1+i,p,none⟩) (by show W.heap.size≠R+1+i;omega) _,h.row.far (p:=⟨R+1+i,p,none⟩) (by show R≠R+1+i;omega) _,fun k hk=>?_,h.below.setCell (p:=⟨R+1+i,p,none⟩) (by show W.heap.size≤R+1+i;omega) _,ha⟩
 by_cases e:k=i
 ·subst e
  have h1:=(h.bits k hk).set_ p (.bool true)
  rw [rowA_set] at h1
  rw [rowA_congr (g:=upd (fun p=>.bool (I k p)) p (.bool true)) (fun b hb=>by
   unfold upd upd2
   by_cases e:b=p
   ·rw [if_pos ⟨rfl,e⟩,if_pos e]
   ·rw [if_neg (fun h=>e h.2),if_neg e])]
  exact h1
 ·rw [rowA_congr (g:=fun p=>.bool (I k p)) (fun b hb=>by
   unfold upd2
   rw [if_neg (fun h=>e h.1)])]
  exact (h.bits k hk).far (p:=⟨R+1+i,p,none⟩) (by show R+1+k≠R+1+i;omega) _
theorem KpI.refl (w:World) (E R n:Nat):KpI w w E R n:=⟨Nat.le_refl _,fun _ _ _=>rfl⟩
theorem KpI.below {E':Nat} (h:KpI w0 w E R n) (k:Below E' w w') (hE:E≤E'):KpI w0 w' E R n:=⟨Nat.le_trans h.size k.size,fun i hi hj=>(k.block i (by omega)).trans (h.block i hi hj)⟩
theorem KpI.set (h:KpI w0 w E R n) {j:Nat} (hj:j<n) (k:Nat) (u:Value):KpI w0 (w.setCell ⟨R+1+j,k,none⟩ u) E R n :=
 ⟨by simpa [World.setCell] using h.size,fun i hi hne=>(Below.heap_setCell w ⟨R+1+j,k,none⟩ u i (hne j hj)).trans (h.block i hi hne)⟩
theorem KpI.blk {g:Nat} {t:TypeId} {c:Array Value} (h:KpI w0 w E R n) (hs:InI W R n m cs I w0) (hb:Blk w0 g t c) (ht:4≠t) (hg:g<E):Blk w g t c :=
 (h.block g hg fun j hj e=>by
  subst e
  exact Blk.ne_ (hs.bits j hj) hb ht rfl).trans hb
theorem KpI.reads {B k:Nat} {A:Option Addr} {l:List Int} (hk:KpI w0 w E R n) (hs:InI W R n m cs I w0) (h:Reads w0 B 1 A k (i64c l)) (hB:B≤E):Reads w B 1 A k (i64c l):=by
 refine ⟨h.1,fun hn=>?_⟩
 obtain ⟨b,off,rfl,hb,hc⟩:=h.lit hn (by omega)
 have hne:∀ j,j<n→b≠R+1+j:=by
  intro j hj e
  subst e
  have hl:0<l.length:=by have:=h.1;rw [length_i64c] at this;omega
  have h1:=hc 0 _ (i64c_at (List.getElem?_eq_getElem hl))
  have hw:=(hs.bits j hj).cell (off+0)
  rw [hw] at h1
  unfold rowA at h1
  rw [List.getElem?_toArray,List.getElem?_map] at h1
  rcases e2:(List.range m)[off+0]? with _ | y
  ·rw [e2] at h1;cases h1
  ·rw [e2] at h1
   injection h1 with h1
   cases h1
 refine ⟨⟨b,off,none⟩,rfl,hb,fun j u hu=>?_⟩
 have ea:(⟨b,off,none⟩:Addr).add j=⟨b,off+j,none⟩:=by simp [Addr.add]
 rw [ea]
 exact (World.cell?_of_block (hk.block b (by omega) hne)).trans (hc j u hu)
end
theorem info_bool:(Tryd.prog.info? 4).map (fun i=>(i.zero,i.size,i.bytes))=some (some (.bool false),1,1):=by kernel_rfl
theorem VI.startA {W w1:World} (n nc:Nat) (no:Option Addr) (h:Below W.heap.size W w1) :
  VI W (w1.heap.size+1) w1.heap.size n no nc ⟨fun _=>false,[]⟩ (.slice none 0 0) ((w1.alloc (.cells (madeCells #[.bool false] n) 4)).alloc (.cells #[.slice no n nc,.slice (some ⟨w1.heap.size,0,none⟩) n n,.slice none 0 0] 161)).drew:=by
 have hz:=h.size
 have h1:=Blk.new w1 4 (madeCells #[.bool false] n)
 have h2:=Blk.new (w1.alloc (.cells (madeCells #[.bool false] n) 4)) 161 #[.slice no n nc,.slice (some ⟨w1.heap.size,0,none⟩) n n,.slice none 0 0]
 rw [show (w1.alloc (.cells (madeCells #[.bool false] n) 4)).heap.size=w1.heap.size+1 by simp] at h2
 rw [rowA_made] at h1 h2 ⊢
 exact ⟨h2,h1.alloc _,own_none _ _ _ _,((h.alloc hz _).alloc (by simp;omega) _).drew,by omega,hz⟩
theorem VI.startB {W w1:World} (n nc:Nat) (no:Option Addr) (h:Below W.heap.size W w1) :
  VI W w1.heap.size (w1.heap.size+1) n no nc ⟨fun _=>false,[]⟩ (.slice none 0 0) ((w1.alloc (.cells #[.slice no n nc,.slice (some ⟨w1.heap.size+1,0,none⟩) n n,.slice none 0 0] 161)).alloc (.cells (madeCells #[.bool false] n) 4)).drew:=by
 have hz:=h.size
 have h1:=Blk.new w1 161 #[.slice no n nc,.slice (some ⟨w1.heap.size+1,0,none⟩) n n,.slice none 0 0]
 have h2:=Blk.new (w1.alloc (.cells #[.slice no n nc,.slice (some ⟨w1.heap.size+1,0,none⟩) n n,.slice none 0 0] 161)) 4 (madeCells #[.bool false] n)
 rw [show (w1.alloc (.cells #[.slice no n nc,.slice (some ⟨w1.heap.size+1,0,none⟩) n n,.slice none 0 0] 161)).heap.size=w1.heap.size+1 by simp] at h2
 rw [rowA_made] at h2 ⊢
 exact ⟨h1.alloc _,h2,own_none _ _ _ _,((h.alloc hz _).alloc (by simp;omega) _).drew,hz,by omega⟩
theorem left_ok {ns:List Nd} (hv:NextIn ns) {e:Nat} (he:e<ns.length):0<(leftK ns e).length∧(leftK ns e).length≤ns.length:=by
 have h:=lineK_ok hv he
 have hl:(lineK ns e).length=(leftK ns e).length:=by unfold lineK;rw [List.length_reverse]
 obtain ⟨r,hr⟩:=h.first
 have h1:=h.len
 have h2:0<(lineK ns e).length:=by rw [hr];simp
 omega
theorem lineOf_any (B : Nat) (po ko io no : Option Addr) (nP pc nK kc nI ic n nc en : Nat) (cells keep : Int) (res : Bool) (rn : List RN) (w : World) (hN : RdNs w B no n rn) (hB : B ≤ w.heap.size) (hn : n ≤ 4096) (hv : NextIn (nds rn)) (hen : en < n) :
    Calls Tryd.prog 68 #[.agg #[.slice po nP pc, .slice ko nK kc, .int .i64 cells, .slice io nI ic, .bool res, .int .i64 keep, .slice no n nc, .int .i64 en]] w (NewO w (lineK (nds rn) en)) := by
  have hmb : ∀ W : World, (Instr.makeSlice 159 (.int .i64 n) (.int .i64 n)).run Tryd.prog W = .ok (.slice (some ⟨W.heap.size, 0, none⟩) n n) (W.alloc (.cells (madeCells #[.bool false] n) 4)) := fun W => run_make_row' _ _ _ 1 Tryd.underlying159 info_bool rfl .i64 .i64 n (by omega) (by omega) W
  have hb1 : Below w.heap.size w (w.alloc (.cells #[.slice po nP pc, .slice ko nK kc, .int .i64 cells, .slice io nI ic, .bool res, .int .i64 keep, .slice no n nc, .int .i64 en] 38)) := (Below.refl _ _).alloc (Nat.le_refl _) _
  have hg1 := Blk.new w 38 #[.slice po nP pc, .slice ko nK kc, .int .i64 cells, .slice io nI ic, .bool res, .int .i64 keep, .slice no n nc, .int .i64 en]
  obtain ⟨W1, hW1⟩ : ∃ W, W = (w.alloc (.cells #[.slice po nP pc, .slice ko nK kc, .int .i64 cells, .slice io nI ic, .bool res, .int .i64 keep, .slice no n nc, .int .i64 en] 38)) := ⟨_, rfl⟩
  rw [← hW1] at hb1 hg1
  have HG1 := Lib.hid hg1
  have HB1 := Lib.hid hb1
  have hz1 : w.heap.size < W1.heap.size := hg1.lt
  have HN := Lib.hid hN
  have HV := Lib.hid hv
  have HLN : Hid ((nds rn).length = n) := Lib.hid (by rw [length_nds]; exact hN.len)
  have c6 : W1.cell? ⟨w.heap.size, 6, none⟩ = some (.slice no n nc) := hg1.cell 6
  have c7 : W1.cell? ⟨w.heap.size, 7, none⟩ = some (.int .i64 en) := hg1.cell 7
  clear hN hv hb1 hg1
  go_enter Tryd.func68, Tryd.ntmps68
  go_upto_region 1 with fail
  rw [← hW1]
  clear hW1
  go_cut [3] (fun s3 wx => ∃ b fl : Nat, s3 = .pointer (some ⟨b, 0, none⟩) ∧ Hid (VI w b fl n no nc ⟨fun _ => false, []⟩ (.slice none 0 0) wx) ∧ Hid (Blk wx w.heap.size 38 #[.slice po nP pc, .slice ko nK kc, .int .i64 cells, .slice io nI ic, .bool res, .int .i64 keep, .slice no n nc, .int .i64 en]))
  case first =>
    go_region
    all_goals
      go_wp2_with fail
      go_meet
      first
        | exact ⟨_, _, rfl, Lib.hid (VI.startA n nc no HB1.out), Lib.hid (((HG1.out.alloc _).alloc _).drew)⟩
        | exact ⟨_, _, rfl, Lib.hid (VI.startB n nc no HB1.out), Lib.hid (((HG1.out.alloc _).alloc _).drew)⟩
  case rest =>
    obtain ⟨b, fl, rfl, HI, HG⟩ := hcut
    clear hmb c6 c7 HG1 HB1 hz1 W1
    have d7 : wc.cell? ⟨w.heap.size, 7, none⟩ = some (.int .i64 en) := HG.out.cell 7
    have HVI := Lib.hid (visit_any B b fl n nc no rn w HN.out hB hn HV.out n en ⟨fun _ => false, []⟩ (.slice none 0 0) wc hen rfl (by rw [show (DSt.mk (fun _ => false) []).seen = fun _ => false from rfl, unS_none]; exact Nat.le_refl _) (by rw [show (DSt.mk (fun _ => false) []).seen = fun _ => false from rfl, unS_none]; show 0 + n ≤ n; omega) HI.out)
    have hlo := left_ok HV.out (show en < (nds rn).length by rw [HLN.out]; exact hen)
    rw [HLN.out] at hlo
    obtain ⟨q, hq⟩ : ∃ q, q = (leftK (nds rn) en).length := ⟨_, rfl⟩
    rw [← hq] at hlo
    obtain ⟨hq0, hq1⟩ := hlo
    have HQ := Lib.hid hq
    clear hq
    have HLK : Hid ((vis (nds rn) n en ⟨fun _ => false, []⟩).left = leftK (nds rn) en) := Lib.hid (by unfold leftK; rw [HLN.out])
    go_wp2_with (first
      | (go_at_call 91; refine HVI.out.mono ?_; rintro e w2 ⟨rfl, v2, h2, _⟩; obtain ⟨A2, c2, rfl⟩ := own_slice h2.own; have h2o := h2.own; have h2b := h2.box; rw [HLK.out, ← HQ.out] at h2o h2b; have HO2 := Lib.hid h2o; have HX2 := Lib.hid h2b; have HB2 := Lib.hid h2.below; have x2 : w2.cell? ⟨b, 2, none⟩ = some (.slice A2 q c2) := h2b.cell 2; have HR := Lib.hid (reverse_any w.heap.size A2 q c2 (leftK (nds rn) en) w2 h2o (by omega) hq0); clear h2 h2o h2b)
      | (go_at_call 92; refine HR.out.mono ?_; rintro e w3 ⟨rfl, ho3, hb3, hk3, hz3⟩; have HO3 := Lib.hid ho3; have HB3 := Lib.hid (HB2.out.trans hb3); have x3 : w3.cell? ⟨b, 2, none⟩ = some (.slice A2 q c2) := by
            have h : Blk w3 b 161 _ := (hk3 b (own_blk_ne HO2.out HX2.out (by decide))).trans HX2.out
            exact h.cell 2
         clear ho3 hb3 hk3 hz3))
    have HLL : Hid ((lineK (nds rn) en).length = q) := Lib.hid (by unfold lineK; rw [List.length_reverse]; exact HQ.out.symm)
    go_ret
    exact ⟨A2, c2, by rw [HLL.out]; rfl, by rw [HLL.out]; exact HO3.out, by rw [HLL.out]; exact own_cap HO3.out, HB3.out⟩
def lineG (g:Gr):List Int:=lineK g.nodes g.entry.toNat
theorem valid_entry {gs:List Gr} {g:Gr} (h:valid gs false) (hg:g ∈ gs):∃ en:Nat,g.entry=(en:Int)∧en<g.nodes.length:=by
 have hh:=(h.2.2.1 g hg).2.2.2.2.2.2.2
 obtain ⟨h0,h1⟩:=hh
 exact ⟨g.entry.toNat,by omega,by omega⟩
theorem lineG_ok {gs:List Gr} {g:Gr} (h:valid gs false) (hg:g ∈ gs):LineP g.nodes g.entry.toNat (lineG g):=by
 obtain ⟨en,e,he⟩:=valid_entry h hg
 refine lineK_ok (valid_next h hg) (by omega)
def LnPost (gs:List Gr) (f:Int) (w:World) (e:Ending) (w':World):Prop :=
 Below w.heap.size w w'∧∃ (A:Option Addr) (n c:Nat),e=.returned (.tuple #[.slice A n c,.int .i64 (chkL gs f)])∧(chkL gs f≠0→A=none∧n=0∧c=0)∧(chkL gs f=0→∃ g,gs[f.toNat]?=some g∧n=(lineG g).length∧w'.ownsRow w.heap.size 3 1 (.slice A n c) n (i64c (lineG g)))
theorem line_any (B:Nat) (fo:Option Addr) (nF cF:Nat) (rs:List RG) (f:Int) (w:World) (h:RdP w B fo nF rs) (hB:B≤w.heap.size) :
  Calls Tryd.prog 49 #[.agg #[.slice fo nF cF],.int .i64 f] w (LnPost (grs rs) f w):=by
 have HBL:Hid (Below w.heap.size w (w.alloc (.cells #[.slice fo nF cF] 24))):=(Below.refl _ _).alloc (Nat.le_refl _) _
 have HG:=Lib.hid (Blk.new w 24 #[.slice fo nF cF])
 have HV:=Lib.hid (check_any B fo nF cF rs false (w.alloc (.cells #[.slice fo nF cF] 24)) (h.below (HBL.out.mono hB)) (by simp;omega))
 have HL:Hid ((grs rs).length=nF):=Lib.hid (by rw [length_grs];exact h.len)
 have H:=Lib.hid h
 clear h
 by_cases hv:valid (grs rs) false
 ·rw [if_pos hv] at HV
  by_cases h0:f<0
  ·have HC:Hid (chkL (grs rs) f=2):=Lib.hid (by unfold chkL;rw [if_pos hv,if_pos (.inl h0)])
   have g0:decide (f<0)=true:=by simpa using h0
   clear hv h0
   go_enter Tryd.func49,Tryd.ntmps49
   go_wp2_with (go_at_call 37;refine HV.out.mono ?_;rintro e w2 ⟨rfl,hb2⟩;have HB2:=Lib.hid hb2;clear hb2)
   go_ret2
   exact ⟨HBL.out.trans (HB2.out.mono (by simp)),none,0,0,by rw [HC.out];rfl,fun _=>⟨rfl,rfl,rfl⟩,fun h=>by rw [HC.out] at h;cases h⟩
  ·have g0:decide (f<0)=false:=by simpa using h0
   by_cases h1:(nF:Int)≤f
   ·have HC:Hid (chkL (grs rs) f=2):=Lib.hid (by unfold chkL;rw [if_pos hv,HL.out,if_pos (.inr h1)])
    have g1:decide (f≥(nF:Int))=true:=by simpa using h1
    have g2:decide ((nF:Int)≤f)=true:=by simpa using h1
    clear hv h0 h1
    go_enter Tryd.func49,Tryd.ntmps49
    go_wp2_with (go_at_call 37;refine HV.out.mono ?_;rintro e w2 ⟨rfl,hb2⟩;have HB2:=Lib.hid hb2;have g6:w2.cell? ⟨w.heap.size,0,none⟩=some (.slice fo nF cF):=(HG.out.below hb2 HG.out.lt).cell 0;clear hb2)
    go_ret2
    exact ⟨HBL.out.trans (HB2.out.mono (by simp)),none,0,0,by rw [HC.out];rfl,fun _=>⟨rfl,rfl,rfl⟩,fun h=>by rw [HC.out] at h;cases h⟩
   ·have HC:Hid (chkL (grs rs) f=0):=Lib.hid (by unfold chkL;rw [if_pos hv,HL.out,if_neg (fun h=>h.elim h0 h1)])
    obtain ⟨k,rfl⟩:∃ k:Nat,f=(k:Int):=⟨f.toNat,by omega⟩
    have hkF:k<nF:=by omega
    obtain ⟨b,off,r,rfl,hb,HX,HRG,HWG,x0,x1,x2,x3,x4,x5,x6,x7⟩:=H.out.gr hkF
    have HXG:Hid ((grs rs)[k]?=some r.gr):=Lib.hid (by unfold grs;rw [List.getElem?_map,HX.out];rfl)
    have hmem:r.gr ∈ grs rs:=List.mem_of_getElem? HXG.out
    have hsz:=valid_sizes hv hmem
    have hnin:=valid_next hv hmem
    obtain ⟨en,hent,hen⟩:=valid_entry hv hmem
    rw [← HRG.out.nd] at hnin
    rw [hent] at x7
    have HENT:=Lib.hid hent
    have HLI:Hid (∀ W,Below w.heap.size w W→Calls Tryd.prog 68 #[.agg #[.slice r.po r.gr.params.length r.pc,.slice r.ko r.gr.kinds.length r.kc,.int .i64 r.gr.cells,.slice r.io r.gr.init.length r.ic,.bool r.gr.result,.int .i64 r.gr.keep,.slice r.no r.gr.nodes.length r.nc,.int .i64 en]] W (NewO W (lineK (nds r.ns) en))):=Lib.hid fun W hbw =>
     lineOf_any B r.po r.ko r.io r.no r.gr.params.length r.pc r.gr.kinds.length r.kc r.gr.init.length r.ic r.gr.nodes.length r.nc en r.gr.cells r.gr.keep r.gr.result r.ns W (HRG.out.nodes.below (hbw.mono hB)) (by have:=hbw.size;omega) hsz.2 hnin hen
    rw [HRG.out.nd] at HLI
    have HLL:Hid (lineK r.gr.nodes en=lineG r.gr):=Lib.hid (by unfold lineG;rw [HENT.out,Int.toNat_natCast])
    rw [HLL.out] at HLI
    have g1:decide ((k:Int)≥(nF:Int))=false:=by simpa using h1
    have g2:decide ((nF:Int)≤(k:Int))=false:=by simpa using h1
    have g3:decide (nF≤k)=false:=decide_eq_false (by omega)
    clear hv h0 h1 hnin hsz hent hen hmem
    go_enter Tryd.func49,Tryd.ntmps49
    go_wp2_with (first
     | (go_at_call 37;refine HV.out.mono ?_;rintro e w2 ⟨rfl,hb2⟩;have HB2:=Lib.hid (HBL.out.trans (hb2.mono (by simp)));have g6:w2.cell? ⟨w.heap.size,0,none⟩=some (.slice (some ⟨b,off,none⟩) nF cF):=(HG.out.below hb2 HG.out.lt).cell 0;have bc:=HB2.out;have y0:=(bc.cell (p:=⟨b,off+k*8,none⟩) (by show b<_;omega)).trans x0;have y1:=(bc.cell (p:=⟨b,off+k*8+1,none⟩) (by show b<_;omega)).trans x1;have y2:=(bc.cell (p:=⟨b,off+k*8+2,none⟩) (by show b<_;omega)).trans x2;have y3:=(bc.cell (p:=⟨b,off+k*8+3,none⟩) (by show b<_;omega)).trans x3;have y4:=(bc.cell (p:=⟨b,off+k*8+4,none⟩) (by show b<_;omega)).trans x4;have y5:=(bc.cell (p:=⟨b,off+k*8+5,none⟩) (by show b<_;omega)).trans x5;have y6:=(bc.cell (p:=⟨b,off+k*8+6,none⟩) (by show b<_;omega)).trans x6;have y7:=(bc.cell (p:=⟨b,off+k*8+7,none⟩) (by show b<_;omega)).trans x7;clear hb2 bc)
     | (go_at_call 68;refine (HLI.out _ HB2.out).mono ?_;rintro e w3 ⟨A3,c3,rfl,ho3,hc3,hb3⟩;have HO3:=Lib.hid ho3;have HB3:=Lib.hid (HB2.out.trans (hb3.mono HB2.out.size));clear ho3 hb3))
    go_ret2
    exact ⟨HB3.out,A3,(lineG r.gr).length,c3,by rw [HC.out];rfl,fun h=>absurd HC.out h,fun _=>⟨r.gr,by rw [Int.toNat_natCast];exact HXG.out,rfl,own_more HO3.out HB2.out.size⟩⟩
 ·rw [if_neg hv] at HV
  have HC:Hid (chkL (grs rs) f=70):=Lib.hid (by unfold chkL;rw [if_neg hv])
  clear hv
  go_enter Tryd.func49,Tryd.ntmps49
  go_wp2_with (go_at_call 37;refine HV.out.mono ?_;rintro e w2 ⟨rfl,hb2⟩;have HB2:=Lib.hid hb2;clear hb2)
  go_ret2
  exact ⟨HBL.out.trans (HB2.out.mono (by simp)),none,0,0,by rw [HC.out];rfl,fun _=>⟨rfl,rfl,rfl⟩,fun h=>by rw [HC.out] at h;cases h⟩
theorem writes_in {gs:List Gr} {g:Gr} {n:Nd} (h:uses gs g false n):∀ x ∈ writesOf n,0≤x∧x<(g.kinds.length:Int):=by
 intro x hx
 have hx':x ∈ writeF n∧0≤x:=by
  rcases addL_mem _ hx with h1 | h1
  ·cases h1
  ·exact h1
 obtain ⟨h1,h0⟩:=hx'
 refine ⟨h0,?_⟩
 have key:∀ k,fits g.kinds false x k→x<(g.kinds.length:Int):=fun k hf=>hf.1.2
 unfold writeF at h1
 unfold uses at h
 split at h1
 ·rename_i ho
  obtain rfl:x=n.d:=by simpa using h1
  rcases ho with e | e | e | e | e | e | e | e
  ·rw [e] at h;simp at h;exact key _ h
  ·rw [e] at h;simp at h;exact key _ h.2
  ·rw [e] at h;simp at h;exact key _ h.2.1
  ·rw [e] at h;simp at h;exact key _ h.2
  ·rw [e] at h;simp at h;exact key _ h.2
  ·rw [e] at h;simp at h;exact key _ h.1
  ·rw [e] at h
   simp at h
   rcases h.2 with h2 | h2
   ·omega
   ·exact key _ h2.2.1
  ·rw [e] at h;simp at h;exact key _ h
 ·split at h1
  ·rename_i ho
   rw [ho] at h
   simp at h h1
   rcases h1 with rfl | rfl
   ·exact key _ h.2.1
   ·exact key _ h.2.2
  ·cases h1
theorem valid_writes {gs:List Gr} {g:Gr} (h:valid gs false) (hg:g ∈ gs):∀ n ∈ g.nodes,∀ x ∈ writesOf n,0≤x∧x<(g.kinds.length:Int):=fun n hn=>writes_in (h.2.2.2 g hg n hn).1
theorem valid_params {gs:List Gr} {g:Gr} (h:valid gs false) (hg:g ∈ gs):(∀ x ∈ g.params,0≤x∧x<(g.kinds.length:Int))∧g.params.length≤4:=by
 have hh:=(h.2.2.1 g hg).2.2.2.1
 refine ⟨fun x hx=>?_,hh.1⟩
 have h2:=hh.2
 rw [if_neg (by decide)] at h2
 obtain ⟨i,hi,rfl⟩:=List.mem_iff_getElem.1 hx
 have h3:=(h2 i hi).1
 rw [List.getD_eq_getElem?_getD,List.getElem?_eq_getElem hi] at h3
 exact h3
open Classical in
theorem liveN_mem {ns:List Nd} {m i:Nat} (p:Nat) (hp:p<m):(p:Int) ∈ liveL ns m i↔Live ns p i:=by
 unfold liveL
 constructor
 ·intro h
  obtain ⟨q,hq,e⟩:=List.mem_map.1 h
  have:q=p:=by omega
  subst this
  simpa using (List.mem_filter.1 hq).2
 ·intro h
  exact List.mem_map.2 ⟨p,List.mem_filter.2 ⟨List.mem_range.2 hp,by simpa using h⟩,rfl⟩
open Classical in
theorem liveON_mem {ns:List Nd} {m i:Nat} (p:Nat) (hp:p<m):(p:Int) ∈ liveOL ns m i↔LiveO ns p i:=by
 unfold liveOL
 constructor
 ·intro h
  obtain ⟨q,hq,e⟩:=List.mem_map.1 h
  have:q=p:=by omega
  subst this
  simpa using (List.mem_filter.1 hq).2
 ·intro h
  exact List.mem_map.2 ⟨p,List.mem_filter.2 ⟨List.mem_range.2 hp,by simpa using h⟩,rfl⟩
open Classical in
theorem liveL_in {ns:List Nd} {m i:Nat}:∀ x ∈ liveL ns m i,0≤x∧x<(m:Int):=by
 intro x hx
 unfold liveL at hx
 obtain ⟨q,hq,rfl⟩:=List.mem_map.1 hx
 have:=List.mem_range.1 (List.mem_filter.1 hq).1
 omega
open Classical in
theorem liveOL_in {ns:List Nd} {m i:Nat}:∀ x ∈ liveOL ns m i,0≤x∧x<(m:Int):=by
 intro x hx
 unfold liveOL at hx
 obtain ⟨q,hq,rfl⟩:=List.mem_map.1 hx
 have:=List.mem_range.1 (List.mem_filter.1 hq).1
 omega
open Classical in
theorem liveL_max (ns:List Nd) (m i:Nat):(liveL ns m i).length≤m:=by
 unfold liveL
 rw [List.length_map]
 have:=List.length_filter_le (fun p:Nat=>decide (Live ns (p:Int) i)) (List.range m)
 simpa using this
open Classical in
theorem liveOL_max (ns:List Nd) (m i:Nat):(liveOL ns m i).length≤m:=by
 unfold liveOL
 rw [List.length_map]
 have:=List.length_filter_le (fun p:Nat=>decide (LiveO ns (p:Int) i)) (List.range m)
 simpa using this
theorem spans_kept (ns:List Nd) (ps l:List Int) (m:Nat):keptK (fun p=>ivK ns ps l (p:Int) l.length) m=spansL ns ps l m:=by
 unfold keptK spansL
 refine List.filter_congr fun s hs=>?_
 obtain ⟨p,_,rfl⟩:=List.mem_map.1 hs
 have:=(ivK_le ns ps l (p:Int) l.length).1
 rw [decide_eq_decide]
 omega
structure SoI (W:World) (gb b R m:Nat) (cs:Array Value) (g:Nat→Iv) (wr:World):Prop where
 gr:Blk wr gb 38 cs
 box:Blk wr b 88 #[.slice (some ⟨R,0,none⟩) m m]
 row:Blk wr R 110 (ivA m g)
 below:Below W.heap.size W wr
 lt:W.heap.size≤R
section
variable {W wr w2:World} {gb b R m:Nat} {cs:Array Value} {g g':Nat→Iv}
theorem SoI.on (h:SoI W gb b R m cs g wr) (hb:Below wr.heap.size wr w2):SoI W gb b R m cs g w2 :=
 ⟨h.gr.below hb h.gr.lt,h.box.below hb h.box.lt,h.row.below hb h.row.lt,h.below.trans (hb.mono h.below.size),h.lt⟩
theorem SoI.kp (h:SoI W gb b R m cs g wr) (hk:KpB wr w2 R) (hr:Blk w2 R 110 (ivA m g')):SoI W gb b R m cs g' w2 :=
 ⟨hk.blk h.gr (Blk.ne_ h.gr h.row (by decide)),hk.blk h.box (Blk.ne_ h.box h.row (by decide)),hr,h.below.trans (hk.out W.heap.size h.below.size h.lt),h.lt⟩
theorem SoI.congr (h:SoI W gb b R m cs g wr) (he:∀ p,p<m→g p=g' p):SoI W gb b R m cs g' wr:=⟨h.gr,h.box,by rw [← ivA_congr he];exact h.row,h.below,h.lt⟩
end
theorem SoI.start (w:World) (m:Nat) (cs:Array Value):SoI w w.heap.size (w.heap.size+1+1) (w.heap.size+1) m cs (fun _=>ivZ) (((w.alloc (.cells cs 38)).alloc (.cells (ivA m fun _=>⟨0,0,0,false⟩) 110)).alloc (.cells #[.slice (some ⟨w.heap.size+1,0,none⟩) m m] 88)):=by
 have h1:=Blk.new (w.alloc (.cells cs 38)) 110 (ivA m fun _=>⟨0,0,0,false⟩)
 have h2:=Blk.new ((w.alloc (.cells cs 38)).alloc (.cells (ivA m fun _=>⟨0,0,0,false⟩) 110)) 88 #[.slice (some ⟨w.heap.size+1,0,none⟩) m m]
 rw [show (w.alloc (.cells cs 38)).heap.size=w.heap.size+1 by simp] at h1
 rw [show ((w.alloc (.cells cs 38)).alloc (.cells (ivA m fun _=>⟨0,0,0,false⟩) 110)).heap.size=w.heap.size+1+1 by simp] at h2
 exact ⟨((Blk.new w _ _).alloc _).alloc _,h2,h1.alloc _,(((Below.refl _ _).alloc (Nat.le_refl _) _).alloc (by simp) _).alloc (by simp;omega) _,by omega⟩
def ivBeg (k:Nat):Nat→Iv:=fun q=>if q<k then ⟨q,-1,0,false⟩ else ivZ
theorem ivBeg_succ (k:Nat):upd (ivBeg k) k ⟨k,-1,0,false⟩=ivBeg (k+1):=by
 funext q
 unfold upd ivBeg
 by_cases e:q=k
 ·subst e;rw [if_pos rfl,if_pos (by omega)]
 ·rw [if_neg e]
  by_cases e2:q<k
  ·rw [if_pos e2,if_pos (by omega)]
  ·rw [if_neg e2,if_neg (by omega)]
theorem SoI.init {W wr:World} {gb b R m k:Nat} {cs:Array Value} (h:SoI W gb b R m cs (ivBeg k) wr):SoI W gb b R m cs (ivBeg (k+1)) (setIv wr R k ⟨k,-1,0,false⟩):=by
 refine h.kp (setIv_kp (KpB.refl _ _)) ?_
 rw [← ivBeg_succ]
 exact setIv_blk h.row
theorem Reads.of_own_le {w w':World} {base B n c:Nat} {A:Option Addr} {xs ys:List Value} {e:TypeId} (h:w'.ownsRow base e 1 (.slice A n c) n xs) (h0:w.ownsRow B e 1 (.slice A n c) n ys):Reads w' w.heap.size 1 A n xs:=by
 refine ⟨h.1,fun hn=>?_⟩
 obtain ⟨g,cap,hv,_,hlt⟩:=h.form hn
 have hA:A=some ⟨g,0,none⟩:=by injection hv
 subst hA
 exact ⟨_,rfl,(own_block_le h0 rfl).2,h.cells (g:=g) rfl⟩
theorem LvPost.okO {L:List Nd→Nat→Nat→List Int} {gs:List Gr} {g:Gr} {k:Nat} {w w':World} {e:Ending} (h:LvPost L gs k w e w') (hv:valid gs false) (hg:gs[k]?=some g) :
  Below w.heap.size w w'∧∃ O vs,e=.returned (.tuple #[.slice (some ⟨O,0,none⟩) g.nodes.length g.nodes.length,.int .i64 0])∧w.heap.size≤O∧RdL w' w.heap.size O g.nodes.length vs (L g.nodes g.kinds.length):=by
 obtain ⟨hb,A,n,c,rfl,_,h0⟩:=h
 have hz:chkL gs k=0:=by
  have:=(List.getElem?_eq_some_iff.1 hg).1
  unfold chkL
  rw [if_pos hv,if_neg (by omega)]
 obtain ⟨O,vs,g2,h1,rfl,rfl,rfl,h2,h3⟩:=h0 hz
 rw [Int.toNat_natCast,hg] at h1
 injection h1 with h1
 subst h1
 exact ⟨hb,O,vs,by rw [hz],h2,h3⟩
theorem LnPost.ok {gs:List Gr} {g:Gr} {k:Nat} {w w':World} {e:Ending} (h:LnPost gs k w e w') (hv:valid gs false) (hg:gs[k]?=some g) :
  Below w.heap.size w w'∧∃ A c,e=.returned (.tuple #[.slice A (lineG g).length c,.int .i64 0])∧w'.ownsRow w.heap.size 3 1 (.slice A (lineG g).length c) (lineG g).length (i64c (lineG g)):=by
 obtain ⟨hb,A,n,c,rfl,_,h0⟩:=h
 have hz:chkL gs k=0:=by
  have:=(List.getElem?_eq_some_iff.1 hg).1
  unfold chkL
  rw [if_pos hv,if_neg (by omega)]
 obtain ⟨g2,h1,rfl,h3⟩:=h0 hz
 rw [Int.toNat_natCast,hg] at h1
 injection h1 with h1
 subst h1
 exact ⟨hb,A,c,by rw [hz],h3⟩
theorem LnPost.bad {gs:List Gr} {f z:Int} {w w':World} {e:Ending} (h:LnPost gs f w e w') (hz:chkL gs f=z) (h0:z≠0):Below w.heap.size w w'∧e=.returned (.tuple #[.slice none 0 0,.int .i64 z]):=by
 obtain ⟨hb,A,n,c,rfl,h1,_⟩:=h
 obtain ⟨rfl,rfl,rfl⟩:=h1 (by rw [hz];exact h0)
 exact ⟨hb,by rw [hz]⟩
noncomputable def spansG (g:Gr):List Iv:=spansL g.nodes g.params (lineG g) g.kinds.length
def SpPost (gs:List Gr) (f:Int) (w:World) (e:Ending) (w':World):Prop :=
 Below w.heap.size w w'∧∃ (A:Option Addr) (n c:Nat),e=.returned (.tuple #[.slice A n c,.int .i64 (chkL gs f)])∧(chkL gs f≠0→A=none∧n=0∧c=0) ∧
  (chkL gs f=0→∃ g R G,gs[f.toNat]?=some g∧A=some ⟨R,0,none⟩∧w.heap.size≤R∧c=g.kinds.length∧n=(spansG g).length∧Blk w' R 110 (ivA c G)∧∀ p,p<n→(spansG g)[p]?=some (G p))
theorem SpPost.ok {gs:List Gr} {g:Gr} {k:Nat} {w w':World} {e:Ending} (h:SpPost gs k w e w') (hv:valid gs false) (hg:gs[k]?=some g) :
  Below w.heap.size w w'∧∃ R G,e=.returned (.tuple #[.slice (some ⟨R,0,none⟩) (spansG g).length g.kinds.length,.int .i64 0])∧w.heap.size≤R∧Blk w' R 110 (ivA g.kinds.length G)∧∀ p,p<(spansG g).length→(spansG g)[p]?=some (G p):=by
 obtain ⟨hb,A,n,c,rfl,_,h0⟩:=h
 have hz:chkL gs k=0:=by
  have:=(List.getElem?_eq_some_iff.1 hg).1
  unfold chkL
  rw [if_pos hv,if_neg (by omega)]
 obtain ⟨g2,R,G,h1,rfl,h2,rfl,rfl,h3,h4⟩:=h0 hz
 rw [Int.toNat_natCast,hg] at h1
 injection h1 with h1
 subst h1
 exact ⟨hb,R,G,by rw [hz],h2,h3,h4⟩
theorem SpPost.bad {gs:List Gr} {f z:Int} {w w':World} {e:Ending} (h:SpPost gs f w e w') (hz:chkL gs f=z) (h0:z≠0):Below w.heap.size w w'∧e=.returned (.tuple #[.slice none 0 0,.int .i64 z]):=by
 obtain ⟨hb,A,n,c,rfl,h1,_⟩:=h
 obtain ⟨rfl,rfl,rfl⟩:=h1 (by rw [hz];exact h0)
 exact ⟨hb,by rw [hz]⟩
theorem chk_ok {gs:List Gr} {k:Nat} (hv:valid gs false) (hk:k<gs.length):chkL gs k=0:=by
 unfold chkL
 rw [if_pos hv,if_neg (by omega)]
theorem lineG_in {gs:List Gr} {g:Gr} (h:valid gs false) (hg:g ∈ gs):(∀ x ∈ lineG g,∃ k:Nat,x=k∧k<g.nodes.length)∧(lineG g).length≤4096∧0<(lineG g).length:=by
 have h1:=lineG_ok h hg
 have h2:=valid_sizes h hg
 obtain ⟨r,hr⟩:=h1.first
 have h3:=h1.len
 have h4:0<(lineG g).length:=by rw [hr];simp
 exact ⟨h1.nat,by omega,h4⟩
end Go.Proofs.YtepkogfiojkcpaaDoor
