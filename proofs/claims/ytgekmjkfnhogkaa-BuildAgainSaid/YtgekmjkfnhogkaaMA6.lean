/-
  Texts of one seat, one behind the other: QKRefC, QKGoW, QSameA, QRefSame, QKWalk.
-/
import Derived.Deep.RegionHeld3
import Derived.Deep.DeepCutAuto
import Derived.Deep.LoopGhost
import Derived.Deep.OwnRows
import Derived.Test.YtgekmjkfnhogkaaMA5
import Derived.Test.YtgekmjkfnhogkaaMA3

set_option linter.unusedVariables false
set_option linter.unusedSimpArgs false
set_option maxRecDepth 100000
set_option maxHeartbeats 51200000
namespace Go.Proofs.Ytgekmjkfnhogkaa.Q
open Go.ChangeShapes Go.WideShapes Go.ChangeAt Go.RowKit
theorem codeRef_any (B:Nat) (r:Raw) (fs:List Fn) (m:Nat) (w:World) (h:RdF w B r) (hw:WfF r.fn) (hB:B≤w.heap.size) (hm:fs.length=m) (hm1:m≤255) (h0:∀ i ∈ r.fn.code,0≤i.arg) :
  Calls Try.prog 59 #[.agg #[.int .i64 r.fn.params,.slice r.lo r.fn.locals.length r.lc,.bool r.fn.result,.int .i64 r.fn.keep,.slice r.co r.fn.code.length r.cc],.int .i64 m] w fun e w'=>e=.returned (.bool (r.fn.code.all (insRef fs r.fn)))∧Below w.heap.size w w':=by
 have H:=Lib.hid h
 have HW:=Lib.hid hw
 have HM:=Lib.hid hm
 have H0:=Lib.hid h0
 have wl:=hw.ll
 have wc:r.fn.code.length≤140737488351232:=by have:=hw.cl;omega
 clear h hw hm h0
 obtain ⟨b,HBV⟩:∃ b,Hid (b=r.fn.code.all (insRef fs r.fn)):=⟨_,Lib.hid rfl⟩
 rw [← HBV.out]
 obtain ⟨⟨p,ls,fl,kp,is⟩,lo,lc,co,cc⟩:=r
 simp only at wl wc ⊢
 obtain ⟨n,HN⟩:∃ n,Hid (n=is.length):=⟨_,Lib.hid rfl⟩
 obtain ⟨nl,HNL⟩:∃ n,Hid (n=ls.length):=⟨_,Lib.hid rfl⟩
 rw [← HN.out] at wc ⊢
 rw [← HNL.out] at wl ⊢
 have HC:=Lib.hid H.out.code
 simp only at HC
 rw [← HN.out] at HC
 have HX0:Hid (Blk (w.alloc (.cells #[.int .i64 p,.slice lo nl lc,.bool fl,.int .i64 kp,.slice co n cc] 41)) w.heap.size 41 #[.int .i64 p,.slice lo nl lc,.bool fl,.int .i64 kp,.slice co n cc]):=Lib.hid (Blk.new w _ _)
 have HB0:Hid (Below w.heap.size w (w.alloc (.cells #[.int .i64 p,.slice lo nl lc,.bool fl,.int .i64 kp,.slice co n cc] 41))):=Lib.hid ((Below.refl _ _).alloc (Nat.le_refl _) _)
 go_enter Try.func59,Try.ntmps59
 go_wp2
 go_loopw [10] (fun i wr=>∃ k:Nat,k≤n∧i=.int .i64 k∧Hid ((is.take k).all (insRef fs ⟨p,ls,fl,kp,is⟩)=true)∧Hid (Below w.heap.size w wr)∧Hid (Blk wr w.heap.size 41 #[.int .i64 p,.slice lo nl lc,.bool fl,.int .i64 kp,.slice co n cc])) (fun i _=>n-(intOf i).toNat)
 case atStart=>exact ⟨0,Nat.zero_le _,rfl,rfl,HB0,HX0⟩
 case round =>
  clear HX0 HB0
  obtain ⟨k,hk,rfl,HT,HB,HX⟩:=hrel
  have hz:=HX.out.lt
  by_cases hlt:k<n
  ·obtain ⟨b1,off,i,rfl,hb,HI,x0,x1,x2⟩:=(HC.out.below (HB.out.mono hB)).ins hlt
   have hbr:b1<wr.heap.size:=by omega
   have hmem:i ∈ is:=List.mem_of_getElem? HI.out
   have HWI:=Lib.hid (HW.out.code i hmem)
   have HA0:=Lib.hid (H0.out i hmem)
   have HX1:=HX.out.alloc (.cells #[.int .u8 i.op,.int .i64 i.arg,.int .u64 i.imm] 52)
   have d0:=HX1.cell 0
   have d1:=HX1.cell 1
   have d2:=HX1.cell 2
   have d3:=HX1.cell 3
   have d4:=HX1.cell 4
   have HX1:=Lib.hid HX1
   have HB1:Hid (Below w.heap.size w (wr.alloc (.cells #[.int .u8 i.op,.int .i64 i.arg,.int .u64 i.imm] 52))):=Lib.hid (HB.out.alloc (by omega) _)
   have HR1:Hid (RdF (wr.alloc (.cells #[.int .u8 i.op,.int .i64 i.arg,.int .u64 i.imm] 52)) B ⟨⟨p,ls,fl,kp,is⟩,lo,lc,some ⟨b1,off,none⟩,cc⟩):=Lib.hid (H.out.below (HB1.out.mono hB))
   cases hp:insRef fs ⟨p,ls,fl,kp,is⟩ i with
   | true =>
    have HT1:Hid ((is.take (k+1)).all (insRef fs ⟨p,ls,fl,kp,is⟩)=true):=Lib.hid (by rw [List.take_add_one,HI.out,List.all_append,HT.out];simp [hp])
    have HC1:=Lib.hid (instrRef_is B ⟨⟨p,ls,fl,kp,is⟩,lo,lc,some ⟨b1,off,none⟩,cc⟩ i true fs m _ HR1.out HW.out (by simp;omega) HM.out hm1 HA0.out HWI.out.a1 hp)
    simp only at HC1
    rw [← HN.out,← HNL.out] at HC1
    clear hp
    go_wp2_with (go_at_call 78;refine HC1.out.mono ?_;rintro e w2 ⟨rfl,hb2⟩;refine Hid.out ?_)
    have HB3:=Lib.hid (HB1.out.trans (hb2.mono (by simp;omega)))
    have HX3:=Lib.hid (HX1.out.below hb2 (by simp;omega))
    clear hb2 d0 d1 d2 d3 d4
    refine Lib.hid ?_
    go_wp2
    go_roundw
    case rel=>exact ⟨k+1,by omega,by go_num,HT1,HB3,HX3⟩
    case measure=>simp [intOf];omega
   | false =>
    have HA:Hid (b=false):=Lib.hid (by
     rw [HBV.out,List.all_eq_false]
     exact ⟨i,hmem,by simp [hp]⟩)
    have HC1:=Lib.hid (instrRef_is B ⟨⟨p,ls,fl,kp,is⟩,lo,lc,some ⟨b1,off,none⟩,cc⟩ i false fs m _ HR1.out HW.out (by simp;omega) HM.out hm1 HA0.out HWI.out.a1 hp)
    simp only at HC1
    rw [← HN.out,← HNL.out] at HC1
    clear hp
    go_wp2_with (go_at_call 78;refine HC1.out.mono ?_;rintro e w2 ⟨rfl,hb2⟩;refine Hid.out ?_)
    have HB3:=Lib.hid (HB1.out.trans (hb2.mono (by simp;omega)))
    clear hb2 d0 d1 d2 d3 d4
    refine Lib.hid ?_
    go_wp2
    go_ret
    exact ⟨by rw [HA.out];rfl,HB3.out⟩
  ·obtain rfl:n=k:=by omega
   clear hlt hk
   have HA:Hid (b=true):=Lib.hid (by
    have h:=HT.out
    rw [List.take_of_length_le (by rw [← HN.out];omega)] at h
    rw [HBV.out]
    exact h)
   go_wp2
   go_ret
   exact ⟨by rw [HA.out];rfl,HB.out⟩
theorem codeRef_is (B:Nat) (r:Raw) (b:Bool) (fs:List Fn) (m:Nat) (w:World) (h:RdF w B r) (hw:WfF r.fn) (hB:B≤w.heap.size) (hm:fs.length=m) (hm1:m≤255) (h0:∀ i ∈ r.fn.code,0≤i.arg) (hb:r.fn.code.all (insRef fs r.fn)=b) :
  Calls Try.prog 59 #[.agg #[.int .i64 r.fn.params,.slice r.lo r.fn.locals.length r.lc,.bool r.fn.result,.int .i64 r.fn.keep,.slice r.co r.fn.code.length r.cc],.int .i64 m] w fun e w'=>e=.returned (.bool b)∧Below w.heap.size w w':=by
 rw [← hb];exact codeRef_any B r fs m w h hw hB hm hm1 h0
theorem keepsWell_is (B:Nat) (r:Raw) (b:Bool) (w:World) (h:RdF w B r) (hw:WfF r.fn) (hB:B≤w.heap.size) (hk:-1≤r.fn.keep) (hb:keepsB r.fn=b) :
  Calls Try.prog 58 #[.agg #[.int .i64 r.fn.params,.slice r.lo r.fn.locals.length r.lc,.bool r.fn.result,.int .i64 r.fn.keep,.slice r.co r.fn.code.length r.cc]] w fun e w'=>e=.returned (.bool b)∧Below w.heap.size w w':=by
 rw [← hb];exact keepsWell_any B r w h hw hB hk
theorem okI_arg {i:Ins} (h:okI i=true):0≤i.arg:=(fitB_iff.1 (okI_iff.1 h).2.1).1
theorem refers_any (B:Nat) (A:Option Addr) (n c:Nat) (rs:List Raw) (w:World) (h:RdP w B A n rs) (hB:B≤w.heap.size) (hok:okP (fns rs)=true) :
  Calls Try.prog 30 #[.agg #[.slice A n c]] w fun e w'=>e=.returned (.bool (refB (fns rs)))∧Below w.heap.size w w':=by
 have H:=Lib.hid h
 obtain ⟨l0,l1,HOK⟩:=okP_iff.1 hok
 rw [length_fns,h.len] at l0 l1
 have HOK:=Lib.hid HOK
 have HN:Hid ((fns rs).length=n):=Lib.hid (by rw [length_fns,h.len])
 clear h hok
 obtain ⟨b,HBV⟩:∃ b,Hid (b=refB (fns rs)):=⟨_,Lib.hid rfl⟩
 rw [← HBV.out]
 obtain ⟨ba,off,r,rfl,hba,HX,HRF,HWF,y0,y1,y2,y3,y4⟩:=H.out.fn (k:=0) l0
 simp only [Nat.zero_mul,Nat.add_zero] at y0 y1 y2 y3 y4
 have hbw:ba<w.heap.size:=by omega
 have HX0:Hid (Blk ((w.alloc (.cells #[.slice (some ⟨ba,off,none⟩) n c] 24)).alloc (.cells #[.int .i64 r.fn.params,.slice r.lo r.fn.locals.length r.lc,.bool r.fn.result,.int .i64 r.fn.keep,.slice r.co r.fn.code.length r.cc] 41)) w.heap.size 24 #[.slice (some ⟨ba,off,none⟩) n c]):=Lib.hid ((Blk.new w _ _).alloc _)
 have HB0:Hid (Below w.heap.size w ((w.alloc (.cells #[.slice (some ⟨ba,off,none⟩) n c] 24)).alloc (.cells #[.int .i64 r.fn.params,.slice r.lo r.fn.locals.length r.lc,.bool r.fn.result,.int .i64 r.fn.keep,.slice r.co r.fn.code.length r.cc] 41))):=Lib.hid (below_2 _ _ _ _ _)
 obtain ⟨f0,fs',HFS⟩:∃ f0 fs',Hid (fns rs=f0 :: fs'∧f0=r.fn):=by
  have hq:(fns rs)[0]?=some r.fn:=by unfold fns;rw [List.getElem?_map,HX.out];rfl
  cases hf:fns rs with
  | nil=>rw [hf] at hq;cases hq
  | cons f0 fs'=>rw [hf] at hq;exact ⟨f0,fs',rfl,by simpa using hq⟩
 have HMB:Hid (mainB (fns rs)=(decide (r.fn.params≤0) && !r.fn.result)):=Lib.hid (by rw [HFS.out.1];unfold mainB;rw [HFS.out.2])
 by_cases c1:0<r.fn.params
 ·have g1:decide (0<r.fn.params)=true:=by simpa using c1
  have HA:Hid (b=false):=Lib.hid (by rw [HBV.out];unfold refB;rw [HMB.out,decide_eq_false (by omega)];rfl)
  go_enter Try.func30,Try.ntmps30
  go_wp2
  go_ret
  exact ⟨by rw [HA.out];rfl,HB0.out⟩
 have g1:decide (0<r.fn.params)=false:=by simpa using c1
 cases hres:r.fn.result with
 | true =>
  rw [hres] at y2 HX0 HB0
  have HA:Hid (b=false):=Lib.hid (by rw [HBV.out];unfold refB;rw [HMB.out,hres];simp)
  clear hres
  go_enter Try.func30,Try.ntmps30
  go_wp2
  go_ret
  exact ⟨by rw [HA.out];rfl,HB0.out⟩
 | false =>
  rw [hres] at y2 HX0 HB0
  have HMT:Hid (mainB (fns rs)=true):=Lib.hid (by rw [HMB.out,hres,decide_eq_true (by omega)];rfl)
  clear hres
  go_enter Try.func30,Try.ntmps30
  go_wp2
  go_loopw [20] (fun i wr=>∃ k:Nat,k≤n∧i=.int .i64 k∧Hid (((fns rs).take k).all (fnRef (fns rs))=true)∧Hid (Below w.heap.size w wr)∧Hid (Blk wr w.heap.size 24 #[.slice (some ⟨ba,off,none⟩) n c])) (fun i _=>n-(intOf i).toNat)
  case atStart=>exact ⟨0,Nat.zero_le _,rfl,rfl,HB0,HX0⟩
  case round =>
   clear HX0 HB0 y0 y1 y2 y3 y4
   obtain ⟨k,hk,rfl,HT,HB,HXP⟩:=hrel
   have hz:=HXP.out.lt
   by_cases hlt:k<n
   ·obtain ⟨ba',off',s,hA',hb',HS,HSF,HSW,x0,x1,x2,x3,x4⟩:=(H.out.below (HB.out.mono hB)).fn hlt
    obtain ⟨rfl,rfl⟩:ba=ba'∧off=off':=by injection hA' with hA';injection hA' with h1 h2;exact ⟨h1,h2⟩
    clear hA' hb'
    have hbr:ba<wr.heap.size:=by omega
    have HFN:Hid ((fns rs)[k]?=some s.fn):=Lib.hid (by unfold fns;rw [List.getElem?_map,HS.out];rfl)
    have HOF:=Lib.hid (HOK.out s.fn (List.mem_of_getElem? HFN.out))
    have hkp:-1≤s.fn.keep:=(okF_iff.1 HOF.out).2.2.2.2.1
    have HX1:=HXP.out.alloc (.cells #[.int .i64 s.fn.params,.slice s.lo s.fn.locals.length s.lc,.bool s.fn.result,.int .i64 s.fn.keep,.slice s.co s.fn.code.length s.cc] 41)
    have HX1:=Lib.hid HX1
    have HB1:Hid (Below w.heap.size w (wr.alloc (.cells #[.int .i64 s.fn.params,.slice s.lo s.fn.locals.length s.lc,.bool s.fn.result,.int .i64 s.fn.keep,.slice s.co s.fn.code.length s.cc] 41))):=Lib.hid (HB.out.alloc (by omega) _)
    have HF1:Hid (RdF (wr.alloc (.cells #[.int .i64 s.fn.params,.slice s.lo s.fn.locals.length s.lc,.bool s.fn.result,.int .i64 s.fn.keep,.slice s.co s.fn.code.length s.cc] 41)) B s):=Lib.hid (HSF.out.keep fun p hp=>World.cell?_alloc_lt wr _ p (by omega))
    have HY1:=Lib.hid (Blk.new wr 41 #[.int .i64 s.fn.params,.slice s.lo s.fn.locals.length s.lc,.bool s.fn.result,.int .i64 s.fn.keep,.slice s.co s.fn.code.length s.cc])
    cases hp1:keepsB s.fn with
    | false =>
     have HA:Hid (b=false):=Lib.hid (by
      rw [HBV.out];unfold refB
      rw [HMT.out,Bool.true_and,List.all_eq_false]
      exact ⟨s.fn,List.mem_of_getElem? HFN.out,by unfold fnRef;simp [hp1]⟩)
     have HC1:=Lib.hid (keepsWell_is B s false _ HF1.out HSW.out (by simp;omega) hkp hp1)
     clear hp1
     go_wp2_with (go_at_call 58;refine HC1.out.mono ?_;rintro e w2 ⟨rfl,hb2⟩;refine Hid.out ?_)
     have HB3:=Lib.hid (HB1.out.trans (hb2.mono (by simp;omega)))
     clear hb2
     refine Lib.hid ?_
     go_wp2
     go_ret
     exact ⟨by rw [HA.out];rfl,HB3.out⟩
    | true =>
     have HC1:=Lib.hid (keepsWell_is B s true _ HF1.out HSW.out (by simp;omega) hkp hp1)
     have HKP:=Lib.hid hp1
     clear hp1
     go_wp2_with (go_at_call 58;refine HC1.out.mono ?_;rintro e w2 ⟨rfl,hb2⟩;refine Hid.out ?_)
     have hz2:=hb2.size
     have hz2':wr.heap.size<w2.heap.size:=by simp at hz2;omega
     have HB2:=Lib.hid (HB1.out.trans (hb2.mono (by simp;omega)))
     have HX2:=HX1.out.below hb2 (by simp;omega)
     have HY2:=HY1.out.below hb2 (by simp)
     have HF2:=Lib.hid (HF1.out.below (hb2.mono (by simp;omega)))
     have e0:w2.cell? ⟨w.heap.size,0,none⟩=some (.slice (some ⟨ba,off,none⟩) n c):=HX2.cell 0
     have d0:w2.cell? ⟨wr.heap.size,0,none⟩=some (.int .i64 s.fn.params):=HY2.cell 0
     have d1:w2.cell? ⟨wr.heap.size,1,none⟩=some (.slice s.lo s.fn.locals.length s.lc):=HY2.cell 1
     have d2:w2.cell? ⟨wr.heap.size,2,none⟩=some (.bool s.fn.result):=HY2.cell 2
     have d3:w2.cell? ⟨wr.heap.size,3,none⟩=some (.int .i64 s.fn.keep):=HY2.cell 3
     have d4:w2.cell? ⟨wr.heap.size,4,none⟩=some (.slice s.co s.fn.code.length s.cc):=HY2.cell 4
     have HX2:=Lib.hid HX2
     clear hb2 HY2
     obtain ⟨q,HQ⟩:∃ q,Hid (s.fn.code.all (insRef (fns rs) s.fn)=q):=⟨_,Lib.hid rfl⟩
     have HC2:=Lib.hid (codeRef_is B s q (fns rs) n w2 HF2.out HSW.out (by omega) HN.out l1 (fun i hi=>okI_arg ((okF_iff.1 HOF.out).2.2.2.2.2.2.2 i hi)) HQ.out)
     cases q with
     | false =>
      have HA:Hid (b=false):=Lib.hid (by
       rw [HBV.out];unfold refB
       rw [HMT.out,Bool.true_and,List.all_eq_false]
       exact ⟨s.fn,List.mem_of_getElem? HFN.out,by unfold fnRef;rw [HQ.out];simp⟩)
      refine Lib.hid ?_
      go_wp2_with (go_at_call 59;refine HC2.out.mono ?_;rintro e w3 ⟨rfl,hb3⟩;refine Hid.out ?_)
      have HB3:=Lib.hid (HB2.out.trans (hb3.mono (by omega)))
      clear hb3 d0 d1 d2 d3 d4 e0
      refine Lib.hid ?_
      go_wp2
      go_ret
      exact ⟨by rw [HA.out];rfl,HB3.out⟩
     | true =>
      have HT1:Hid (((fns rs).take (k+1)).all (fnRef (fns rs))=true):=Lib.hid (by
       rw [List.take_add_one,HFN.out,List.all_append,HT.out]
       simp only [Option.toList_some,List.all_cons,List.all_nil,Bool.and_true,Bool.true_and]
       unfold fnRef;rw [HKP.out,HQ.out];rfl)
      refine Lib.hid ?_
      go_wp2_with (go_at_call 59;refine HC2.out.mono ?_;rintro e w3 ⟨rfl,hb3⟩;refine Hid.out ?_)
      have HB3:=Lib.hid (HB2.out.trans (hb3.mono (by omega)))
      have HX3:=Lib.hid (HX2.out.below hb3 (by omega))
      clear hb3 d0 d1 d2 d3 d4 e0
      refine Lib.hid ?_
      go_wp2
      go_roundw
      case rel=>exact ⟨k+1,by omega,by go_num,HT1,HB3,HX3⟩
      case measure=>simp [intOf];omega
   ·obtain rfl:n=k:=by omega
    clear hlt hk
    have HA:Hid (b=true):=Lib.hid (by
     have h:=HT.out
     rw [List.take_of_length_le (by rw [HN.out];omega)] at h
     rw [HBV.out];unfold refB;rw [HMT.out,h];rfl)
    go_wp2
    go_ret
    exact ⟨by rw [HA.out];rfl,HB.out⟩
def GoYes (w:World) (B g ra sa n c m:Nat) (A:Option Addr) (rs:List Raw) (r:Raw) (l:List (Option Stk)) (wl:List Nat) (wv:Value) (w':World):Prop :=
 ∃ l' wl' vs' WA' wk' wcap',WS w' B g ra sa A n c rs r m l' wl' vs' WA' wk' wcap'∧Inv (fns rs) r.fn l' wl'∧cnt l'≤cnt l∧2*cnt l'+wl'.length≤2*cnt l+wl.length∧((Value.slice WA' wk' wcap').ownBlock=wv.ownBlock∨∃ q,(Value.slice WA' wk' wcap').ownBlock=some q∧w.heap.size≤q)
def GoPost (w:World) (B g ra sa n c m:Nat) (A:Option Addr) (rs:List Raw) (r:Raw) (l:List (Option Stk)) (wl:List Nat) (wv:Value) (e:Ending) (w':World):Prop :=
 ∃ ok,e=.returned (.bool ok)∧Kp w w' (Ex g ra sa wv)∧((ok=false∧¬ Fine (fns rs) r.fn)∨(ok=true∧GoYes w B g ra sa n c m A rs r l wl wv w'))
theorem NewI.at_ {w:World} {l:List Nat} {B j b m:Nat} {A:Option Addr} (h:Reads w B 1 A m (intc l)) (hj:j<m):∃ bl off x,A=some ⟨bl,off,none⟩∧bl<B∧Hid (l[j]?=some x)∧w.cell? ⟨bl,off+j,none⟩=some (.int .i64 (x:Int)):=by
 obtain ⟨bl,off,rfl,hb,hc⟩:=h.lit (by omega) (by omega)
 have hl:j<l.length:=by have:=h.1;unfold intc at this;rw [List.length_map] at this;omega
 refine ⟨bl,off,l[j],rfl,hb,List.getElem?_eq_getElem hl,hc j _ ?_⟩
 unfold intc
 rw [List.getElem?_map,List.getElem?_eq_getElem hl]
 rfl

theorem goOn_any (B g ra sa n c m wk wcap a:Nat) (A WA:Option Addr) (rs:List Raw) (r:Raw) (l:List (Option Stk)) (wl:List Nat) (vs:List Value) (w:World)
  (h:WS w B g ra sa A n c rs r m l wl vs WA wk wcap) (hinv:Inv (fns rs) r.fn l (a :: wl)) (href:∀ i ∈ r.fn.code,insRef (fns rs) r.fn i=true) (hM:2*cnt l+wl.length≤2000) :
  Calls Try.prog 80 #[.pointer (some ⟨g,0,none⟩),.int .i64 a] w (GoPost w B g ra sa n c m A rs r l wl (.slice WA wk wcap)):=by
 obtain ⟨s,hla⟩:=hinv.opened a (by simp)
 have ham:a<m:=by rw [← h.len];exact (List.getElem?_eq_some_iff.1 hla).1
 have hm:=h.small
 obtain ⟨b1,off,i,hco,hb1,HI,x0,x1,x2⟩:=h.wkr.fn.code.ins (k:=a) (by rw [h.clen];exact ham)
 have hmem:i ∈ r.fn.code:=List.mem_of_getElem? HI.out
 have hir:=href i hmem
 have hi0:0≤i.arg:=okI_arg ((okF_iff.1 h.wkr.okf).2.2.2.2.2.2.2 i hmem)
 obtain ⟨av,q,k,hv,hq,ho⟩:=h.vat a (some s) hla
 simp only [Option.getD_some] at hq ho
 have hshort:=hinv.short a s hla
 have hll:l.length=m:=h.len
 have hq5:q≤50000:=by omega
 have e1:w.cell? ⟨sa,a,none⟩=some (.slice av q k):=by
  rw [h.stacks.cell]
  simpa using hv
 obtain ⟨d0,d1,d2,d3,d4,d5,d6,d7,d8⟩:=h.wkr.cells
 rw [h.clen,hco] at d5
 have hg:=h.wkr.blk.lt
 have hsal:=h.stacks.lt
 have hral:=h.reached.lt
 have hb1w:b1<w.heap.size:=by have:=h.wkr.le;omega
 have hqk:=own_cap ho
 have H:=Lib.hid h
 have HINV:=Lib.hid hinv
 have HLA:=Lib.hid hla
 have HIR:=Lib.hid hir
 have HSH:=Lib.hid hshort
 have HLL:=Lib.hid hll
 have HO:=Lib.hid ho
 have HWB:Hid (Below w.heap.size w (w.alloc (.cells #[.int .u8 i.op,.int .i64 i.arg,.int .u64 i.imm] 52)).drew):=Lib.hid ((Below.refl _ _).alloc (Nat.le_refl _) _).drew
 have HBE:=Lib.hid (behind_any B g n c A rs r _ _ _ i s av q k _ (h.wkr.below HWB.out) hir hi0 ((Reads.of_own ho |>.below HWB.out).more HWB.out.size) hqk hq5)
 have hia:i.arg≤9223372036854775807:=(h.wkr.wf.code i hmem).a1
 clear h hinv hla hir ho hshort hv hq href hll d0 d1 d2 d3 d4 d6 d8
 go_enter Try.func80,Try.ntmps80
 go_upto_region 2 with fail
 go_cut [6,7] (fun s6 s7 wx=>∃ S5 q5 c5 ok,s6=.slice S5 q5 c5∧s7=.bool ok∧Hid (Below w.heap.size w wx)∧Hid (Blk wx w.heap.size 52 #[.int .u8 i.op,.int .i64 i.arg,.int .u64 i.imm]) ∧
  Hid ((ok=false∧afterK (fns rs) r.fn i s=none)∨(ok=true∧∃ s',afterK (fns rs) r.fn i s=some s'∧s'.length=q5∧wx.ownsRow w.heap.size 46 1 (.slice S5 q5 c5) q5 (u8c s'))))
 case first =>
  have HBX:Hid (Blk (w.alloc (.cells #[.int .u8 i.op,.int .i64 i.arg,.int .u64 i.imm] 52)).drew w.heap.size 52 #[.int .u8 i.op,.int .i64 i.arg,.int .u64 i.imm]):=Lib.hid (Blk.new w _ _).drew
  go_region_law (first
   | (go_simp;go_at_call 96;refine HBE.out.mono ?_;rintro e w3 ⟨S5,q5,c5,ok,rfl,hb3,hcase⟩;have HB3:=Lib.hid (HWB.out.trans (hb3.mono HWB.out.size));have HX3:=Lib.hid (HBX.out.below hb3 HBX.out.lt);have HCASE:=Lib.hid hcase;clear hb3 hcase))
  all_goals
   go_wp2
   go_meet
  all_goals
   refine ⟨S5,q5,c5,ok,rfl,rfl,HB3,HX3,Lib.hid (HCASE.out.imp (fun h=>h) fun ⟨h1,s',h2,h3,h4⟩=>⟨h1,s',h2,h3,own_more h4 HWB.out.size⟩)⟩
 case rest =>
  obtain ⟨S5,q5,c5,ok,rfl,rfl,HB3,HX3,HCASE⟩:=hcut
  clear d5 d7 e1 x0 x1 x2
  rcases HCASE.out with ⟨rfl,hn⟩ | ⟨rfl,s',hs',hl5,ho5⟩
  ·have HNF:Hid (¬ Fine (fns rs) r.fn):=Lib.hid (not_fine_after (HINV.out.sound a s HLA.out) HI.out hn)
   clear hn
   go_wp2
   go_ret
   exact ⟨false,rfl,Kp.of_below HB3.out _,.inl ⟨rfl,HNF.out⟩⟩
  ·have HAFT:=Lib.hid hs'
   have hz3:=HB3.out.size
   have x0:wc.cell? ⟨w.heap.size,0,none⟩=some (.int .u8 i.op):=HX3.out.cell 0
   have x1:wc.cell? ⟨w.heap.size,1,none⟩=some (.int .i64 i.arg):=HX3.out.cell 1
   have x2:wc.cell? ⟨w.heap.size,2,none⟩=some (.int .u64 i.imm):=HX3.out.cell 2
   have HO5:=Lib.hid ho5
   have HL5:=Lib.hid hl5
   have hq5':q5≤50000:=by have h1:=afterK_len hs';have h2:=HSH.out;have h3:=HLL.out;omega
   have HSL:Hid (s'.length+2*cnt l≤2*l.length):=Lib.hid (by have h1:=afterK_len hs';have h2:=HSH.out;omega)
   have HSU:=Lib.hid (succ_any a i wc (by omega) hi0)
   clear hs' hl5 ho5
   go_wp2_with (go_at_call 97;refine HSU.out.mono ?_;rintro e w4 ⟨SU,sm,rfl,hsm,hsr,hsb,hb4⟩;have HB4:=Lib.hid hb4;have HSM:=Lib.hid hsm;have HSR:=Lib.hid hsr;have HSB:=Lib.hid hsb;clear hb4 hsm hsr hsb)
   have hsm2:sm≤2:=by rw [HSM.out];exact succK_len a i
   have HGC:Hid (GC w w4 B g ra sa rs r l (.slice WA wk wcap) a i s s' SU sm):=Lib.hid ⟨HI.out,HAFT.out,by have:=HB4.out.size;omega,hg,hral,hsal,fun q hq=>(own_lt H.out.wait hq).2,fun hp ad had=>⟨by have:=HSB.out ad had;omega,by obtain ⟨ad',he,hlt,_⟩:=HSR.out.2 hp;rw [had] at he;injection he with he;subst he;exact hlt⟩,HSL.out⟩
   have hz4:wc.heap.size≤w4.heap.size:=HB4.out.size
   have HB40:=Lib.hid (HB3.out.trans (HB4.out.mono hz3))
   have HG0:Hid (GI w w4 B g ra sa n c m A rs r l wl (.slice WA wk wcap) a i s s' SU sm S5 q5 c5 0 w4 l wl vs WA wk wcap):=Lib.hid ⟨H.out.below HB40.out,HINV.out,HLA.out,(fun b hb=>by simp at hb),Nat.le_refl _,Nat.le_refl _,.inl rfl,Kp.of_below HB40.out _,HSR.out,own_kept HO5.out (fun q hq=>HB4.out.block q (own_lt HO5.out hq).2),Nat.le_refl _⟩
   clear x0 x1 x2 HX3 HCASE
   go_wp2
   go_loopw [37] (fun x wr=>∃ (j:Nat) (l':List (Option Stk)) (wl':List Nat) (vs':List Value) (WA':Option Addr) (wk' wcap':Nat),j≤sm∧x=.int .i64 j∧Hid (GI w w4 B g ra sa n c m A rs r l wl (.slice WA wk wcap) a i s s' SU sm S5 q5 c5 j wr l' wl' vs' WA' wk' wcap')) (fun x _=>sm-(intOf x).toNat)
   case atStart=>exact ⟨0,l,wl,vs,WA,wk,wcap,Nat.zero_le _,rfl,HG0⟩
   case round =>
    clear HG0
    obtain ⟨j,l',wl',vs',WA',wk',wcap',hj,rfl,HGI⟩:=hrel
    have hzr:=HGI.out.size
    by_cases hlt:j<sm
    ·obtain ⟨bl,offl,b,hSU,hbl,HJ,y0⟩:=NewI.at_ (b:=0) HGI.out.su hlt
     have hmemb:b ∈ succK a i:=List.mem_of_getElem? HJ.out
     have hb1000:b≤1000:=succ_le hmemb ham hm HIR.out (by have:=H.out.clen;exact this) hi0
     have hwk':wk'≤100000:=by have h1:=HGI.out.meas;have h2:=HGI.out.ws.wlen;omega
     have HAR:=Lib.hid (arrive_any B g ra sa n c m wk' wcap' b q5 c5 w.heap.size A WA' S5 rs r l' wl' vs' s' wr HGI.out.ws HGI.out.st hq5' (fun jj s2 h2=>by have h3:=HGI.out.inv.short jj s2 h2;have h4:=HGI.out.ws.len;omega) hwk' (by omega))
     subst hSU
     clear hmemb
     go_wp2_with (go_at_call 79;refine HAR.out.mono ?_;rintro e w5 ⟨ok,rfl,hkp,hcase⟩;have HKP:=Lib.hid hkp;have HC5:=Lib.hid hcase;clear hkp hcase;refine Hid.out ?_)
     rcases HC5.out with ⟨rfl,hbad⟩ | ⟨rfl,hy⟩
     ·have HNF:Hid (¬ Fine (fns rs) r.fn):=Lib.hid (by
       have hr:=HGI.out.inv.step HGI.out.at_ HI.out HAFT.out (List.mem_of_getElem? HJ.out)
       rcases hbad with hmb | ⟨s2,h2,hne⟩
       ·exact not_fine_code hr (List.getElem?_eq_none (by rw [H.out.clen];exact hmb))
       ·exact not_fine_two (HGI.out.inv.sound b s2 h2) hr hne)
      clear hbad
      refine Lib.hid ?_
      go_wp2
      go_ret
      exact ⟨false,rfl,HGI.out.kp.trans HKP.out (fun q hq hx=>HGI.out.exle HGC.out q (by have:=HGC.out.lt4;omega) hx),.inl ⟨rfl,HNF.out⟩⟩
     ·obtain ⟨l2,wl2,vs2,WA2,wk2,wcap2,hgi⟩:=HGI.out.next HGC.out (by rw [HGI.out.inv.len,HINV.out.len]) HJ.out HKP.out hy
      have HG2:=Lib.hid hgi
      clear hy hgi
      refine Lib.hid ?_
      go_wp2
      go_roundw
      case rel=>exact ⟨j+1,l2,wl2,vs2,WA2,wk2,wcap2,by omega,by go_num,HG2⟩
      case measure=>simp [intOf];omega
    ·obtain rfl:j=sm:=by omega
     clear hlt hj
     go_wp2
     go_ret
     refine ⟨true,rfl,HGI.out.kp,.inr ⟨rfl,l',wl',vs',WA',wk',wcap',HGI.out.ws,HGI.out.inv.close HGI.out.at_ HI.out HAFT.out (fun b hb=>HGI.out.done b ?_),HGI.out.cnt_,HGI.out.meas,?_⟩⟩
     ·rw [List.take_of_length_le (by rw [HSM.out];omega)];exact hb
     ·rcases HGI.out.wait with hw | ⟨qq,hq1,hq2⟩
      ·exact .inl hw
      ·exact .inr ⟨qq,hq1,by have:=HGC.out.lt4;omega⟩
theorem eq_len {α:Type} [DecidableEq α] {a b:List α} (h:a.length≠b.length):decide (a=b)=false:=by
 simp only [decide_eq_false_iff_not]
 intro e
 exact h (by rw [e])
theorem eq_at {α:Type} [DecidableEq α] {a b:List α} {k:Nat} {x y:α} (hx:a[k]?=some x) (hy:b[k]?=some y) (h:x≠y):decide (a=b)=false:=by
 simp only [decide_eq_false_iff_not]
 intro e
 rw [e,hy] at hx
 exact h (by simpa using hx.symm)
theorem take_snoc {α:Type} {l:List α} {k:Nat} {x:α} (h:l[k]?=some x):l.take (k+1)=l.take k ++ [x]:=by
 rw [List.take_add_one,h];rfl
theorem equalIn_ins (a b:Ins) (w:World):Sem.run Try.prog (Op.equalIn 10000 52 (.agg #[.int .u8 a.op,.int .i64 a.arg,.int .u64 a.imm]) (.agg #[.int .u8 b.op,.int .i64 b.arg,.int .u64 b.imm])) w=.ok (decide (a=b)) w:=by
 have hS:Try.prog.underlying 52=some (.struct (Try.prog.fieldsOf 52)):=by kernel_rfl
 have hp:Try.prog.stoodInHeld 52=false:=by kernel_rfl
 have u1:=Try.underlying50
 have u2:=Try.underlying3
 have u3:=Try.underlying49
 have a1:=Try.isAgg50
 have a2:=Try.isAgg3
 have a3:=Try.isAgg49
 have z1:=Try.sizeOf50
 have z2:=Try.sizeOf3
 have z3:=Try.sizeOf49
 show (Op.equalIn 10000 52 (.agg #[.int .u8 a.op,.int .i64 a.arg,.int .u64 a.imm]) (.agg #[.int .u8 b.op,.int .i64 b.arg,.int .u64 b.imm])).run Try.prog w=_
 rw [show (10000:Nat)=9999+1 from rfl,run_equalIn_agg w 9999 52 _ _ hS hp]
 simp only [Program.fieldsOf,Try.underlying52]
 go_simp
 obtain ⟨a1,a2,a3⟩:=a
 obtain ⟨b1,b2,b3⟩:=b
 by_cases h1:a1=b1 <;> by_cases h2:a2=b2 <;> by_cases h3:a3=b3 <;> simp [h1,h2,h3]

theorem blk_second (w:World) (t u:TypeId) (cs ds:Array Value):Blk ((w.alloc (.cells cs t)).alloc (.cells ds u)) (w.heap.size+1) u ds:=by
 have:=Blk.new (w.alloc (.cells cs t)) u ds
 rw [show (w.alloc (.cells cs t)).heap.size=w.heap.size+1 by simp] at this
 exact this
theorem below_two (w:World) (t u:TypeId) (cs ds:Array Value):Below w.heap.size w ((w.alloc (.cells cs t)).alloc (.cells ds u)).drew:=(((Below.refl _ _).alloc (Nat.le_refl _) _).alloc (by simp) _).drew
theorem rsame_any (B:Nat) (ao bo:Option Addr) (n m c d:Nat) (ra rb:List Raw) (w:World) (ha:RdP w B ao n ra) (hb:RdP w B bo m rb) (hB:B≤w.heap.size) :
  Calls Try.prog 9 #[.agg #[.slice ao n c],.agg #[.slice bo m d]] w fun e w'=>e=.returned (.bool (decide (fns ra=fns rb)))∧Below w.heap.size w w':=by
 have HA:=Lib.hid ha
 have HB:=Lib.hid hb
 have s1:=ha.sz
 have s2:=hb.sz
 have HN:Hid ((fns ra).length=n):=Lib.hid (by rw [length_fns,ha.len])
 have HM:Hid ((fns rb).length=m):=Lib.hid (by rw [length_fns,hb.len])
 have HW0:Hid (Below w.heap.size w ((w.alloc (.cells #[.slice ao n c] 24)).alloc (.cells #[.slice bo m d] 24))):=((Below.refl _ _).alloc (Nat.le_refl _) _).alloc (by simp) _
 have HX0:Hid (Blk ((w.alloc (.cells #[.slice ao n c] 24)).alloc (.cells #[.slice bo m d] 24)) w.heap.size 24 #[.slice ao n c]):=(Blk.new w 24 #[.slice ao n c]).alloc _
 have HY0:Hid (Blk ((w.alloc (.cells #[.slice ao n c] 24)).alloc (.cells #[.slice bo m d] 24)) (w.heap.size+1) 24 #[.slice bo m d]):=by
  exact blk_second w _ _ _ _
 clear ha hb
 by_cases hgt:n≠m
 ·have hr:decide (fns ra=fns rb)=false:=eq_len (by rw [HN.out,HM.out];exact hgt)
  have HR:=Lib.hid hr
  clear hr
  go_enter Try.func9,Try.ntmps9
  go_wp2
  go_ret
  exact ⟨by rw [HR.out];rfl,HW0.out⟩
 ·obtain rfl:n=m:=by omega
  clear hgt
  go_enter Try.func9,Try.ntmps9
  go_wp2
  go_loopw [20] (fun i wr=>∃ k:Nat,k≤n∧i=.int .i64 k∧Hid ((fns rb).take k=(fns ra).take k)∧Hid (Below w.heap.size w wr)∧Hid (Blk wr w.heap.size 24 #[.slice ao n c])∧Hid (Blk wr (w.heap.size+1) 24 #[.slice bo n d])) (fun i _=>n-(intOf i).toNat)
  case atStart=>exact ⟨0,Nat.zero_le _,rfl,rfl,HW0,HX0,HY0⟩
  case round =>
   clear HX0 HY0 HW0
   obtain ⟨k,hk,rfl,HP,HW,HBX,HBY⟩:=hrel
   have hz:=HW.out.size
   have hz2:=HBY.out.lt
   by_cases hlt:k<n
   ·obtain ⟨b1,o1,r,rfl,hbk1,HX,HRF,HWF,x0,x1,x2,x3,x4⟩:=(HA.out.below (HW.out.mono hB)).fn hlt
    obtain ⟨b2,o2,s,rfl,hbk2,HY,HRG,HWG,y0,y1,y2,y3,y4⟩:=(HB.out.below (HW.out.mono hB)).fn hlt
    have hbr1:b1<wr.heap.size:=by omega
    have hbr2:b2<wr.heap.size:=by omega
    have d0:wr.cell? ⟨w.heap.size,0,none⟩=some (.slice (some ⟨b1,o1,none⟩) n c):=HBX.out.cell 0
    have d1:wr.cell? ⟨w.heap.size+1,0,none⟩=some (.slice (some ⟨b2,o2,none⟩) n d):=HBY.out.cell 0
    go_upto_region 6 with fail
    go_cut [6,7] (fun s6 s7 wx=>∃ q6 q7:Nat,s6=.pointer (some ⟨q6,0,none⟩)∧s7=.pointer (some ⟨q7,0,none⟩)∧Hid (Below wr.heap.size wr wx)∧Hid (Blk wx q6 41 #[.int .i64 r.fn.params,.slice r.lo r.fn.locals.length r.lc,.bool r.fn.result,.int .i64 r.fn.keep,.slice r.co r.fn.code.length r.cc]) ∧
     Hid (Blk wx q7 41 #[.int .i64 s.fn.params,.slice s.lo s.fn.locals.length s.lc,.bool s.fn.result,.int .i64 s.fn.keep,.slice s.co s.fn.code.length s.cc]))
    case first =>
     go_region_held3 (fun W=>W.cell? ⟨w.heap.size,0,none⟩=some (.slice (some ⟨b1,o1,none⟩) n c)∧W.cell? ⟨w.heap.size+1,0,none⟩=some (.slice (some ⟨b2,o2,none⟩) n d) ∧
      W.cell? ⟨b1,o1+k*5,none⟩=some (.int .i64 r.fn.params)∧W.cell? ⟨b1,o1+k*5+1,none⟩=some (.slice r.lo r.fn.locals.length r.lc)∧W.cell? ⟨b1,o1+k*5+2,none⟩=some (.bool r.fn.result)∧W.cell? ⟨b1,o1+k*5+3,none⟩=some (.int .i64 r.fn.keep)∧W.cell? ⟨b1,o1+k*5+4,none⟩=some (.slice r.co r.fn.code.length r.cc) ∧
      W.cell? ⟨b2,o2+k*5,none⟩=some (.int .i64 s.fn.params)∧W.cell? ⟨b2,o2+k*5+1,none⟩=some (.slice s.lo s.fn.locals.length s.lc)∧W.cell? ⟨b2,o2+k*5+2,none⟩=some (.bool s.fn.result)∧W.cell? ⟨b2,o2+k*5+3,none⟩=some (.int .i64 s.fn.keep)∧W.cell? ⟨b2,o2+k*5+4,none⟩=some (.slice s.co s.fn.code.length s.cc))
      (first | go_keep) (fail)
     all_goals
      go_wp2
      go_meet
     case rel=>exact ⟨wr.heap.size,wr.heap.size+1,rfl,rfl,below_two _ _ _ _ _,(Blk.new wr _ _).alloc _,blk_second _ _ _ _ _⟩
     case rel=>exact ⟨wr.heap.size+1,wr.heap.size,rfl,rfl,below_two _ _ _ _ _,blk_second _ _ _ _ _,(Blk.new wr _ _).alloc _⟩
    case rest =>
     obtain ⟨q6,q7,rfl,rfl,HC,HQ6,HQ7⟩:=hcut
     have HWC:=Lib.hid (HW.out.trans (HC.out.mono hz))
     have HBX2:=Lib.hid (HBX.out.below HC.out HBX.out.lt)
     have HBY2:=Lib.hid (HBY.out.below HC.out HBY.out.lt)
     have HXK:Hid ((fns ra)[k]?=some r.fn):=Lib.hid (by unfold fns;rw [List.getElem?_map,HX.out];rfl)
     have HYK:Hid ((fns rb)[k]?=some s.fn):=Lib.hid (by unfold fns;rw [List.getElem?_map,HY.out];rfl)
     have HRF2:=Lib.hid (HRF.out.keep fun p hp=>HC.out.cell (p:=p) (by omega))
     have HRG2:=Lib.hid (HRG.out.keep fun p hp=>HC.out.cell (p:=p) (by omega))
     have HNE:Hid (r.fn≠s.fn→decide (fns ra=fns rb)=false):=fun h=>eq_at HXK.out HYK.out h
     have wl1:=HWF.out.ll
     have wl2:=HWG.out.ll
     have wc1:r.fn.code.length≤140737488351232:=by have:=HWF.out.cl;omega
     have wc2:s.fn.code.length≤140737488351232:=by have:=HWG.out.cl;omega
     obtain ⟨⟨p,ls,fl,kp,is⟩,lo,lc,co,cc⟩:=r
     obtain ⟨⟨p',ls',fl',kp',is'⟩,lo',lc',co',cc'⟩:=s
     clear x0 x1 x2 x3 x4 y0 y1 y2 y3 y4 d0 d1
     simp only at wl1 wl2 wc1 wc2 HQ6 HQ7
     have z0:wc.cell? ⟨q6,0,none⟩=some (.int .i64 p):=HQ6.out.cell 0
     have z1:wc.cell? ⟨q6,1,none⟩=some (.slice lo ls.length lc):=HQ6.out.cell 1
     have z2:wc.cell? ⟨q6,2,none⟩=some (.bool fl):=HQ6.out.cell 2
     have z3:wc.cell? ⟨q6,3,none⟩=some (.int .i64 kp):=HQ6.out.cell 3
     have z4:wc.cell? ⟨q6,4,none⟩=some (.slice co is.length cc):=HQ6.out.cell 4
     have y0:wc.cell? ⟨q7,0,none⟩=some (.int .i64 p'):=HQ7.out.cell 0
     have y1:wc.cell? ⟨q7,1,none⟩=some (.slice lo' ls'.length lc'):=HQ7.out.cell 1
     have y2:wc.cell? ⟨q7,2,none⟩=some (.bool fl'):=HQ7.out.cell 2
     have y3:wc.cell? ⟨q7,3,none⟩=some (.int .i64 kp'):=HQ7.out.cell 3
     have y4:wc.cell? ⟨q7,4,none⟩=some (.slice co' is'.length cc'):=HQ7.out.cell 4
     by_cases c1:p=p'
     rotate_left
     ·have g1:(p != p')=true:=by simpa using c1
      have HR:=Lib.hid (HNE.out (fun h=>c1 (by injection h)))
      clear c1
      go_wp2
      go_ret
      exact ⟨by rw [HR.out];rfl,HWC.out⟩
     subst c1
     have g1:(p != p)=false:=by simp
     by_cases c2:fl=fl'
     rotate_left
     ·have HR:=Lib.hid (HNE.out (fun h=>c2 (congrArg (fun f:Fn=>f.result) h)))
      have HC2:=Lib.hid c2
      clear c2
      cases fl <;> cases fl'
      ·exact absurd rfl HC2.out
      rotate_right
      ·exact absurd rfl HC2.out
      all_goals
       go_wp2
       go_ret
       exact ⟨by rw [HR.out];rfl,HWC.out⟩
     subst c2
     have g2:(fl != fl)=false:=by simp
     by_cases c3:kp=kp'
     rotate_left
     ·have g3:(kp != kp')=true:=by simpa using c3
      have HR:=Lib.hid (HNE.out (fun h=>c3 (by injection h)))
      clear c3
      go_wp2
      go_ret
      exact ⟨by rw [HR.out];rfl,HWC.out⟩
     subst c3
     have g3:(kp != kp)=false:=by simp
     obtain ⟨nl,HNL⟩:∃ x,Hid (x=ls.length):=⟨_,rfl⟩
     obtain ⟨nl',HNL'⟩:∃ x,Hid (x=ls'.length):=⟨_,rfl⟩
     obtain ⟨nc,HNC⟩:∃ x,Hid (x=is.length):=⟨_,rfl⟩
     obtain ⟨nc',HNC'⟩:∃ x,Hid (x=is'.length):=⟨_,rfl⟩
     rw [← HNL.out] at z1 wl1
     rw [← HNL'.out] at y1 wl2
     rw [← HNC.out] at z4 wc1
     rw [← HNC'.out] at y4 wc2
     by_cases c4:nl=nl'
     rotate_left
     ·have HR:=Lib.hid (HNE.out (fun h=>c4 (by rw [HNL.out,HNL'.out];exact congrArg (fun f:Fn=>f.locals.length) h)))
      have g4':(nl != nl')=true:=by simpa using c4
      go_wp2
      go_ret
      exact ⟨by rw [HR.out];rfl,HWC.out⟩
     subst c4
     by_cases c5:nc=nc'
     rotate_left
     ·have HR:=Lib.hid (HNE.out (fun h=>c5 (by rw [HNC.out,HNC'.out];exact congrArg (fun f:Fn=>f.code.length) h)))
      have g5':(nc != nc')=true:=by simpa using c5
      go_wp2
      go_ret
      exact ⟨by rw [HR.out];rfl,HWC.out⟩
     subst c5
     have HRL:=Lib.hid HRF2.out.locals
     have HRL':=Lib.hid HRG2.out.locals
     have HRC:=Lib.hid HRF2.out.code
     have HRC':=Lib.hid HRG2.out.code
     simp only at HRL HRL' HRC HRC'
     rw [← HNL.out] at HRL
     rw [← HNL'.out] at HRL'
     rw [← HNC.out] at HRC
     rw [← HNC'.out] at HRC'
     go_wp2
     obtain ⟨wo,rfl⟩:∃ wo:World,wo=wr:=⟨_,rfl⟩
     go_loopw [73] (fun i wr=>∃ j q:Nat,j≤nl∧i=.int .i64 j∧Hid (ls'.take j=ls.take j)∧wr=wc.drewN q) (fun i _=>nl-(intOf i).toNat)
     case atStart=>exact ⟨0,0,Nat.zero_le _,rfl,rfl,rfl⟩
     case round =>
      obtain ⟨j,q,hj,rfl,HPJ,rfl⟩:=hrel
      by_cases hjl:j<nl
      ·obtain ⟨b3,o3,x,hlo,hbk3,HXJ,x1⟩:=HRL.out.byte hjl
       obtain ⟨b4,o4,y,hlo',hbk4,HYJ,y5⟩:=HRL'.out.byte hjl
       subst hlo
       subst hlo'
       by_cases hxy:x=y
       ·have hd:(x != y)=false:=by simpa using hxy
        have HXY:=Lib.hid hxy
        clear hxy
        go_wp2
        go_quiet (fail)
        go_wp2
        go_roundw
        case rel=>exact ⟨j+1,q+nq,by omega,by go_num,by show ls'.take (j+1)=ls.take (j+1);rw [take_snoc HXJ.out,take_snoc HYJ.out,HPJ.out,HXY.out],rfl⟩
        case measure=>simp [intOf];omega
       ·have hd:(x != y)=true:=by simpa using hxy
        have HR:=Lib.hid (HNE.out (fun h=>by
         have h2:ls=ls':=congrArg (fun f:Fn=>f.locals) h
         have:=HXJ.out
         rw [h2,HYJ.out] at this
         exact hxy (by simpa using this.symm)))
        clear hxy
        go_wp2
        go_quiet (fail)
        go_wp2
        go_ret
        exact ⟨by rw [HR.out];rfl,below_drewN (below_drewN HWC.out _) _⟩
      ·obtain rfl:nl=j:=by omega
       clear hjl hj
       have HLL:Hid (ls=ls'):=by
        have h:=HPJ.out
        rw [List.take_of_length_le (by rw [← HNL'.out];omega),List.take_of_length_le (by rw [← HNL.out];omega)] at h
        exact h.symm
       go_wp2
       go_loopw [91] (fun i wr=>∃ j q:Nat,j≤nc∧i=.int .i64 j∧Hid (is'.take j=is.take j)∧wr=wc.drewN q) (fun i _=>nc-(intOf i).toNat)
       case atStart=>exact ⟨0,q,Nat.zero_le _,rfl,rfl,rfl⟩
       case round =>
        obtain ⟨j,q',hj,rfl,HPI,rfl⟩:=hrel
        by_cases hjl:j<nc
        ·obtain ⟨b3,o3,x,hlo,hbk3,HXJ,x1,x2,x3⟩:=HRC.out.ins hjl
         obtain ⟨b4,o4,y,hlo',hbk4,HYJ,y5,y6,y7⟩:=HRC'.out.ins hjl
         subst hlo
         subst hlo'
         have he:∀ W,Sem.run Try.prog (Op.equalIn 10000 52 (.agg #[.int .u8 x.op,.int .i64 x.arg,.int .u64 x.imm]) (.agg #[.int .u8 y.op,.int .i64 y.arg,.int .u64 y.imm])) W=.ok (decide (x=y)) W:=equalIn_ins x y
         by_cases hxy:x=y
         ·have hd:decide (x=y)=true:=by simpa using hxy
          rw [hd] at he
          have HXY:=Lib.hid hxy
          clear hxy hd
          go_wp2
          go_quiet (fail)
          go_wp2
          go_roundw
          case rel=>exact ⟨j+1,q'+nq,by omega,by go_num,by show is'.take (j+1)=is.take (j+1);rw [take_snoc HXJ.out,take_snoc HYJ.out,HPI.out,HXY.out],rfl⟩
          case measure=>simp [intOf];omega
         ·have hd:decide (x=y)=false:=by simpa using hxy
          rw [hd] at he
          have HR:=Lib.hid (HNE.out (fun h=>by
           have h2:is=is':=congrArg (fun f:Fn=>f.code) h
           have:=HXJ.out
           rw [h2,HYJ.out] at this
           exact hxy (by simpa using this.symm)))
          clear hxy hd
          go_wp2
          go_quiet (fail)
          go_wp2
          go_ret
          exact ⟨by rw [HR.out];rfl,below_drewN (below_drewN HWC.out _) _⟩
        ·obtain rfl:nc=j:=by omega
         clear hjl hj
         have HII:Hid (is=is'):=by
          have h:=HPI.out
          rw [List.take_of_length_le (by rw [← HNC'.out];omega),List.take_of_length_le (by rw [← HNC.out];omega)] at h
          exact h.symm
         have HT1:Hid ((fns rb).take (k+1)=(fns ra).take (k+1)):=Lib.hid (by rw [take_snoc HXK.out,take_snoc HYK.out,HP.out,HLL.out,HII.out])
         go_wp2
         go_roundw
         case rel=>exact ⟨k+1,by omega,by go_num,HT1,below_drewN HWC.out _,HBX2.out.drewN _,HBY2.out.drewN _⟩
         case measure=>simp [intOf];omega
   ·obtain rfl:n=k:=by omega
    have hr:decide (fns ra=fns rb)=true:=by
     have h:=HP.out
     rw [List.take_of_length_le (by rw [HM.out];omega),List.take_of_length_le (by rw [HN.out];omega)] at h
     rw [h];simp
    have HR:=Lib.hid hr
    clear hr
    go_wp2
    go_ret
    exact ⟨by rw [HR.out];rfl,HW.out⟩
structure FnAt (w:World) (B:Nat) (l:List (Option Stk)) (rv sv:Value):Prop where
 at_:∃ (ra sa m:Nat) (vs:List Value),rv=.slice (some ⟨ra,0,none⟩) m m∧sv=.slice (some ⟨sa,0,none⟩) m m∧l.length=m∧m≤256∧Blk w ra 4 (reachC l).toArray∧Blk w sa 38 vs.toArray∧vs.length=m∧B≤ra∧B≤sa ∧
  ∀ (j:Nat) x,l[j]?=some x→∃ a q k,vs[j]?=some (.slice a q k)∧q=(x.getD []).length∧w.ownsRow B 46 1 (.slice a q k) q (u8c (x.getD []))
theorem FnAt.below {w w':World} {B:Nat} {l:List (Option Stk)} {rv sv:Value} (h:FnAt w B l rv sv) (hb:Below w.heap.size w w'):FnAt w' B l rv sv:=by
 obtain ⟨ra,sa,m,vs,h1,h2,h3,h4,h5,h6,h7,h8,h9,h10⟩:=h.at_
 refine ⟨ra,sa,m,vs,h1,h2,h3,h4,h5.below hb h5.lt,h6.below hb h6.lt,h7,h8,h9,fun j x hx=>?_⟩
 obtain ⟨a,q,k,e1,e2,e3⟩:=h10 j x hx
 exact ⟨a,q,k,e1,e2,own_kept e3 fun i hi=>hb.block i (own_lt e3 hi).2⟩
def WalkPost (w:World) (B g n c:Nat) (A:Option Addr) (rs:List Raw) (r:Raw) (e:Ending) (w':World):Prop :=
 ∃ ok,e=.returned (.bool ok)∧Kp w w' (fun i=>i=g)∧((ok=false∧¬ Fine (fns rs) r.fn)∨(ok=true∧∃ l rv sv wv,Sol (fns rs) r.fn l∧Wk w' B g A n c rs r rv sv wv∧FnAt w' B l rv sv))
theorem Try.info4:(Try.prog.info? 4).map (fun i=>(i.zero,i.size,i.bytes))=some (some (.bool false),1,1):=by kernel_rfl
theorem Try.info38:(Try.prog.info? 38).map (fun i=>(i.zero,i.size,i.bytes))=some (some (.slice none 0 0),1,24):=by kernel_rfl
section
variable {w w':World} {B g ra sa n c m wk wcap:Nat} {A WA:Option Addr} {rs:List Raw} {r:Raw} {l:List (Option Stk)} {wl:List Nat} {vs:List Value}
theorem WS.init (h:Wk w B g A n c rs r (.slice none 0 0) (.slice none 0 0) (.slice none 0 0)) (hm:r.fn.code.length=m) (hm1:m≤256) :
  WS ((((w.setCell ⟨g,6,none⟩ (.slice (some ⟨w.heap.size,0,none⟩) m m)).setCell ⟨g,7,none⟩ (.slice (some ⟨w.heap.size+1,0,none⟩) m m)).alloc (.cells (madeCells #[.bool false] m) 4)).alloc (.cells (madeCells #[.slice none 0 0] m) 38)) B g w.heap.size (w.heap.size+1) A n c rs r m (List.replicate m none) [] (List.replicate m (.slice none 0 0)) none 0 0 ∧
  Kp w ((((w.setCell ⟨g,6,none⟩ (.slice (some ⟨w.heap.size,0,none⟩) m m)).setCell ⟨g,7,none⟩ (.slice (some ⟨w.heap.size+1,0,none⟩) m m)).alloc (.cells (madeCells #[.bool false] m) 4)).alloc (.cells (madeCells #[.slice none 0 0] m) 38)) (fun i=>i=g):=by
 have hle:=h.le
 obtain ⟨W2,hW2⟩:∃ W2,W2=(w.setCell ⟨g,6,none⟩ (.slice (some ⟨w.heap.size,0,none⟩) m m)).setCell ⟨g,7,none⟩ (.slice (some ⟨w.heap.size+1,0,none⟩) m m):=⟨_,rfl⟩
 have hs2:W2.heap.size=w.heap.size:=by rw [hW2];simp [World.setCell]
 have hb2:Blk W2 g 138 (WkC A n c r (.slice (some ⟨w.heap.size,0,none⟩) m m) (.slice (some ⟨w.heap.size+1,0,none⟩) m m) (.slice none 0 0)):=by rw [hW2];exact (h.blk.set_ 6 _).set_ 7 _
 have hk2:Kp w W2 (fun i=>i=g):=by rw [hW2];exact (Kp.set (ex:=fun i=>i=g) w _ _ rfl).trans (Kp.set (ex:=fun i=>i=g) _ _ _ rfl) fun _ _ h=>h
 rw [← hW2,← hs2]
 have hr3:Blk ((W2.alloc (.cells (madeCells #[.bool false] m) 4)).alloc (.cells (madeCells #[.slice none 0 0] m) 38)) W2.heap.size 4 (madeCells #[.bool false] m):=(Blk.new W2 _ _).alloc _
 have hs3:=blk_second W2 4 38 (madeCells #[.bool false] m) (madeCells #[.slice none 0 0] m)
 have hk3:Kp W2 ((W2.alloc (.cells (madeCells #[.bool false] m) 4)).alloc (.cells (madeCells #[.slice none 0 0] m) 38)) (fun i=>i=g):=Kp.of_below (((Below.refl _ _).alloc (Nat.le_refl _) _).alloc (by simp) _) _
 have hk:=hk2.trans hk3 fun _ _ h=>h
 have hB:=hk.below hle (by rintro i rfl;exact h.bg)
 refine ⟨⟨⟨by rw [← hs2] at hb2;exact (hb2.alloc _).alloc _,h.prog.below hB,h.fn.below hB,h.wf,by have:=hk.size;omega,h.ok,h.okf,h.bg⟩,by simp,hm,hm1,?_,?_,by simp,fun j x hx=>?_,rfl,own_none _ _ _ _,by rw [hs2];exact hle,by rw [hs2];omega⟩,hk⟩
 ·have he:reachC (List.replicate m none)=List.replicate m (.bool false):=by simp [reachC]
  rw [he,← made_rep]
  exact hr3
 ·rw [← made_rep]
  exact hs3
 ·rw [List.getElem?_replicate] at hx
  split at hx
  ·simp at hx
   subst hx
   exact ⟨none,0,0,by rw [List.getElem?_replicate];simp;assumption,rfl,own_none _ _ _ _⟩
  ·cases hx
theorem WS.pop {a k:Nat} (h:WS w B g ra sa A n c rs r m l (wl ++ [a]) vs WA (k+1) wcap):WS (w.setCell ⟨g,8,none⟩ (.slice WA k wcap)) B g ra sa A n c rs r m l wl vs WA k wcap∧Kp w (w.setCell ⟨g,8,none⟩ (.slice WA k wcap)) (fun i=>i=g):=by
 have hk:Kp w (w.setCell ⟨g,8,none⟩ (.slice WA k wcap)) (fun i=>i=g):=Kp.set w _ _ rfl
 have hB:=hk.below h.wkr.le (by rintro i rfl;exact h.wkr.bg)
 have hrg:ra≠g:=Blk.ne_ h.reached h.wkr.blk (by decide)
 have hsg:sa≠g:=Blk.ne_ h.stacks h.wkr.blk (by decide)
 refine ⟨⟨⟨h.wkr.blk.set_ 8 _,h.wkr.prog.below hB,h.wkr.fn.below hB,h.wkr.wf,by have:=hk.size;have:=h.wkr.le;omega,h.wkr.ok,h.wkr.okf,h.wkr.bg⟩,h.len,h.clen,h.small,hk.blk h.reached hrg,hk.blk h.stacks hsg,h.vlen,fun j x hx=>?_,by have:=h.wlen;rw [List.length_append] at this;simpa using this,?_,h.bra,h.bsa⟩,hk⟩
 ·obtain ⟨av,q,k',h1,h2,h3⟩:=h.vat j x hx
  exact ⟨av,q,k',h1,h2,hk.own h3 fun i hi e=>own_blk_ne h3 h.wkr.blk (by decide) (e ▸ hi)⟩
 ·have h4:=hk.own h.wait fun i hi e=>own_blk_ne h.wait h.wkr.blk (by decide) (e ▸ hi)
  have hwl:wl.length=k:=by have:=h.wlen;rw [List.length_append] at this;simpa using this
  rcases h4.2 with ⟨_,h0⟩ | ⟨g',cap,cur,hv,hg',hb',hn',hm',hs',ht'⟩
  ·omega
  ·injection hv with hv1 hv2 hv3
   subst hv1 hv3
   refine ⟨by simp [intc,hwl],.inr ⟨g',_,cur,rfl,hg',hb',by omega,hm',hs',?_⟩⟩
   have h5:=congrArg (List.take k) ht'
   rw [List.take_take] at h5
   rw [show k*1=min k ((k+1)*1) by omega,h5]
   unfold intc
   rw [List.map_append,List.take_append_of_le_length (by simp [hwl])]
   rw [List.take_of_length_le (by simp [hwl])]
theorem WS.fnAt (h:WS w B g ra sa A n c rs r m l wl vs WA wk wcap):FnAt w B l (.slice (some ⟨ra,0,none⟩) m m) (.slice (some ⟨sa,0,none⟩) m m) :=
 ⟨ra,sa,m,vs,rfl,rfl,h.len,h.small,h.reached,h.stacks,h.vlen,h.bra,h.bsa,h.vat⟩
end
theorem walk_any (B g n c m:Nat) (A:Option Addr) (rs:List Raw) (r:Raw) (w:World) (h:Wk w B g A n c rs r (.slice none 0 0) (.slice none 0 0) (.slice none 0 0)) (hm:r.fn.code.length=m) (hm1:m≤256) (href:∀ i ∈ r.fn.code,insRef (fns rs) r.fn i=true) :
  Calls Try.prog 60 #[.pointer (some ⟨g,0,none⟩)] w (WalkPost w B g n c A rs r):=by
 obtain ⟨d0,d1,d2,d3,d4,d5,d6,d7,d8⟩:=h.cells
 rw [hm] at d5
 have hg:=h.blk.lt
 have f6:=h.blk.frozen 6
 have f7:=h.blk.frozen 7
 have H:=Lib.hid h
 have HM:=Lib.hid hm
 have hmk1:∀ W:World,(Instr.makeSlice 83 (.int .i64 m) (.int .i64 m)).run Try.prog W=.ok (.slice (some ⟨W.heap.size,0,none⟩) m m) (W.alloc (.cells (madeCells #[.bool false] m) 4)):=fun W=>run_make_row' _ _ _ 1 Try.underlying83 Try.info4 rfl .i64 .i64 m (by omega) (by omega) W
 have hmk2:∀ W:World,(Instr.makeSlice 75 (.int .i64 m) (.int .i64 m)).run Try.prog W=.ok (.slice (some ⟨W.heap.size,0,none⟩) m m) (W.alloc (.cells (madeCells #[.slice none 0 0] m) 38)):=fun W=>run_make_row' _ _ _ 24 Try.underlying75 Try.info38 rfl .i64 .i64 m (by omega) (by omega) W
 clear h hm
 go_enter Try.func60,Try.ntmps60
 go_upto_region 3 with fail
 have HI0:=Lib.hid (WS.init H.out HM.out hm1)
 obtain ⟨W3,hW3⟩:∃ W3,W3=((((w.setCell ⟨g,6,none⟩ (.slice (some ⟨w.heap.size,0,none⟩) m m)).setCell ⟨g,7,none⟩ (.slice (some ⟨w.heap.size+1,0,none⟩) m m)).alloc (.cells (madeCells #[.bool false] m) 4)).alloc (.cells (madeCells #[.slice none 0 0] m) 38)):=⟨_,rfl⟩
 rw [← hW3] at HI0 ⊢
 have HAR:=Lib.hid (arrive_any B g w.heap.size (w.heap.size+1) n c m 0 0 0 0 0 0 A none none rs r (List.replicate m none) [] (List.replicate m (.slice none 0 0)) [] W3 HI0.out.1 (own_none _ _ _ _) (by omega) (fun j s2 h2=>by rw [List.getElem?_replicate] at h2;split at h2 <;> simp at h2) (by omega) (by omega))
 clear hW3 hmk1 hmk2 d0 d1 d2 d3 d4 d5 d6 d7 d8 f6 f7
 go_wp2_with (go_at_call 79;refine HAR.out.mono ?_;rintro e w5 ⟨ok,rfl,hkp,hcase⟩;have HKP:=Lib.hid hkp;have HC5:=Lib.hid hcase;clear hkp hcase;refine Hid.out ?_)
 have HK5:Hid (Kp w w5 (fun i=>i=g)):=Lib.hid (HI0.out.2.trans HKP.out (by
  rintro i hi (rfl | rfl | rfl | hx)
  ·rfl
  ·omega
  ·omega
  ·cases hx))
 have HST:Hid ((ok=false∧¬ Fine (fns rs) r.fn)∨(ok=true∧∃ l wl vs WA wk wcap,WS w5 B g w.heap.size (w.heap.size+1) A n c rs r m l wl vs WA wk wcap∧Inv (fns rs) r.fn l wl∧2*cnt l+wl.length≤2000∧(∀ q,(Value.slice WA wk wcap).ownBlock=some q→w.heap.size≤q))):=Lib.hid (by
  rcases HC5.out with ⟨rfl,hb⟩ | ⟨rfl,l',wl',vs',WA',wk',wcap',hws,hwt,hc⟩
  ·refine .inl ⟨rfl,?_⟩
   rcases hb with hb | ⟨s2,h2,_⟩
   ·exact not_fine_code .base (List.getElem?_eq_none (by rw [HM.out];exact hb))
   ·rw [List.getElem?_replicate] at h2;split at h2 <;> simp at h2
  ·rcases hc with ⟨h2,_⟩ | ⟨h2,rfl,rfl⟩
   ·rw [List.getElem?_replicate] at h2;split at h2 <;> simp at h2
   ·have h0:0<m:=by
     have:=(List.getElem?_eq_some_iff.1 h2).1
     simpa using this
    have hinv:=Inv.start (fs:=fns rs) (f:=r.fn) (by rw [HM.out];exact h0)
    rw [HM.out] at hinv
    refine .inr ⟨rfl,_,_,vs',WA',wk',wcap',hws,hinv,?_,fun q hq=>?_⟩
    ·have h3:=cnt_le ((List.replicate m none).set 0 (some ([]:Stk)))
     rw [List.length_set,List.length_replicate] at h3
     simp
     omega
    ·rcases hwt with ht | ⟨j,hj,hz⟩
     ·rw [ht] at hq;cases hq
     ·rw [hj] at hq;injection hq with hq;subst hq;have:=HI0.out.2.size;omega)
 clear HC5 HKP HAR HI0
 refine Lib.hid ?_
 go_wp2
 go_loopg [3] 2000 (fun gk x wr=>∃ ok,x=.bool ok∧Hid (Kp w wr (fun i=>i=g))∧Hid ((ok=false∧¬ Fine (fns rs) r.fn)∨(ok=true∧∃ l wl vs WA wk wcap,WS wr B g w.heap.size (w.heap.size+1) A n c rs r m l wl vs WA wk wcap∧Inv (fns rs) r.fn l wl∧2*cnt l+wl.length≤gk∧gk≤2000∧(∀ q,(Value.slice WA wk wcap).ownBlock=some q→w.heap.size≤q))))
 case atStart=>exact ⟨ok,rfl,HK5,Lib.hid (HST.out.imp (fun h=>h) fun ⟨h1,l,wl,vs,WA,wk,wcap,h2,h3,h4,h5⟩=>⟨h1,l,wl,vs,WA,wk,wcap,h2,h3,h4,Nat.le_refl _,h5⟩)⟩
 case round =>
  clear HST HK5
  obtain ⟨ok,rfl,HK,HS⟩:=hrel
  have hzr:=HK.out.size
  rcases HS.out with ⟨rfl,hnf⟩ | ⟨rfl,l,wl,vs,WA,wk,wcap,hws,hinv,hmeas,hgk,hwv⟩
  ·have HNF:=Lib.hid hnf
   clear hnf
   go_wp2
   go_ret
   exact ⟨false,rfl,HK.out,.inl ⟨rfl,HNF.out⟩⟩
  ·have e8:wr.cell? ⟨g,8,none⟩=some (.slice WA wk wcap):=hws.wkr.cells.2.2.2.2.2.2.2.2
   have f8:=hws.wkr.blk.frozen 8
   have hgr:=hws.wkr.blk.lt
   have HWS:=Lib.hid hws
   have HINV:=Lib.hid hinv
   have HWV:=Lib.hid hwv
   rcases List.eq_nil_or_concat wl with hwl | ⟨wl0,a,hwl⟩
   ·have hwk0:wk=0:=by have:=hws.wlen;rw [hwl] at this;simpa using this.symm
    have HNIL:=Lib.hid hwl
    clear hwl hws hinv hwv
    subst hwk0
    go_wp2
    go_ret
    exact ⟨true,rfl,HK.out,.inr ⟨rfl,l,_,_,_,(by have h:=HINV.out;rw [HNIL.out] at h;exact h.sol),HWS.out.wkr,HWS.out.fnAt⟩⟩
   ·rw [List.concat_eq_append] at hwl
    subst hwl
    obtain ⟨k,hk⟩:∃ k,wk=k+1:=⟨wl0.length,by have:=hws.wlen;rw [List.length_append] at this;simpa using this.symm⟩
    subst hk
    have hlk:wl0.length=k:=by have:=hws.wlen;rw [List.length_append] at this;simpa using this
    obtain ⟨bl,off,x,hWA,hbl,HX,y0⟩:=NewI.at_ (b:=0) (Reads.of_own hws.wait) (j:=k) (by omega)
    have hxa:x=a:=by have h:=HX.out;rw [List.getElem?_append_right (by omega),hlk] at h;simpa using h.symm
    subst hxa
    have hkc:k+1≤wcap:=own_cap hws.wait
    obtain ⟨hp,hkp⟩:=hws.pop
    have HP:=Lib.hid hp
    have HKP:=Lib.hid hkp
    have hk1:((k:Int)+1)-1=(k:Int):=by omega
    have h0k:(0:Int)≤(k:Int):=by omega
    have hkk:(k:Int)<(k:Int)+1:=by omega
    have hkn:k<k+1:=by omega
    have hkw:k≤wcap:=by omega
    have HMS:=Lib.hid hmeas
    rw [List.length_append] at hmeas
    have hm2:2*cnt l+wl0.length+1≤gk:=by simp at hmeas;omega
    have hm3:2*cnt l+wl0.length+1≤2000:=by omega
    have HGO:=Lib.hid (goOn_any B g w.heap.size (w.heap.size+1) n c m k wcap x A WA rs r l wl0 vs _ hp (hinv.more (fun y hy=>by simp at hy ⊢;exact hy.symm) (fun y hy=>hinv.opened y (by simp at hy ⊢;exact hy.symm))) href (by omega))
    have hkb:k≤2000:=by omega
    have HLK:=Lib.hid hlk
    subst hWA
    clear hws hinv hwv hp hkp hlk hmeas
    go_wp2_with (go_at_call 80;refine HGO.out.mono ?_;rintro e w6 ⟨ok,rfl,hkp6,hcase⟩;have HKP6:=Lib.hid hkp6;have HC6:=Lib.hid hcase;clear hkp6 hcase;refine Hid.out ?_)
    have HK6:Hid (Kp w w6 (fun i=>i=g)):=Lib.hid ((HK.out.trans HKP.out fun _ _ h=>h).trans HKP6.out (by
     rintro i hi (h | h | h | hx)
     ·exact h
     ·omega
     ·omega
     ·have:=HWV.out i hx;omega))
    have HR6:Hid ((ok=false∧¬ Fine (fns rs) r.fn)∨(ok=true∧∃ l wl vs WA wk wcap,WS w6 B g w.heap.size (w.heap.size+1) A n c rs r m l wl vs WA wk wcap∧Inv (fns rs) r.fn l wl∧2*cnt l+wl.length≤gk-1∧gk-1≤2000∧(∀ q,(Value.slice WA wk wcap).ownBlock=some q→w.heap.size≤q))):=Lib.hid (by
     rcases HC6.out with hc | ⟨rfl,l',wl',vs',WA',wk',wcap',h1,h2,h3,h4,h5⟩
     ·exact .inl hc
     ·refine .inr ⟨rfl,l',wl',vs',WA',wk',wcap',h1,h2,by omega,by omega,fun q hq=>?_⟩
      rcases h5 with h5 | ⟨q',hq',hz⟩
      ·rw [h5] at hq;exact HWV.out q hq
      ·rw [hq'] at hq;injection hq with hq;subst hq;have:=HKP.out.size;omega)
    clear HC6 HKP6
    refine Lib.hid ?_
    go_wp2
    go_roundg (gk-1)
    case measure=>omega
    case rel=>exact ⟨ok,rfl,HK6,HR6⟩
end Go.Proofs.Ytgekmjkfnhogkaa.Q
