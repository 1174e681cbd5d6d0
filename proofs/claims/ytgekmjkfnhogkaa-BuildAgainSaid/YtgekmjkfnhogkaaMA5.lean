/-
  Texts of one seat, one behind the other: QKBeh, QKArr, QKGo, QKRef, QKRefB.
-/
import Derived.Deep.RegionLaw
import Derived.Deep.DeepCutAuto
import Derived.Test.YtgekmjkfnhogkaaMA4
import Derived.Test.YtgekmjkfnhogkaaMA3
import Derived.Test.YtgekmjkfnhogkaaMA1

set_option linter.unusedVariables false
set_option linter.unusedSimpArgs false
set_option maxRecDepth 100000
set_option maxHeartbeats 51200000
namespace Go.Proofs.Ytgekmjkfnhogkaa.Q
open Go.ChangeShapes Go.WideShapes Go.ChangeAt Go.RowKit
def BehPost (fs:List Fn) (f:Fn) (i:Ins) (s:Stk) (w:World) (e:Ending) (w':World):Prop :=
 ∃ A m c ok,e=.returned (.tuple #[.slice A m c,.bool ok])∧Below w.heap.size w w' ∧
  ((ok=false∧afterK fs f i s=none)∨(ok=true∧∃ s',afterK fs f i s=some s'∧s'.length=m∧w'.ownsRow w.heap.size 46 1 (.slice A m c) m (u8c s')))
theorem equal_is (B B':Nat) (A A':Option Addr) (n m c d:Nat) (xs ys:List Int) (b:Bool) (w:World) (hx:Reads w B 1 A n (u8c xs)) (hy:Reads w B' 1 A' m (u8c ys)) (hB:B≤w.heap.size) (hB':B'≤w.heap.size) (hn:n≤1048576) (hm:m≤1048576) (hb:decide (xs=ys)=b) :
  Calls Try.prog 94 #[.slice A n c,.slice A' m d] w fun e w'=>e=.returned (.bool b)∧Below w.heap.size w w':=by
 rw [← hb];exact equal_any B B' A A' n m c d xs ys w hx hy hB hB' hn hm
theorem cut_reads {w:World} {B n k cap:Nat} {A:Option Addr} {xs:List Int} (h:Reads w B 1 A n (u8c xs)) (hk:k≤n) (hc:n≤cap):Reads w B 1 (if cap=k then A else A.map (·.add k)) (n-k) (u8c (xs.drop k)):=by
 have:=Reads.cut h hk hc
 rw [Nat.mul_one] at this
 unfold u8c at this ⊢
 rw [List.map_drop]
 exact this
theorem takesK_len {fs:List Fn} {f:Fn} {i:Ins} {t:Int} (h:okP fs=true):(takesK fs f i t).length≤255:=by
 unfold takesK
 split
 ·simp
 split
 ·simp
 split
 ·simp
 split
 ·simp
 split
 ·unfold parK
  split
  ·rename_i g hg
   have:=okF_par ((okP_iff.1 h).2.2 g (List.mem_of_getElem? hg))
   rw [List.length_take];omega
  ·simp
 split
 ·have:=resOf_len f;omega
 split
 ·simp
 split <;> simp
theorem behind_any (B g n c:Nat) (A:Option Addr) (rs:List Raw) (r:Raw) (rv sv wv:Value) (i:Ins) (s:Stk) (SA:Option Addr) (sn sc:Nat) (w:World) (h:Wk w B g A n c rs r rv sv wv) (hin:insRef (fns rs) r.fn i=true) (h0:0≤i.arg)
  (hs:Reads w w.heap.size 1 SA sn (u8c s)) (hsc:sn≤sc) (hsn:sn≤50000) :
  Calls Try.prog 96 #[.pointer (some ⟨g,0,none⟩),.agg #[.int .u8 i.op,.int .i64 i.arg,.int .u64 i.imm],.slice SA sn sc] w (BehPost (fns rs) r.fn i s w):=by
 have hsl:s.length=sn:=by have:=hs.1;rw [length_u8c] at this;omega
 have HSL:=Lib.hid hsl
 have H1:Hid (∀ o:Obj,Wk (w.alloc o) B g A n c rs r rv sv wv):=Lib.hid fun o=>h.alloc o
 have HS1:Hid (∀ o:Obj,Reads (w.alloc o) w.heap.size 1 SA sn (u8c s)):=Lib.hid fun o=>hs.alloc (Nat.le_refl _) o
 obtain ⟨t,HT⟩:∃ t,Hid (t=takesK (fns rs) r.fn i (topK s)):=⟨_,Lib.hid rfl⟩
 obtain ⟨lv,HL⟩:∃ t,Hid (t=leavesK (fns rs) r.fn i (topK s)):=⟨_,Lib.hid rfl⟩
 obtain ⟨k,HK⟩:∃ k,Hid (k=t.length):=⟨_,Lib.hid rfl⟩
 have HAF:Hid (afterK (fns rs) r.fn i s=if k≤sn∧s.drop (sn-k)=t∧¬(i.op=24∧k<sn) then some (s.take (sn-k) ++ lv) else none):=Lib.hid (by
  unfold afterK;rw [← HT.out,← HL.out,← HK.out,hsl])
 have HTK:Hid (∀ o:Obj,Calls Try.prog 101 #[.pointer (some ⟨g,0,none⟩),.agg #[.int .u8 i.op,.int .i64 i.arg,.int .u64 i.imm],.int .u8 (topK s)] (w.alloc o) fun e w'=>∃ A2 c2,e=.returned (.slice A2 k c2)∧Reads w' w'.heap.size 1 A2 k (u8c t)∧Below (w.heap.size+1) (w.alloc o) w'):=Lib.hid fun o=>by
  refine (takes_any B g n c A rs r rv sv wv i (topK s) _ (H1.out o) hin h0).mono ?_
  rintro e w' ⟨A2,m2,c2,rfl,hm2,_,hr2,hb2⟩
  rw [← HT.out] at hm2 hr2
  rw [← HK.out] at hm2
  subst hm2
  exact ⟨A2,c2,rfl,hr2,by rw [World.size_alloc] at hb2;exact hb2⟩
 have HLV:Hid (∀ W,Wk W B g A n c rs r rv sv wv→Calls Try.prog 103 #[.pointer (some ⟨g,0,none⟩),.agg #[.int .u8 i.op,.int .i64 i.arg,.int .u64 i.imm],.int .u8 (topK s)] W (RdK W lv)):=Lib.hid fun W hW=>by
  rw [HL.out];exact leaves_any B g n c A rs r rv sv wv i (topK s) W hW hin h0
 have hll:lv.length≤2:=by rw [HL.out];exact leavesK_len _ _ _ _
 have HLL:=Lib.hid hll
 have hk:k≤255:=by rw [HK.out,HT.out];exact takesK_len h.ok
 have HB:Hid (∀ o:Obj,Below w.heap.size w (w.alloc o)):=Lib.hid fun o=>(Below.refl _ _).alloc (Nat.le_refl _) o
 obtain ⟨tp,HTP⟩:∃ x,Hid (x=topK s):=⟨_,Lib.hid rfl⟩
 have HTO:Hid (∀ o:Obj,Calls Try.prog 100 #[.slice SA sn sc] (w.alloc o) fun e w'=>e=.returned (.int .u8 tp)∧w.alloc o=w'):=Lib.hid fun o=>by
  rw [HTP.out];exact topOf_any w.heap.size SA sn sc s _ (HS1.out o) (by omega)
 rw [← HTP.out] at HTK HLV
 obtain ⟨op,arg,imm⟩:=i
 simp only at h0 HTK HLV HAF
 have hgl:=h.blk.lt
 have HWK:=Lib.hid h
 clear h hs hsl hll hin
 by_cases c1:sn<k
 ·have HN:Hid (afterK (fns rs) r.fn ⟨op,arg,imm⟩ s=none):=Lib.hid (by rw [HAF.out,if_neg (by omega)])
  have g1:decide ((sn:Int)-(k:Int)<0)=true:=by simp;omega
  have g1':(sn:Int)-(k:Int)<0:=by omega
  go_enter Try.func96,Try.ntmps96
  go_wp2_with (first | (go_at_call 100;refine (HTO.out _).mono ?_;rintro e w2 ⟨rfl,rfl⟩) | (go_at_call 101;refine (HTK.out _).mono ?_;rintro e w2 ⟨A2,c2,rfl,hr2,hb2⟩;have HR2:=Lib.hid hr2;have HB2:=Lib.hid hb2;clear hr2 hb2))
  go_ret2
  exact ⟨none,0,0,false,rfl,(HB.out _).trans (HB2.out.mono (Nat.le_succ _)),.inl ⟨rfl,HN.out⟩⟩
 obtain ⟨bel,hbel⟩:∃ bel,bel=sn-k:=⟨_,rfl⟩
 have hsub:(sn:Int)-(k:Int)=(bel:Int):=by omega
 have hnb:sn-bel=k:=by omega
 have hb0:(0:Int)≤(bel:Int):=by omega
 have hbn:bel≤sn:=by omega
 have hbc:bel≤sc:=by omega
 have HBL:=Lib.hid hbel
 rw [← hbel] at HAF
 clear hbel
 have g0:decide ((bel:Int)<0)=false:=by simp
 obtain ⟨q,HQ⟩:∃ q,Hid (q=!decide (s.drop bel=t)):=⟨_,Lib.hid rfl⟩
 have hq':(!decide (s.drop bel=t))=q:=HQ.out.symm
 obtain ⟨ib,HIB⟩:∃ o,Hid (o=Obj.cells #[.int .u8 op,.int .i64 arg,.int .u64 imm] 52):=⟨_,Lib.hid rfl⟩
 clear hq'
 go_enter Try.func96,Try.ntmps96
 go_upto_region 4 with (first | (go_at_call 100;refine (HTO.out _).mono ?_;rintro e w2 ⟨rfl,rfl⟩) | (go_at_call 101;refine (HTK.out _).mono ?_;rintro e w2 ⟨A2,c2,rfl,hr2,hb2⟩;have HR2:=Lib.hid hr2;have HB2:=Lib.hid hb2;clear hr2 hb2))
 go_cut [31] (fun s31 wx=>s31=.bool q∧Hid (Below (w.heap.size+1) (w.alloc (.cells #[.int .u8 op,.int .i64 arg,.int .u64 imm] 52)) wx))
 case first =>
  have hz2:=HB2.out.size
  rw [World.size_alloc] at hz2
  have HRS:=Lib.hid ((HS1.out (.cells #[.int .u8 op,.int .i64 arg,.int .u64 imm] 52)).below (HB2.out.mono (by omega)))
  have HD:Hid (decide (s.drop bel=t)=!q):=Lib.hid (by rw [HQ.out];simp)
  by_cases hcb:sc=bel
  ·have HR:Hid (Reads w2 w.heap.size 1 SA k (u8c (s.drop bel))):=Lib.hid (by
    have h:=cut_reads (cap:=sc) HRS.out hbn hsc
    rw [hnb,if_pos hcb] at h
    exact h)
   subst hcb
   go_wp2_with (go_at_call 94;with_reducible refine (equal_is w.heap.size w2.heap.size SA A2 k k _ c2 (s.drop sc) t (!q) w2 HR.out HR2.out (by omega) (Nat.le_refl _) (by omega) (by omega) HD.out).mono ?_;rintro e w3 ⟨rfl,hb3⟩;have HB3:=Lib.hid (HB2.out.trans (hb3.mono (by omega)));clear hb3)
   go_meet
   exact ⟨rfl,HB3⟩
  ·have HR:Hid (Reads w2 w.heap.size 1 (Option.map (fun x=>x.add bel) SA) k (u8c (s.drop bel))):=Lib.hid (by
    have h:=cut_reads (cap:=sc) HRS.out hbn hsc
    rw [hnb,if_neg hcb] at h
    exact h)
   go_wp2_with (go_at_call 94;with_reducible refine (equal_is w.heap.size w2.heap.size (Option.map (fun x=>x.add bel) SA) A2 k k _ c2 (s.drop bel) t (!q) w2 HR.out HR2.out (by omega) (Nat.le_refl _) (by omega) (by omega) HD.out).mono ?_;rintro e w3 ⟨rfl,hb3⟩;have HB3:=Lib.hid (HB2.out.trans (hb3.mono (by omega)));clear hb3)
   go_meet
   exact ⟨rfl,HB3⟩
 case rest =>
  obtain ⟨rfl,HBC⟩:=hcut
  have hzc:=HBC.out.size
  rw [World.size_alloc] at hzc
  have HBW:=Lib.hid ((HB.out (.cells #[.int .u8 op,.int .i64 arg,.int .u64 imm] 52)).trans (HBC.out.mono (Nat.le_succ _)))
  have HX:=(Blk.new w 52 #[.int .u8 op,.int .i64 arg,.int .u64 imm]).below HBC.out (by omega)
  have x0:wc.cell? ⟨w.heap.size,0,none⟩=some (.int .u8 op):=HX.cell 0
  have x1:wc.cell? ⟨w.heap.size,1,none⟩=some (.int .i64 arg):=HX.cell 1
  have x2:wc.cell? ⟨w.heap.size,2,none⟩=some (.int .u64 imm):=HX.cell 2
  clear HX
  cases q with
  | true =>
   have HN:Hid (afterK (fns rs) r.fn ⟨op,arg,imm⟩ s=none):=Lib.hid (by
    rw [HAF.out,if_neg]
    intro hh
    have:=HQ.out
    rw [decide_eq_true hh.2.1] at this
    cases this)
   go_wp2
   go_ret2
   exact ⟨none,0,0,false,rfl,HBW.out,.inl ⟨rfl,HN.out⟩⟩
  | false =>
   have HDT:Hid (s.drop bel=t):=Lib.hid (by have:=HQ.out;simpa using this)
   by_cases c3:op=24∧k<sn
   ·have HN:Hid (afterK (fns rs) r.fn ⟨op,arg,imm⟩ s=none):=Lib.hid (by
     rw [HAF.out,if_neg]
     intro hh
     exact hh.2.2 c3)
    obtain ⟨rfl,c3⟩:=c3
    have g3:decide (0<bel)=true:=by simp;omega
    have g3':decide ((bel:Int) > 0)=true:=by simp;omega
    go_wp2
    go_ret2
    exact ⟨none,0,0,false,rfl,HBW.out,.inl ⟨rfl,HN.out⟩⟩
   ·have HSO:Hid (afterK (fns rs) r.fn ⟨op,arg,imm⟩ s=some (s.take bel ++ lv)):=Lib.hid (by
     rw [HAF.out,if_pos ⟨by omega,HDT.out,c3⟩])
    have HWC:Hid (∀ W,Below wc.heap.size wc W→Wk W B g A n c rs r rv sv wv):=Lib.hid fun W hW=>(HWK.out.below HBW.out).below hW
    have HSR:Hid (∀ W,Below wc.heap.size wc W→Reads W W.heap.size 1 SA bel (u8c (s.take bel))):=Lib.hid fun W hW=>by
     have h1:=(HS1.out (.cells #[.int .u8 op,.int .i64 arg,.int .u64 imm] 52)).below (HBC.out.mono (Nat.le_succ _))
     have h2:=(h1.below (hW.mono (by omega))).more (B':=W.heap.size) (by have:=hW.size;omega)
     exact pre_reads h2 hbn
    have HBD:Hid (Below wc.heap.size wc wc.drew):=Lib.hid (Below.refl _ _).drew
    by_cases c4:op=24
    ·have hb00:bel=0:=by have:=HBL.out;have h3:¬ k<sn:=fun hh=>c3 ⟨c4,hh⟩;omega
     subst c4
     have g3:decide (0<bel)=false:=by simp;omega
     clear c3 hb00
     go_wp2
     go_region_law (first
      | (go_simp;go_at_call 103;refine (HLV.out wc.drew (HWC.out wc.drew HBD.out)).mono ?_;rintro e w5 ⟨A5,m5,c5,rfl,hm5,hmc5,hr5,hb5⟩;have HM5:=Lib.hid hm5;have HR5:=Lib.hid hr5;have hz5:wc.heap.size≤w5.heap.size:=hb5.size;have HB5:=Lib.hid (HBD.out.trans hb5);clear hm5 hr5 hb5 hmc5)
      | (go_simp;go_at_call 102;refine (concat_any w5.heap.size SA A5 bel m5 sc c5 (s.take bel) lv _ (Blk.new w5 _ _) ((HSR.out w5 HB5.out).alloc (Nat.le_refl _) _ |>.more (by simp)) ((HR5.out.alloc (Nat.le_refl _) _).more (by simp)) (by omega) (by rw [HM5.out];have:=HLL.out;omega)).mono ?_;rintro e w6 ⟨A6,m6,c6,rfl,hm6,ho6,hb6⟩;have HM6:=Lib.hid hm6;have HO6:=Lib.hid ho6;have HB6:=Lib.hid hb6;clear hm6 ho6 hb6))
     all_goals
      go_wp2
      go_ret2
      exact ⟨A6,m6,c6,true,rfl,HBW.out.trans (HB5.out.mono (by omega)) |>.trans (((Below.refl _ _).alloc (by omega) _).trans (HB6.out.mono (by simp;omega))),.inr ⟨rfl,_,HSO.out,HM6.out.symm,own_more HO6.out (by simp;omega)⟩⟩
    ·have g3:(op == 24)=false:=by simpa using c4
     clear c3 c4
     go_wp2
     go_region_law (first
      | (go_simp;go_at_call 103;refine (HLV.out wc.drew (HWC.out wc.drew HBD.out)).mono ?_;rintro e w5 ⟨A5,m5,c5,rfl,hm5,hmc5,hr5,hb5⟩;have HM5:=Lib.hid hm5;have HR5:=Lib.hid hr5;have hz5:wc.heap.size≤w5.heap.size:=hb5.size;have HB5:=Lib.hid (HBD.out.trans hb5);clear hm5 hr5 hb5 hmc5)
      | (go_simp;go_at_call 102;refine (concat_any w5.heap.size SA A5 bel m5 sc c5 (s.take bel) lv _ (Blk.new w5 _ _) ((HSR.out w5 HB5.out).alloc (Nat.le_refl _) _ |>.more (by simp)) ((HR5.out.alloc (Nat.le_refl _) _).more (by simp)) (by omega) (by rw [HM5.out];have:=HLL.out;omega)).mono ?_;rintro e w6 ⟨A6,m6,c6,rfl,hm6,ho6,hb6⟩;have HM6:=Lib.hid hm6;have HO6:=Lib.hid ho6;have HB6:=Lib.hid hb6;clear hm6 ho6 hb6))
     all_goals
      go_wp2
      go_ret2
      exact ⟨A6,m6,c6,true,rfl,HBW.out.trans (HB5.out.mono (by omega)) |>.trans (((Below.refl _ _).alloc (by omega) _).trans (HB6.out.mono (by simp;omega))),.inr ⟨rfl,_,HSO.out,HM6.out.symm,own_more HO6.out (by simp;omega)⟩⟩
theorem Try.info3:(Try.prog.info? 3).map (fun i=>(i.zero,i.size,i.bytes))=some (some (.int .i64 0),1,8):=by kernel_rfl
theorem app_int {w:World} {ops:Array Oper} {rest:List Oper} {o:Oper} {a:Act} {Q:Exit→Act→World→Prop} (hgd:o.guard=none) (s x:Operand)
  (ho:o.op=.call { callee:=.builtin .append,args:=#[s,x],argTypes:=#[42,42] }) (base:Nat)
  (v:Value) (n:Nat) (xs:List Value) (hs:a.eval s=v) (hown:w.ownsRow base 3 1 v n xs)
  (B:Nat) (A:Option Addr) (m c:Nat) (news:List Value) (hx:a.eval x=.slice A m c) (hr:Reads w B 1 A m news) (h1:∀ u ∈ news,u.oneCell'=true)
  (hbytes:(n+m)*8≤140737488355328) (hbase:base≤w.heap.size)
  (h:∀ v' w',w'.ownsRow base 3 1 v' (n+m) (xs ++ news)→w.grownBy w' v.ownBlock→(v'.ownBlock=v.ownBlock∨v'.ownBlock=some w.heap.size)→wpList Try.prog ops Q rest (a.put o.dst v') w'):wpList Try.prog ops Q (o :: rest) a w:=by
 obtain ⟨i0,hi,hz0,hz1,hz2⟩:=info_parts Try.info3
 exact wpList_append_any w hgd s x _ ho base 3 i0 (.int .i64 0) 1 8 Try.underlying42 hi hz0 hz1 hz2 rfl (by decide) v n xs hs hown B A m c news hx hr h1 (by unfold maxLen;omega) hbytes hbase h

def ArrYes (w:World) (B g ra sa:Nat) (A:Option Addr) (n c:Nat) (rs:List Raw) (r:Raw) (m:Nat) (l:List (Option Stk)) (wl:List Nat) (WA:Option Addr) (wk wcap b:Nat) (s:Stk) (w':World):Prop :=
 ∃ l' wl' vs' WA' wk' wcap',WS w' B g ra sa A n c rs r m l' wl' vs' WA' wk' wcap'∧((Value.slice WA' wk' wcap').ownBlock=(Value.slice WA wk wcap).ownBlock∨∃ j,(Value.slice WA' wk' wcap').ownBlock=some j∧w.heap.size≤j) ∧
  ((l[b]?=some (some s)∧l'=l∧wl'=wl)∨(l[b]?=some none∧l'=l.set b (some s)∧wl'=wl ++ [b]))
def ArrPost (w:World) (B g ra sa:Nat) (A:Option Addr) (n c:Nat) (rs:List Raw) (r:Raw) (m:Nat) (l:List (Option Stk)) (wl:List Nat) (WA:Option Addr) (wk wcap b:Nat) (s:Stk) (e:Ending) (w':World):Prop :=
 ∃ ok,e=.returned (.bool ok)∧Kp w w' (Ex g ra sa (.slice WA wk wcap)) ∧
  ((ok=false∧(m≤b∨∃ s2,l[b]?=some (some s2)∧s2≠s))∨(ok=true∧ArrYes w B g ra sa A n c rs r m l wl WA wk wcap b s w'))

theorem arrive_any (B g ra sa n c m wk wcap b sn sc B0:Nat) (A WA SA:Option Addr) (rs:List Raw) (r:Raw) (l:List (Option Stk)) (wl:List Nat) (vs:List Value) (s:Stk) (w:World)
  (h:WS w B g ra sa A n c rs r m l wl vs WA wk wcap) (hs:w.ownsRow B0 46 1 (.slice SA sn sc) sn (u8c s)) (hsn:sn≤50000) (hall:∀ (j:Nat) s2,l[j]?=some (some s2)→s2.length≤50000) (hwk:wk≤100000) (hb:b≤1000000) :
  Calls Try.prog 79 #[.pointer (some ⟨g,0,none⟩),.int .i64 b,.slice SA sn sc] w (ArrPost w B g ra sa A n c rs r m l wl WA wk wcap b s):=by
 obtain ⟨d0,d1,d2,d3,d4,d5,d6,d7,d8⟩:=h.wkr.cells
 rw [h.clen] at d5
 have hg:=h.wkr.blk.lt
 have hm:=h.small
 have hsl:s.length=sn:=by have:=hs.1;rw [length_u8c] at this;omega
 have HSL:=Lib.hid hsl
 have H:=Lib.hid h
 have HS:=Lib.hid hs
 have HLN:Hid (l.length=m):=Lib.hid h.len
 have hra:=h.reached.lt
 have hsa:=h.stacks.lt
 clear hs hsl
 by_cases c1:m≤b
 ·have g1:decide (m≤b)=true:=by simpa using c1
  clear h d0 d1 d2 d3 d4 d6 d7 d8
  go_enter Try.func79,Try.ntmps79
  go_wp2
  go_ret
  exact ⟨false,rfl,Kp.refl _ _,.inl ⟨rfl,.inl c1⟩⟩
 have g1:decide (m≤b)=false:=by simpa using c1
 have hbm:b<m:=by omega
 obtain ⟨x,hx⟩:∃ x,l[b]?=some x:=⟨l[b]'(by rw [h.len];omega),List.getElem?_eq_getElem _⟩
 obtain ⟨a,q,k,hv,hq,ho⟩:=h.vat b x hx
 have e0:w.cell? ⟨ra,b,none⟩=some (.bool x.isSome):=by
  rw [h.reached.cell]
  show (reachC l).toArray[b]?=_
  unfold reachC
  simp [hx]
 have e1:w.cell? ⟨sa,b,none⟩=some (.slice a q k):=by
  rw [h.stacks.cell]
  simpa using hv
 cases x with
 | some s2 =>
  simp only [Option.isSome_some,Option.getD_some] at e0 hq ho
  have hq2:q≤50000:=by rw [hq];exact hall b s2 hx
  have HO:=Lib.hid ho
  have HX:=Lib.hid hx
  obtain ⟨eq,HEQ⟩:∃ eq,Hid (decide (s2=s)=eq):=⟨_,Lib.hid rfl⟩
  have HC:=Lib.hid (equal_is w.heap.size w.heap.size a SA q sn k sc s2 s eq w (Reads.of_own HO.out) (Reads.of_own HS.out) (Nat.le_refl _) (Nat.le_refl _) (by omega) (by omega) HEQ.out)
  clear h hq ho hx hv d0 d1 d2 d3 d4 d8 c1
  go_enter Try.func79,Try.ntmps79
  go_wp2_with (go_at_call 94;refine HC.out.mono ?_;rintro e w2 ⟨rfl,hb2⟩;have HB2:=Lib.hid hb2;clear hb2)
  go_ret
  refine ⟨eq,rfl,Kp.of_below HB2.out _,?_⟩
  cases eq with
  | false=>exact .inl ⟨rfl,.inr ⟨s2,HX.out,by have:=HEQ.out;simpa using this⟩⟩
  | true =>
   have he:s2=s:=by have:=HEQ.out;simpa using this
   subst he
   exact .inr ⟨rfl,l,wl,vs,WA,wk,wcap,H.out.below HB2.out,.inl rfl,.inl ⟨HX.out,rfl,rfl⟩⟩
 | none =>
  simp only [Option.isSome_none] at e0
  have HX:=Lib.hid hx
  have f0:=h.reached.frozen b
  have hrs:ra≠sa:=Blk.ne_ h.reached h.stacks (by decide)
  have hrg:ra≠g:=Blk.ne_ h.reached h.wkr.blk (by decide)
  have hsg:sa≠g:=Blk.ne_ h.stacks h.wkr.blk (by decide)
  obtain ⟨W1,hW1⟩:∃ W1,W1=w.setCell ⟨ra,b,none⟩ (.bool true):=⟨_,rfl⟩
  have HW1:=Lib.hid hW1
  have hz1:W1.heap.size=w.heap.size:=by rw [hW1];simp [World.setCell]
  have HZ1:=Lib.hid hz1
  have HG1:Hid (Blk W1 g 138 (WkC A n c r (.slice (some ⟨ra,0,none⟩) m m) (.slice (some ⟨sa,0,none⟩) m m) (.slice WA wk wcap))):=Lib.hid (by rw [hW1];exact h.wkr.blk.far (p:=⟨ra,b,none⟩) hrg.symm _)
  have HS1:Hid (Blk W1 sa 38 vs.toArray):=Lib.hid (by rw [hW1];exact h.stacks.far (p:=⟨ra,b,none⟩) hrs.symm _)
  have HO1:Hid (W1.ownsRow B0 46 1 (.slice SA sn sc) sn (u8c s)):=Lib.hid (by rw [hW1];exact own_far HS.out h.reached (by decide) b _)
  have hvl:=h.vlen
  clear h hq ho hx hv d0 d1 d2 d3 d4 d8 c1 hz1
  go_enter Try.func79,Try.ntmps79
  go_upto_region 6 with fail
  rw [← HW1.out]
  have y7:W1.cell? ⟨g,7,none⟩=some (.slice (some ⟨sa,0,none⟩) m m):=HG1.out.cell 7
  have y8:W1.cell? ⟨sa,b,none⟩=some (.slice a q k):=by rw [HW1.out];exact (World.cell?_setCell_other w _ ⟨sa,b,none⟩ _ (by intro e;injection e with e;exact hrs e)).trans e1
  have y9:W1.frozen? ⟨sa,b,none⟩=false:=HS1.out.frozen b
  have HBW:Hid (∀ w2,Below W1.drew.heap.size W1.drew w2→Below w.heap.size W1 w2):=Lib.hid fun w2 h2=>by
   have h3:Below W1.heap.size W1 w2:=((Below.refl _ _).drew).trans h2
   rw [HZ1.out] at h3
   exact h3
  have HOW:Hid (∀ (w2:World) v xs q,w2.ownsRow W1.drew.heap.size 46 1 v q xs→w2.ownsRow w.heap.size 46 1 v q xs):=Lib.hid fun w2 v xs q h2=>by
   have h3:w2.ownsRow W1.heap.size 46 1 v q xs:=h2
   rw [HZ1.out] at h3
   exact h3
  clear d5 d6 d7 e0 e1 f0 hW1
  go_cut [] (fun wx=>Hid (∃ vs',WS wx B g ra sa A n c rs r m (l.set b (some s)) wl vs' WA wk wcap∧Kp w wx (fun i=>i=ra∨i=sa)))
  case first =>
   go_region_law (first
    | (go_simp;go_at_call 95;refine (clone_any B0 sn (.slice SA sn sc) s W1.drew HO1.out (by omega)).mono ?_;rintro e w2 ⟨A2,q2,c2,rfl,hq2,ho2,hb2⟩;have HQ2:=Lib.hid hq2;have hb2':=HBW.out w2 hb2;have z7:w2.cell? ⟨g,7,none⟩=some (.slice (some ⟨sa,0,none⟩) m m):=(hb2'.cell (p:=⟨g,7,none⟩) hg).trans y7;have z8:w2.cell? ⟨sa,b,none⟩=some (.slice a q k):=(hb2'.cell (p:=⟨sa,b,none⟩) hsa).trans y8;have z9:w2.frozen? ⟨sa,b,none⟩=false:=(hb2'.frozen (p:=⟨sa,b,none⟩) hsa).trans y9;have HO2:=Lib.hid (HOW.out _ _ _ _ ho2);have HB2:=Lib.hid hb2';clear hq2 ho2 hb2 hb2'))
   all_goals
    go_wp2
    go_meet
   all_goals
    exact Lib.hid ⟨_,H.out.put HX.out (by rw [← HW1.out];exact HB2.out) HQ2.out HO2.out⟩
  case rest =>
   obtain ⟨vs',hw,hkp⟩:=hcut.out
   have hgc:=hw.wkr.blk.lt
   have v8:wc.cell? ⟨g,8,none⟩=some (.slice WA wk wcap):=hw.wkr.cells.2.2.2.2.2.2.2.2
   have hle:B≤wc.heap.size:=hw.wkr.le
   have HW:=Lib.hid hw
   have HKP:=Lib.hid hkp
   have HWA:=Lib.hid (own_al hw.wait (.cells #[.int .i64 (b:Int)] 3))
   have HRD:=Lib.hid (one_reads wc 3 [.int .i64 (b:Int)] 1 rfl)
   clear hw hkp hcut
   go_wp2_with (at_builtin;refine app_int rfl _ _ rfl B (.slice WA wk wcap) wk (intc wl) rfl HWA.out (wc.heap.size+1) (some ⟨wc.heap.size,0,none⟩) 1 1 [.int .i64 (b:Int)] rfl HRD.out (by simp [Value.oneCell']) (by omega) (by simp;omega) ?_;intro v' w8 hown hgr hor;obtain ⟨WA8,c8,rfl,p8,f8,hw8,hk8,hor8⟩:=HW.out.push _ hown hgr hor;have HW8:=Lib.hid hw8;have HK8:=Lib.hid hk8;have HOR:=Lib.hid hor8;clear hown hgr hor hw8 hk8 hor8;refine Hid.out ?_)
   clear v8
   refine Lib.hid ?_
   go_wp2
   go_ret
   refine ⟨true,rfl,(HKP.out.wider (fun i _ hx=>hx.elim (fun e=>.inr (.inl e)) fun e=>.inr (.inr (.inl e)))).trans HK8.out (fun _ _ h=>h),.inr ⟨rfl,_,_,vs',WA8,wk+1,c8,HW8.out,?_,.inr ⟨HX.out,rfl,rfl⟩⟩⟩
   rcases HOR.out with ho | ⟨j,hj,hjs⟩
   ·exact .inl ho
   ·exact .inr ⟨j,hj,by have:=HKP.out.size;omega⟩
theorem reads_block {w w':World} {B size n:Nat} {A:Option Addr} {xs:List Value} (h:Reads w B size A n xs) (hk:0<n→∀ ad,A=some ad→w'.heap[ad.block]?=w.heap[ad.block]?):Reads w' B size A n xs :=
 ⟨h.1,fun hn=>by
  obtain ⟨ad,hA,hb,hc⟩:=h.2 hn
  refine ⟨ad,hA,hb,fun j u hu=>?_⟩
  rw [← hc j u hu]
  exact World.cell?_of_block (by rw [block_of_add];exact hk hn ad hA)⟩
theorem keep_set {l:List (Option Stk)} {b c:Nat} {t:Stk} {x:Option Stk} (hb:l[b]?=some none) (hc:l[c]?=some (some t)):(l.set b x)[c]?=some (some t):=by
 rw [List.getElem?_set_ne (by rintro rfl;rw [hb] at hc;cases hc)];exact hc
theorem succ_le {a m b:Nat} {fs:List Fn} {f:Fn} {i:Ins} (hb:b ∈ succK a i) (ha:a<m) (hm:m≤256) (hi:insRef fs f i=true) (hc:f.code.length=m) (h0:0≤i.arg):b≤1000:=by
 have ht:i.op=21∨i.op=22→i.arg.toNat≤256:=fun ho=>by
  unfold insRef at hi
  rw [if_neg (by omega),if_neg (by omega),if_pos ho] at hi
  have:i.arg<f.code.length:=by simpa using hi
  omega
 unfold succK at hb
 split at hb
 ·have:=ht (.inl ‹_›);simp at hb;omega
 split at hb
 ·have:=ht (.inr ‹_›);simp at hb;omega
 split at hb
 ·cases hb
 ·simp at hb;omega

structure GI (w w4:World) (B g ra sa n c m:Nat) (A:Option Addr) (rs:List Raw) (r:Raw) (l:List (Option Stk)) (wl:List Nat) (wv:Value) (a:Nat) (i:Ins) (s s':Stk) (SU:Option Addr) (sm:Nat) (S5:Option Addr) (q5 c5 j:Nat) (wr:World) (l':List (Option Stk)) (wl':List Nat) (vs':List Value) (WA':Option Addr) (wk' wcap':Nat):Prop where
 ws:WS wr B g ra sa A n c rs r m l' wl' vs' WA' wk' wcap'
 inv:Inv (fns rs) r.fn l' (a :: wl')
 at_:l'[a]?=some (some s)
 done:∀ b ∈ (succK a i).take j,l'[b]?=some (some s')
 cnt_:cnt l'≤cnt l
 meas:2*cnt l'+wl'.length≤2*cnt l+wl.length
 wait:(Value.slice WA' wk' wcap').ownBlock=wv.ownBlock∨∃ q,(Value.slice WA' wk' wcap').ownBlock=some q∧w4.heap.size≤q
 kp:Kp w wr (Ex g ra sa wv)
 su:Reads wr w4.heap.size 1 SU sm (intc (succK a i))
 st:wr.ownsRow w.heap.size 46 1 (.slice S5 q5 c5) q5 (u8c s')
 size:w4.heap.size≤wr.heap.size
structure GC (w w4:World) (B g ra sa:Nat) (rs:List Raw) (r:Raw) (l:List (Option Stk)) (wv:Value) (a:Nat) (i:Ins) (s s':Stk) (SU:Option Addr) (sm:Nat):Prop where
 code:r.fn.code[a]?=some i
 after:afterK (fns rs) r.fn i s=some s'
 lt4:w.heap.size≤w4.heap.size
 gl:g<w.heap.size
 rl:ra<w.heap.size
 sl:sa<w.heap.size
 wvl:∀ q,wv.ownBlock=some q→q<w.heap.size
 sul:0<sm→∀ ad,SU=some ad→w.heap.size≤ad.block∧ad.block<w4.heap.size
 short:s'.length+2*cnt l≤2*l.length
section
variable {w w4 wr w2:World} {B g ra sa n c m a sm q5 c5 j b wk' wcap':Nat} {A SU S5 WA':Option Addr} {rs:List Raw} {r:Raw} {l l':List (Option Stk)} {wl wl':List Nat} {vs':List Value} {wv:Value} {i:Ins} {s s':Stk}
theorem GI.exle (h:GI w w4 B g ra sa n c m A rs r l wl wv a i s s' SU sm S5 q5 c5 j wr l' wl' vs' WA' wk' wcap') (hc:GC w w4 B g ra sa rs r l wv a i s s' SU sm):∀ q,q<w4.heap.size→Ex g ra sa (.slice WA' wk' wcap') q→Ex g ra sa wv q:=by
 rintro q hq (rfl | rfl | rfl | hx)
 ·exact .inl rfl
 ·exact .inr (.inl rfl)
 ·exact .inr (.inr (.inl rfl))
 ·rcases h.wait with hw | ⟨q',hq',hz⟩
  ·rw [hw] at hx;exact .inr (.inr (.inr hx))
  ·rw [hx] at hq';injection hq' with hq';omega
theorem GI.next (h:GI w w4 B g ra sa n c m A rs r l wl wv a i s s' SU sm S5 q5 c5 j wr l' wl' vs' WA' wk' wcap') (hc:GC w w4 B g ra sa rs r l wv a i s s' SU sm) (hll:l'.length=l.length)
  (hj:(succK a i)[j]?=some b) (hk:Kp wr w2 (Ex g ra sa (.slice WA' wk' wcap'))) (hy:ArrYes wr B g ra sa A n c rs r m l' wl' WA' wk' wcap' b s' w2) :
  ∃ l2 wl2 vs2 WA2 wk2 wcap2,GI w w4 B g ra sa n c m A rs r l wl wv a i s s' SU sm S5 q5 c5 (j+1) w2 l2 wl2 vs2 WA2 wk2 wcap2:=by
 obtain ⟨l2,wl2,vs2,WA2,wk2,wcap2,hws,hwt,hcase⟩:=hy
 have hmem:b ∈ succK a i:=List.mem_of_getElem? hj
 have hrch:Reach (fns rs) r.fn b s':=h.inv.step h.at_ hc.code hc.after hmem
 have hwait:(Value.slice WA2 wk2 wcap2).ownBlock=wv.ownBlock∨∃ q,(Value.slice WA2 wk2 wcap2).ownBlock=some q∧w4.heap.size≤q:=by
  rcases hwt with ht | ⟨q,hq,hz⟩
  ·rw [ht];exact h.wait
  ·exact .inr ⟨q,hq,by have:=h.size;omega⟩
 have hkp:Kp w w2 (Ex g ra sa wv):=h.kp.trans hk fun q hq hx=>h.exle hc q (by have:=hc.lt4;omega) hx
 have hsu:Reads w2 w4.heap.size 1 SU sm (intc (succK a i)):=reads_block h.su fun hp ad had=>by
  obtain ⟨h1,h2⟩:=hc.sul hp ad had
  refine hk.block _ (by have:=h.size;omega) fun hx=>?_
  rcases h.exle hc _ h2 hx with hx | hx | hx | hx
  ·have:=hc.gl;omega
  ·have:=hc.rl;omega
  ·have:=hc.sl;omega
  ·have:=hc.wvl _ hx;omega
 have hst:w2.ownsRow w.heap.size 46 1 (.slice S5 q5 c5) q5 (u8c s'):=hk.own h.st (kind_ne h.ws h.st)
 have hsz:w4.heap.size≤w2.heap.size:=Nat.le_trans h.size hk.size
 have htake:(succK a i).take (j+1)=(succK a i).take j ++ [b]:=by rw [List.take_add_one,hj];rfl
 rcases hcase with ⟨hb,rfl,rfl⟩ | ⟨hb,rfl,rfl⟩
 ·refine ⟨_,_,vs2,WA2,wk2,wcap2,⟨hws,h.inv,h.at_,fun x hx=>?_,h.cnt_,h.meas,hwait,hkp,hsu,hst,hsz⟩⟩
  rw [htake] at hx
  rcases List.mem_append.1 hx with hx | hx
  ·exact h.done x hx
  ·obtain rfl:x=b:=by simpa using hx
   exact hb
 ·have hcs:=cnt_set hb s'
  have hself:(l'.set b (some s'))[b]?=some (some s'):=by
   rw [List.getElem?_set];simp [(List.getElem?_eq_some_iff.1 hb).1]
  refine ⟨_,_,vs2,WA2,wk2,wcap2,⟨hws,?_,keep_set hb h.at_,fun x hx=>?_,by have:=h.cnt_;omega,?_,hwait,hkp,hsu,hst,hsz⟩⟩
  ·have:=h.inv.reach hb hrch (by have:=hc.short;have:=h.cnt_;omega)
   exact this
  ·rw [htake] at hx
   rcases List.mem_append.1 hx with hx | hx
   ·exact keep_set hb (h.done x hx)
   ·obtain rfl:x=b:=by simpa using hx
    exact hself
  ·have:=h.meas;rw [List.length_append];simp;omega
end
theorem isNumber_any (B:Nat) (r:Raw) (x:Int) (w:World) (h:RdF w B r) (hw:WfF r.fn) (hB:B≤w.heap.size) (h0:0≤x) (h1:x≤9223372036854775807) :
  Calls Try.prog 77 #[.agg #[.int .i64 r.fn.params,.slice r.lo r.fn.locals.length r.lc,.bool r.fn.result,.int .i64 r.fn.keep,.slice r.co r.fn.code.length r.cc],.int .i64 x] w fun e w'=>e=.returned (.bool (numL r.fn x))∧Below w.heap.size w w':=by
 have HB:∀ o:Obj,Hid (Below w.heap.size w (w.alloc o)):=fun o=>(Below.refl _ _).alloc (Nat.le_refl _) o
 have wl:=hw.ll
 have hL:=h.locals
 obtain ⟨⟨p,ls,fl,kp,is⟩,lo,lc,co,cc⟩:=r
 simp only at wl hL ⊢
 unfold numL
 simp only
 clear h hw
 obtain ⟨k,rfl⟩:∃ k:Nat,x=(k:Int):=⟨x.toNat,by omega⟩
 obtain ⟨nl,HNL⟩:∃ n,Hid (n=ls.length):=⟨_,Lib.hid rfl⟩
 rw [← HNL.out] at wl hL ⊢
 by_cases c1:k<nl
 ·obtain ⟨b,off,y,rfl,hb,HX,x0⟩:=hL.byte c1
  have hbw:b<w.heap.size:=by omega
  have g1:decide (k<nl)=true:=by simpa using c1
  have HR:Hid ((decide ((k:Int)<(nl:Int)) && decide (ls.getD (k:Int).toNat 0=0))=decide (y=0)):=Lib.hid (by
   rw [decide_eq_true (by omega:(k:Int)<(nl:Int)),Int.toNat_natCast,List.getD_eq_getElem?_getD,HX.out];rfl)
  rw [HR.out]
  by_cases c2:y=0
  ·have g2:(y == 0)=true:=by simpa using c2
   have HD:Hid (decide (y=0)=true):=Lib.hid (by simpa using c2)
   rw [HD.out]
   clear c2
   go_enter Try.func77,Try.ntmps77
   go_wp2
   go_ret
   exact ⟨rfl,(HB _).out⟩
  ·have g2:(y == 0)=false:=by simpa using c2
   have HD:Hid (decide (y=0)=false):=Lib.hid (by simpa using c2)
   rw [HD.out]
   clear c2
   go_enter Try.func77,Try.ntmps77
   go_wp2
   go_ret
   exact ⟨rfl,(HB _).out⟩
 ·have g1:decide (k<nl)=false:=by simpa using c1
  have HR:Hid ((decide ((k:Int)<(nl:Int)) && decide (ls.getD (k:Int).toNat 0=0))=false):=Lib.hid (by
   rw [decide_eq_false (by omega:¬ (k:Int)<(nl:Int))];rfl)
  rw [HR.out]
  go_enter Try.func77,Try.ntmps77
  go_wp2
  go_ret
  exact ⟨rfl,(HB _).out⟩
theorem isDef1 (i:Ins) (b:Bool) (w:World) (hb:decide (i.op=25)=b):Calls Try.prog 93 #[.agg #[.int .u8 i.op,.int .i64 i.arg,.int .u64 i.imm]] w fun e w'=>e=.returned (.bool b)∧Below w.heap.size w w':=by
 have HB:∀ o:Obj,Hid (Below w.heap.size w (w.alloc o)):=fun o=>(Below.refl _ _).alloc (Nat.le_refl _) o
 obtain ⟨op,arg,imm⟩:=i
 simp only at hb ⊢
 have g:(op == 25)=b:=by rw [← hb];rfl
 clear hb
 go_enter Try.func93,Try.ntmps93
 go_wp2
 go_ret
 exact ⟨rfl,(HB _).out⟩
def IdxPost (w:World) (yes:Bool) (e:Ending) (w':World):Prop:=∃ x:Int,e=.returned (.int .i64 x)∧decide (x≥0)=yes∧Below w.heap.size w w'
theorem index_any (B:Nat) (A:Option Addr) (n c:Nat) (is:List Ins) (w:World) (h:Reads w B 3 A n (insc is)) (hB:B≤w.heap.size) (hl:is.length=n) (hn:n≤140737488351232) :
  Calls Try.prog 99 #[.slice A n c,.func (.func 93) #[] #[]] w (IdxPost w (is.any fun i=>decide (i.op=25))):=by
 have H:=Lib.hid h
 have HL:=Lib.hid hl
 clear h hl
 go_enter Try.func99,Try.ntmps99
 go_wp2
 go_loopw [8] (fun i wr=>∃ k:Nat,k≤n∧i=.int .i64 k∧Hid (((is.take k).any fun i=>decide (i.op=25))=false)∧Hid (Below w.heap.size w wr)) (fun i _=>n-(intOf i).toNat)
 case atStart=>exact ⟨0,Nat.zero_le _,rfl,rfl,Below.refl _ _⟩
 case round =>
  obtain ⟨k,hk,rfl,HT,HB⟩:=hrel
  by_cases hlt:k<n
  ·obtain ⟨b,off,i,rfl,hb,HX,x0,x1,x2⟩:=(H.out.below (HB.out.mono hB)).ins hlt
   have hz:=HB.out.size
   cases hp:decide (i.op=25) with
   | true =>
    have HA:Hid ((is.any fun i=>decide (i.op=25))=true):=Lib.hid (List.any_eq_true.2 ⟨i,List.mem_of_getElem? HX.out,hp⟩)
    have HP:=Lib.hid hp
    clear hp
    go_wp2_with (go_at_call 93;refine (isDef1 i true _ HP.out).mono ?_;rintro e w2 ⟨rfl,hb2⟩;refine Hid.out ?_)
    have HB3:=Lib.hid (HB.out.trans (hb2.mono hz))
    clear hb2
    refine Lib.hid ?_
    go_wp2
    go_ret
    exact ⟨_,rfl,by rw [HA.out];simp,HB3.out⟩
   | false =>
    have HT1:Hid (((is.take (k+1)).any fun i=>decide (i.op=25))=false):=Lib.hid (by rw [List.take_add_one,HX.out,List.any_append,HT.out];simp [hp])
    have HP:=Lib.hid hp
    clear hp
    go_wp2_with (go_at_call 93;refine (isDef1 i false _ HP.out).mono ?_;rintro e w2 ⟨rfl,hb2⟩;refine Hid.out ?_)
    have HB3:=Lib.hid (HB.out.trans (hb2.mono hz))
    clear hb2
    refine Lib.hid ?_
    go_wp2
    go_roundw
    case rel=>exact ⟨k+1,by omega,by go_num,HT1,HB3⟩
    case measure=>simp [intOf];omega
  ·obtain rfl:n=k:=by omega
   clear hlt hk
   have HA:Hid ((is.any fun i=>decide (i.op=25))=false):=Lib.hid (by
    have h:=HT.out
    rw [List.take_of_length_le (by rw [HL.out];omega)] at h
    exact h)
   go_wp2
   go_ret
   exact ⟨_,rfl,by rw [HA.out];rfl,HB.out⟩
theorem contains_any (B:Nat) (A:Option Addr) (n c:Nat) (is:List Ins) (w:World) (h:Reads w B 3 A n (insc is)) (hB:B≤w.heap.size) (hl:is.length=n) (hn:n≤140737488351232) :
  Calls Try.prog 92 #[.slice A n c,.func (.func 93) #[] #[]] w fun e w'=>e=.returned (.bool (is.any fun i=>decide (i.op=25)))∧Below w.heap.size w w':=by
 obtain ⟨b,HB⟩:∃ b,Hid (b=is.any fun i=>decide (i.op=25)):=⟨_,Lib.hid rfl⟩
 have HI:=Lib.hid (index_any B A n c is w h hB hl hn)
 rw [← HB.out] at HI ⊢
 clear h hl
 go_enter Try.func92,Try.ntmps92
 go_wp2_with (go_at_call 99;refine HI.out.mono ?_;rintro e w2 ⟨x,rfl,hx,hb2⟩;refine Hid.out ?_)
 have HX:=Lib.hid hb2
 clear hb2
 have g:decide (0≤x)=b:=hx
 refine Lib.hid ?_
 go_wp2
 go_ret
 exact ⟨by first | rfl | rw [← hx],HX.out⟩
theorem hasDefer_any (B:Nat) (r:Raw) (w:World) (h:RdF w B r) (hw:WfF r.fn) (hB:B≤w.heap.size) :
  Calls Try.prog 76 #[.agg #[.int .i64 r.fn.params,.slice r.lo r.fn.locals.length r.lc,.bool r.fn.result,.int .i64 r.fn.keep,.slice r.co r.fn.code.length r.cc]] w fun e w'=>e=.returned (.bool (hasDef r.fn))∧Below w.heap.size w w':=by
 have HB:∀ o:Obj,Hid (Below w.heap.size w (w.alloc o)):=fun o=>(Below.refl _ _).alloc (Nat.le_refl _) o
 have H:Hid (∀ o:Obj,Reads (w.alloc o) B 3 r.co r.fn.code.length (insc r.fn.code)):=Lib.hid fun o=>h.code.alloc hB o
 have wc:r.fn.code.length≤140737488351232:=by have:=hw.cl;omega
 unfold hasDef
 clear h hw
 obtain ⟨⟨p,ls,fl,kp,is⟩,lo,lc,co,cc⟩:=r
 simp only at wc H ⊢
 go_enter Try.func76,Try.ntmps76
 go_wp2_with (go_at_call 92;refine (contains_any B co is.length cc is _ (H.out _) (by simp;omega) rfl wc).mono ?_;rintro e w2 ⟨rfl,hb2⟩;refine Hid.out ?_)
 have HX:=Lib.hid ((HB (.cells #[.int .i64 p,.slice lo ls.length lc,.bool fl,.int .i64 kp,.slice co is.length cc] 41)).out.trans (hb2.mono (by simp)))
 clear hb2
 refine Lib.hid ?_
 go_wp2
 go_ret
 exact ⟨rfl,HX.out⟩
theorem isNumber_is (B:Nat) (r:Raw) (x:Int) (b:Bool) (w:World) (h:RdF w B r) (hw:WfF r.fn) (hB:B≤w.heap.size) (h0:0≤x) (h1:x≤9223372036854775807) (hb:numL r.fn x=b) :
  Calls Try.prog 77 #[.agg #[.int .i64 r.fn.params,.slice r.lo r.fn.locals.length r.lc,.bool r.fn.result,.int .i64 r.fn.keep,.slice r.co r.fn.code.length r.cc],.int .i64 x] w fun e w'=>e=.returned (.bool b)∧Below w.heap.size w w':=by
 rw [← hb];exact isNumber_any B r x w h hw hB h0 h1
theorem hasDefer_is (B:Nat) (r:Raw) (b:Bool) (w:World) (h:RdF w B r) (hw:WfF r.fn) (hB:B≤w.heap.size) (hb:hasDef r.fn=b) :
  Calls Try.prog 76 #[.agg #[.int .i64 r.fn.params,.slice r.lo r.fn.locals.length r.lc,.bool r.fn.result,.int .i64 r.fn.keep,.slice r.co r.fn.code.length r.cc]] w fun e w'=>e=.returned (.bool b)∧Below w.heap.size w w':=by
 rw [← hb];exact hasDefer_any B r w h hw hB
theorem keepsWell_any (B:Nat) (r:Raw) (w:World) (h:RdF w B r) (hw:WfF r.fn) (hB:B≤w.heap.size) (hk:-1≤r.fn.keep) :
  Calls Try.prog 58 #[.agg #[.int .i64 r.fn.params,.slice r.lo r.fn.locals.length r.lc,.bool r.fn.result,.int .i64 r.fn.keep,.slice r.co r.fn.code.length r.cc]] w fun e w'=>e=.returned (.bool (keepsB r.fn))∧Below w.heap.size w w':=by
 have HB:∀ o:Obj,Hid (Below w.heap.size w (w.alloc o)):=fun o=>(Below.refl _ _).alloc (Nat.le_refl _) o
 have H:Hid (∀ o:Obj,RdF (w.alloc o) B r):=Lib.hid fun o=>h.keep fun p hp=>World.cell?_alloc_lt w o p (by omega)
 have HW:=Lib.hid hw
 have hk1:=hw.k1
 clear h hw
 unfold keepsB
 by_cases c1:r.fn.keep=-1
 ·rw [if_pos c1]
  cases hr:r.fn.result with
  | false =>
   obtain ⟨⟨p,ls,fl,kp,is⟩,lo,lc,co,cc⟩:=r
   simp only at c1 hr H HW hk1 ⊢
   subst c1 hr
   go_enter Try.func58,Try.ntmps58
   go_wp2
   go_ret
   exact ⟨rfl,(HB _).out⟩
  | true =>
   obtain ⟨d,HD⟩:∃ d,Hid (hasDef r.fn=d):=⟨_,Lib.hid rfl⟩
   rw [HD.out]
   obtain ⟨⟨p,ls,fl,kp,is⟩,lo,lc,co,cc⟩:=r
   simp only at c1 hr H HW HD hk1 ⊢
   subst c1 hr
   have HC:=fun o=>Lib.hid (hasDefer_is B ⟨⟨p,ls,true,-1,is⟩,lo,lc,co,cc⟩ d (w.alloc o) (H.out o) HW.out (by simp;omega) HD.out)
   go_enter Try.func58,Try.ntmps58
   go_wp2_with (go_at_call 76;refine (HC _).out.mono ?_;rintro e w2 ⟨rfl,hb2⟩;refine Hid.out ?_)
   have HX:=Lib.hid ((HB (.cells #[.int .i64 p,.slice lo ls.length lc,.bool true,.int .i64 (-1),.slice co is.length cc] 41)).out.trans (hb2.mono (by simp)))
   clear hb2
   refine Lib.hid ?_
   go_wp2
   go_ret
   exact ⟨rfl,HX.out⟩
 ·rw [if_neg c1]
  have h0:0≤r.fn.keep:=by omega
  obtain ⟨d,HD⟩:∃ d,Hid (numL r.fn r.fn.keep=d):=⟨_,Lib.hid rfl⟩
  rw [HD.out]
  have g1:(r.fn.keep == -1)=false:=by simpa using c1
  obtain ⟨⟨p,ls,fl,kp,is⟩,lo,lc,co,cc⟩:=r
  simp only at g1 h0 H HW HD hk1 ⊢
  clear c1 hk
  have HC:=fun o=>Lib.hid (isNumber_is B ⟨⟨p,ls,fl,kp,is⟩,lo,lc,co,cc⟩ kp d (w.alloc o) (H.out o) HW.out (by simp;omega) h0 hk1 HD.out)
  go_enter Try.func58,Try.ntmps58
  go_wp2_with (go_at_call 77;refine (HC _).out.mono ?_;rintro e w2 ⟨rfl,hb2⟩;refine Hid.out ?_)
  have HX:=Lib.hid ((HB (.cells #[.int .i64 p,.slice lo ls.length lc,.bool fl,.int .i64 kp,.slice co is.length cc] 41)).out.trans (hb2.mono (by simp)))
  clear hb2
  refine Lib.hid ?_
  go_wp2
  go_ret
  exact ⟨rfl,HX.out⟩

theorem below_2 (w:World) (t u:TypeId) (cs ds:Array Value):Below w.heap.size w ((w.alloc (.cells cs t)).alloc (.cells ds u)):=((Below.refl _ _).alloc (Nat.le_refl _) _).alloc (by simp) _
theorem instrRef_any (B:Nat) (r:Raw) (i:Ins) (fs:List Fn) (m:Nat) (w:World) (h:RdF w B r) (hw:WfF r.fn) (hB:B≤w.heap.size) (hm:fs.length=m) (hm1:m≤255) (h0:0≤i.arg) (h1:i.arg≤9223372036854775807) :
  Calls Try.prog 78 #[.agg #[.int .u8 i.op,.int .i64 i.arg,.int .u64 i.imm],.agg #[.int .i64 r.fn.params,.slice r.lo r.fn.locals.length r.lc,.bool r.fn.result,.int .i64 r.fn.keep,.slice r.co r.fn.code.length r.cc],.int .i64 m] w fun e w'=>e=.returned (.bool (insRef fs r.fn i))∧Below w.heap.size w w':=by
 have wl:=hw.ll
 have wc:r.fn.code.length≤140737488351232:=by have:=hw.cl;omega
 have H:Hid (∀ o o':Obj,RdF ((w.alloc o).alloc o') B r):=Lib.hid fun o o'=>(h.keep fun p hp=>World.cell?_alloc_lt w o p (by omega)).keep fun p hp=>World.cell?_alloc_lt _ o' p (by simp;omega)
 have HW:=Lib.hid hw
 clear h hw
 obtain ⟨op,arg,imm⟩:=i
 simp only at h0 h1 ⊢
 obtain ⟨a,rfl⟩:∃ a:Nat,arg=(a:Int):=⟨arg.toNat,by omega⟩
 unfold insRef
 simp only
 by_cases c1:op=2∨op=3
 ·rw [if_pos c1]
  obtain ⟨⟨p,ls,fl,kp,is⟩,lo,lc,co,cc⟩:=r
  simp only at wl wc H HW ⊢
  obtain ⟨nl,HNL⟩:∃ n,Hid (n=ls.length):=⟨_,Lib.hid rfl⟩
  rw [← HNL.out] at wl ⊢
  obtain ⟨d,hd⟩:∃ d,decide ((a:Int)<(nl:Int))=d:=⟨_,rfl⟩
  have hd2:decide (a<nl)=d:=by rw [← hd];simp
  rw [hd]
  clear hd
  rcases c1 with rfl | rfl
  all_goals
   go_enter Try.func78,Try.ntmps78
   go_wp2
   go_ret
   exact ⟨rfl,below_2 _ _ _ _ _⟩
 rw [if_neg c1]
 by_cases c2:op=4
 ·rw [if_pos c2]
  subst c2
  obtain ⟨d,HD⟩:∃ d,Hid (numL r.fn (a:Int)=d):=⟨_,Lib.hid rfl⟩
  rw [HD.out]
  have HC:=fun o o'=>Lib.hid (isNumber_is B r (a:Int) d ((w.alloc o).alloc o') (H.out o o') HW.out (by simp;omega) h0 h1 HD.out)
  obtain ⟨⟨p,ls,fl,kp,is⟩,lo,lc,co,cc⟩:=r
  simp only at HC ⊢
  go_enter Try.func78,Try.ntmps78
  go_wp2_with (go_at_call 77;refine (HC _ _).out.mono ?_;rintro e w2 ⟨rfl,hb2⟩;refine Hid.out ?_)
  have HX:=Lib.hid ((below_2 w _ _ _ _).trans (hb2.mono (by simp;omega)))
  clear hb2
  refine Lib.hid ?_
  go_wp2
  go_ret
  exact ⟨rfl,HX.out⟩
 rw [if_neg c2]
 by_cases c3:op=21∨op=22
 ·rw [if_pos c3]
  obtain ⟨⟨p,ls,fl,kp,is⟩,lo,lc,co,cc⟩:=r
  simp only at wl wc H HW ⊢
  obtain ⟨nl,HNL⟩:∃ n,Hid (n=is.length):=⟨_,Lib.hid rfl⟩
  rw [← HNL.out] at wc ⊢
  obtain ⟨d,hd⟩:∃ d,decide ((a:Int)<(nl:Int))=d:=⟨_,rfl⟩
  have hd2:decide (a<nl)=d:=by rw [← hd];simp
  rw [hd]
  clear hd c1 c2
  rcases c3 with rfl | rfl
  all_goals
   go_enter Try.func78,Try.ntmps78
   go_wp2
   go_ret
   exact ⟨rfl,below_2 _ _ _ _ _⟩
 rw [if_neg c3]
 by_cases c4:op=23∨op=25
 ·rw [if_pos c4,hm]
  obtain ⟨⟨p,ls,fl,kp,is⟩,lo,lc,co,cc⟩:=r
  simp only at wl wc H HW ⊢
  obtain ⟨d,hd⟩:∃ d,decide ((a:Int)<(m:Int))=d:=⟨_,rfl⟩
  have hd2:decide (a<m)=d:=by rw [← hd];simp
  rw [hd]
  clear hd c1 c2 c3 hm
  rcases c4 with rfl | rfl
  all_goals
   go_enter Try.func78,Try.ntmps78
   go_wp2
   go_ret
   exact ⟨rfl,below_2 _ _ _ _ _⟩
 rw [if_neg c4]
 obtain ⟨⟨p,ls,fl,kp,is⟩,lo,lc,co,cc⟩:=r
 simp only at wl wc H HW ⊢
 have g1:(op == 2)=false:=by simp;omega
 have g2:(op == 3)=false:=by simp;omega
 have g3:(op == 4)=false:=by simp;omega
 have g4:(op == 21)=false:=by simp;omega
 have g5:(op == 22)=false:=by simp;omega
 have g6:(op == 23)=false:=by simp;omega
 have g7:(op == 25)=false:=by simp;omega
 clear c1 c2 c3 c4 hm
 go_enter Try.func78,Try.ntmps78
 go_wp2
 go_ret
 exact ⟨rfl,below_2 _ _ _ _ _⟩
theorem instrRef_is (B:Nat) (r:Raw) (i:Ins) (b:Bool) (fs:List Fn) (m:Nat) (w:World) (h:RdF w B r) (hw:WfF r.fn) (hB:B≤w.heap.size) (hm:fs.length=m) (hm1:m≤255) (h0:0≤i.arg) (h1:i.arg≤9223372036854775807) (hb:insRef fs r.fn i=b) :
  Calls Try.prog 78 #[.agg #[.int .u8 i.op,.int .i64 i.arg,.int .u64 i.imm],.agg #[.int .i64 r.fn.params,.slice r.lo r.fn.locals.length r.lc,.bool r.fn.result,.int .i64 r.fn.keep,.slice r.co r.fn.code.length r.cc],.int .i64 m] w fun e w'=>e=.returned (.bool b)∧Below w.heap.size w w':=by
 rw [← hb];exact instrRef_any B r i fs m w h hw hB hm hm1 h0 h1
end Go.Proofs.Ytgekmjkfnhogkaa.Q
