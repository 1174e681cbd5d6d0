/-
  Texts of one seat, one behind the other: QKNamW, QRefLow.
-/
import Derived.Test.YtgekmjkfnhogkaaMA29
import Derived.Test.YtgekmjkfnhogkaaMA13

set_option linter.unusedVariables false
set_option linter.unusedSimpArgs false
set_option maxRecDepth 100000
set_option maxHeartbeats 51200000
namespace Go.Proofs.Ytgekmjkfnhogkaa.Q
open Go.ChangeShapes Go.WideShapes Go.ChangeAt Go.RowKit
theorem names_any (B n c:Nat) (A:Option Addr) (rs:List Raw) (r:Raw) (w:World) (hp:RdP w B A n rs) (hf:RdF w B r) (hw:WfF r.fn) (hB:B≤w.heap.size) (hokf:okF r.fn=true) :
  Calls Try.prog 19 #[.agg #[.slice A n c],.agg #[.int .i64 r.fn.params,.slice r.lo r.fn.locals.length r.lc,.bool r.fn.result,.int .i64 r.fn.keep,.slice r.co r.fn.code.length r.cc]] w fun e w'=>e=.returned (.bool (namB (fns rs) r.fn))∧Below w.heap.size w w':=by
 have HN:Hid ((fns rs).length=n):=Lib.hid (by rw [length_fns,hp.len])
 have hnz:n≤140737488351232:=by have:=hp.sz;omega
 have H:=Lib.hid hf
 have hk0:=(okF_iff.1 hokf).2.2.2.2.1
 have hk1:=(okF_iff.1 hokf).2.2.2.2.2.1
 have HOI:=Lib.hid (okF_iff.1 hokf).2.2.2.2.2.2.2
 have wl:=(okF_iff.1 hokf).1
 have wc:=(okF_iff.1 hokf).2.1
 obtain ⟨b,HBV⟩:∃ b,Hid (b=namB (fns rs) r.fn):=⟨_,Lib.hid rfl⟩
 rw [← HBV.out]
 clear hp hf hw hokf
 obtain ⟨⟨p,ls,fl,kp,is⟩,lo,lc,co,cc⟩:=r
 simp only at wl wc hk0 hk1 HOI HBV ⊢
 obtain ⟨nl,HNL⟩:∃ n,Hid (n=ls.length):=⟨_,Lib.hid rfl⟩
 obtain ⟨nc,HNC⟩:∃ n,Hid (n=is.length):=⟨_,Lib.hid rfl⟩
 rw [← HNL.out] at wl ⊢
 rw [← HNC.out] at wc ⊢
 have HL:=Lib.hid H.out.locals
 have HC:=Lib.hid H.out.code
 simp only at HL HC
 rw [← HNL.out] at HL
 rw [← HNC.out] at HC
 have HBP:Hid (∀ o1 o2,Below w.heap.size w ((w.alloc o1).alloc o2)):=Lib.hid fun o1 o2=>((Below.refl _ _).alloc (Nat.le_refl _) _).alloc (by simp) _
 have HBN:Hid (headNam ⟨p,ls,fl,kp,is⟩=false→b=false):=Lib.hid fun h=>by rw [HBV.out];unfold namB;rw [h];rfl
 have HDV:Hid (headNam ⟨p,ls,fl,kp,is⟩=(decide (nc≠0) && decide (kp<nl) && !(decide (0≤kp) && decide (ls.getD kp.toNat 0≠0)))):=Lib.hid (by rw [HNC.out,HNL.out];rfl)
 by_cases c0:nc=0
 ·have HA:Hid (b=false):=Lib.hid (HBN.out (by rw [HDV.out,decide_eq_false (by omega)];rfl))
  subst c0
  go_enter Try.func19,Try.ntmps19
  go_wp2
  go_ret
  exact ⟨by rw [HA.out];rfl,HBP.out _ _⟩
 have q0:((nc:Int) == 0)=false:=by simpa using c0
 have q0':(nc == 0)=false:=by simpa using c0
 have HC0:=Lib.hid c0
 clear c0
 by_cases ck:kp=-1
 ·subst ck
  have g0:decide ((nl:Int)≤-1)=false:=by simp;omega
  have HHT:Hid (headNam ⟨p,ls,fl,(-1),is⟩=true):=Lib.hid (by rw [HDV.out,decide_eq_true HC0.out,decide_eq_true (by omega:(-1:Int)<(nl:Int))];rfl)
  have HNB:Hid (b=is.all (insNam (fns rs) ⟨p,ls,fl,(-1),is⟩)):=Lib.hid (by rw [HBV.out];unfold namB;rw [HHT.out];rfl)
  have HB0:Hid (Below w.heap.size w ((w.alloc (.cells #[.slice A n c] 24)).alloc (.cells #[.int .i64 p,.slice lo nl lc,.bool fl,.int .i64 (-1),.slice co nc cc] 41))):=Lib.hid (HBP.out _ _)
  have HP0:Hid (Blk ((w.alloc (.cells #[.slice A n c] 24)).alloc (.cells #[.int .i64 p,.slice lo nl lc,.bool fl,.int .i64 (-1),.slice co nc cc] 41)) w.heap.size 24 #[.slice A n c]):=Lib.hid ((Blk.new w _ _).alloc _)
  have HF0:Hid (Blk ((w.alloc (.cells #[.slice A n c] 24)).alloc (.cells #[.int .i64 p,.slice lo nl lc,.bool fl,.int .i64 (-1),.slice co nc cc] 41)) (w.heap.size+1) 41 #[.int .i64 p,.slice lo nl lc,.bool fl,.int .i64 (-1),.slice co nc cc]):=Lib.hid (by
   have h:=Blk.new (w.alloc (.cells #[.slice A n c] 24)) 41 #[.int .i64 p,.slice lo nl lc,.bool fl,.int .i64 (-1),.slice co nc cc]
   rw [World.size_alloc] at h;exact h)
  clear HBN HDV HHT
  go_enter Try.func19,Try.ntmps19
  go_wp2
  go_loopw [36] (fun i wr=>∃ k:Nat,k≤nc∧i=.int .i64 k∧Hid ((is.take k).all (insNam (fns rs) ⟨p,ls,fl,(-1),is⟩)=true)∧Hid (Below w.heap.size w wr)∧Hid (Blk wr w.heap.size 24 #[.slice A n c])∧Hid (Blk wr (w.heap.size+1) 41 #[.int .i64 p,.slice lo nl lc,.bool fl,.int .i64 (-1),.slice co nc cc])) (fun i _=>nc-(intOf i).toNat)
  case atStart=>exact ⟨0,Nat.zero_le _,rfl,rfl,HB0,HP0,HF0⟩
  case round =>
   clear HB0 HP0 HF0
   obtain ⟨k,hk,rfl,HT,HB,HP,HF⟩:=hrel
   have hz:=HF.out.lt
   by_cases hlt:k<nc
   ·obtain ⟨b1,off,i,hco,hb,HI,x0,x1,x2⟩:=(HC.out.below (HB.out.mono hB)).ins hlt
    have hbr:b1<wr.heap.size:=by omega
    have hmem:i ∈ is:=List.mem_of_getElem? HI.out
    have hio:=HOI.out i hmem
    have hop:=opB_iff.1 (okI_iff.1 hio).1
    have h0:=(fitB_iff.1 (okI_iff.1 hio).2.1).1
    have h1:=(fitB_iff.1 (okI_iff.1 hio).2.1).2
    have h2:i.arg<65536:=by
     have hw2:=argW_le i.op
     have:(256:Int) ^ argW i.op≤256 ^ 2:=by
      have h3:argW i.op=0∨argW i.op=1∨argW i.op=2:=by omega
      rcases h3 with h3 | h3 | h3 <;> rw [h3] <;> decide
     have h4:(256:Int) ^ 2=65536:=by decide
     omega
    obtain ⟨op,arg,imm⟩:=i
    simp only at x0 x1 x2 hop h0 h2
    obtain ⟨a,rfl⟩:∃ a:Nat,arg=(a:Int):=⟨arg.toNat,by omega⟩
    have HTN:Hid (insNam (fns rs) ⟨p,ls,fl,(-1),is⟩ ⟨op,a,imm⟩=true→(is.take (k+1)).all (insNam (fns rs) ⟨p,ls,fl,(-1),is⟩)=true):=Lib.hid fun h=>by rw [List.take_add_one,HI.out,List.all_append,HT.out];simp [h]
    have HFN:Hid (insNam (fns rs) ⟨p,ls,fl,(-1),is⟩ ⟨op,a,imm⟩=false→b=false):=Lib.hid fun h=>by
     rw [HNB.out,List.all_eq_false]
     exact ⟨_,hmem,by simp [h]⟩
    have f0:=HF.out.alloc (.cells #[.int .u8 op,.int .i64 (a:Int),.int .u64 imm] 52)
    have HF1:=Lib.hid f0
    have HP1:=Lib.hid (HP.out.alloc (.cells #[.int .u8 op,.int .i64 (a:Int),.int .u64 imm] 52))
    have HB1:=Lib.hid (HB.out.alloc (by omega) (.cells #[.int .u8 op,.int .i64 (a:Int),.int .u64 imm] 52))
    have d1:=f0.cell 1
    have d2:=f0.cell 2
    have d3:=f0.cell 3
    have d4:=f0.cell 4
    have d5:=HP1.out.cell 0
    have HLL:=Lib.hid ((HL.out.below (HB1.out.mono hB)))
    subst hco
    clear hio hmem h1 f0
    have l0:wr.heap.size<(wr.alloc (.cells #[.int .u8 op,.int .i64 (a:Int),.int .u64 imm] 52)).heap.size:=by simp
    by_cases cc:op=2∨op=3
    ·by_cases ha:a<nl
     ·have g1:decide (nl≤a)=false:=by simp;omega
      have g2:decide ((nl:Int)≤(a:Int))=false:=by simp;omega
      have HT1:=Lib.hid (HTN.out (by unfold insNam;rw [if_pos cc];simp;rw [← HNL.out];exact ha))
      rcases cc with rfl | rfl
      all_goals
       go_wp2
       go_roundw
       case rel=>exact ⟨k+1,by omega,by go_num,HT1,HB1,HP1,HF1⟩
       case measure=>simp [intOf];omega
     ·have g1:decide (nl≤a)=true:=by simp;omega
      have g2:decide ((nl:Int)≤(a:Int))=true:=by simp;omega
      have HA:=Lib.hid (HFN.out (by unfold insNam;rw [if_pos cc];simp;rw [← HNL.out];omega))
      rcases cc with rfl | rfl
      all_goals
       go_wp2
       go_ret
       exact ⟨by rw [HA.out];rfl,HB1.out⟩
    have e1:(op == 2)=false:=by simp;omega
    have e2:(op == 3)=false:=by simp;omega
    have C23:=Lib.hid cc
    clear cc
    by_cases cc:op=4
    ·by_cases ha:a<nl
     ·obtain ⟨b2,off2,x,hlo,hb2,HX,y0⟩:=HLL.out.byte ha
      have g1:decide (nl≤a)=false:=by simp;omega
      have g2:decide ((nl:Int)≤(a:Int))=false:=by simp;omega
      have hb2w:b2<(wr.alloc (.cells #[.int .u8 op,.int .i64 (a:Int),.int .u64 imm] 52)).heap.size:=by simp;omega
      have HX0:Hid (insNam (fns rs) ⟨p,ls,fl,(-1),is⟩ ⟨op,a,imm⟩=decide (x=0)):=Lib.hid (by
       unfold insNam;rw [if_neg C23.out,if_pos cc]
       have ha':(a:Int)<(ls.length:Int):=by rw [← HNL.out];omega
       simp only [Int.toNat_natCast,List.getD_eq_getElem?_getD,HX.out,Option.getD_some]
       rw [decide_eq_true ha',Bool.true_and])
      by_cases hx:x=0
      ·have e4:(x == 0)=true:=by simpa using hx
       have e5:(x != 0)=false:=by simpa using hx
       have HT1:=Lib.hid (HTN.out (by rw [HX0.out];simpa using hx))
       subst cc
       have HLO:=Lib.hid hlo
       rw [hlo] at d1
       clear hx hlo HX HX0
       go_wp2
       go_roundw
       case rel=>exact ⟨k+1,by omega,by go_num,HT1,HB1,HP1,HF1⟩
       case measure=>simp [intOf];omega
      ·have e4:(x == 0)=false:=by simpa using hx
       have e5:(x != 0)=true:=by simpa using hx
       have HA:=Lib.hid (HFN.out (by rw [HX0.out];simpa using hx))
       subst cc
       have HLO:=Lib.hid hlo
       rw [hlo] at d1
       clear hx hlo HX HX0
       go_wp2
       go_ret
       exact ⟨by rw [HA.out];rfl,HB1.out⟩
     ·have g1:decide (nl≤a)=true:=by simp;omega
      have g2:decide ((nl:Int)≤(a:Int))=true:=by simp;omega
      have HA:=Lib.hid (HFN.out (by unfold insNam;rw [if_neg C23.out,if_pos cc,decide_eq_false (by rw [← HNL.out];simp only;omega)];rfl))
      subst cc
      go_wp2
      go_ret
      exact ⟨by rw [HA.out];rfl,HB1.out⟩
    have e3:(op == 4)=false:=by simpa using cc
    have C4:=Lib.hid cc
    clear cc
    by_cases cc:op=21∨op=22
    ·by_cases ha:a<nc
     ·have g1:decide (nc≤a)=false:=by simp;omega
      have g2:decide ((nc:Int)≤(a:Int))=false:=by simp;omega
      have HT1:=Lib.hid (HTN.out (by unfold insNam;rw [if_neg C23.out,if_neg C4.out,if_pos cc];simp;rw [← HNC.out];exact ha))
      rcases cc with rfl | rfl
      all_goals
       go_wp2
       go_roundw
       case rel=>exact ⟨k+1,by omega,by go_num,HT1,HB1,HP1,HF1⟩
       case measure=>simp [intOf];omega
     ·have g1:decide (nc≤a)=true:=by simp;omega
      have g2:decide ((nc:Int)≤(a:Int))=true:=by simp;omega
      have HA:=Lib.hid (HFN.out (by unfold insNam;rw [if_neg C23.out,if_neg C4.out,if_pos cc];simp;rw [← HNC.out];omega))
      rcases cc with rfl | rfl
      all_goals
       go_wp2
       go_ret
       exact ⟨by rw [HA.out];rfl,HB1.out⟩
    have e6:(op == 21)=false:=by simp;omega
    have e7:(op == 22)=false:=by simp;omega
    have C21:=Lib.hid cc
    clear cc
    by_cases cc:op=23∨op=25
    ·by_cases ha:a<n
     ·have g1:decide (n≤a)=false:=by simp;omega
      have g2:decide ((n:Int)≤(a:Int))=false:=by simp;omega
      have haf:(a:Int)<((fns rs).length:Int):=by rw [HN.out];omega
      have HAF:=Lib.hid haf
      clear haf
      rcases cc with rfl | rfl
      ·have HT1:=Lib.hid (HTN.out (by unfold insNam;rw [if_neg C23.out,if_neg C4.out,if_neg C21.out,if_pos rfl];simpa using HAF.out))
       go_wp2
       go_roundw
       case rel=>exact ⟨k+1,by omega,by go_num,HT1,HB1,HP1,HF1⟩
       case measure=>simp [intOf];omega
      have HV:Hid (insNam (fns rs) ⟨p,ls,fl,(-1),is⟩ ⟨25,a,imm⟩=!(fl && decide ((-1)<0))):=Lib.hid (by
       unfold insNam;rw [if_neg C23.out,if_neg C4.out,if_neg C21.out,if_neg (by show ¬ (25:Int)=23;omega),if_pos rfl,decide_eq_true (show (a:Int)<_ from HAF.out)];rfl)
      cases fl with
      | false =>
       have HT1:=Lib.hid (HTN.out (by rw [HV.out];simp))
       go_wp2
       go_roundw
       case rel=>exact ⟨k+1,by omega,by go_num,HT1,HB1,HP1,HF1⟩
       case measure=>simp [intOf];omega
      | true =>
       have HA:=Lib.hid (HFN.out (by rw [HV.out];simp))
       go_wp2
       go_ret
       exact ⟨by rw [HA.out];rfl,HB1.out⟩
     ·have g1:decide (n≤a)=true:=by simp;omega
      have g2:decide ((n:Int)≤(a:Int))=true:=by simp;omega
      have haf:¬ (a:Int)<((fns rs).length:Int):=by rw [HN.out];omega
      have HA:=Lib.hid (HFN.out (by unfold insNam;rw [if_neg C23.out,if_neg C4.out,if_neg C21.out];rcases cc with h | h <;> simp [h] <;> omega))
      clear haf
      rcases cc with rfl | rfl
      all_goals
       go_wp2
       go_ret
       exact ⟨by rw [HA.out];rfl,HB1.out⟩
    have e8:(op == 23)=false:=by simp;omega
    have e9:(op == 25)=false:=by simp;omega
    have HT1:=Lib.hid (HTN.out (by unfold insNam;rw [if_neg C23.out,if_neg C4.out,if_neg C21.out,if_neg (by show ¬ op=23;omega),if_neg (by show ¬ op=25;omega)]))
    clear cc
    go_wp2
    go_roundw
    case rel=>exact ⟨k+1,by omega,by go_num,HT1,HB1,HP1,HF1⟩
    case measure=>simp [intOf];omega
   ·obtain rfl:nc=k:=by omega
    clear hlt hk
    have HA:Hid (b=true):=Lib.hid (by
     have h:=HT.out
     rw [List.take_of_length_le (by rw [← HNC.out];omega)] at h
     rw [HNB.out];exact h)
    go_wp2
    go_ret
    exact ⟨by rw [HA.out];rfl,HB.out⟩
 obtain ⟨q,rfl⟩:∃ q:Nat,kp=(q:Int):=⟨kp.toNat,by omega⟩
 have gq0:decide ((0:Int)≤(q:Int))=true:=by simp
 have hq0:(0:Int)≤(q:Int):=by omega
 clear ck hk0
 by_cases hq:q<nl
 rotate_left
 ·have HA:Hid (b=false):=Lib.hid (HBN.out (by rw [HDV.out,decide_eq_false (by omega:¬ (q:Int)<(nl:Int))];simp))
  have g1:decide (nl≤q)=true:=by simp;omega
  have g2:decide ((nl:Int)≤(q:Int))=true:=by simp;omega
  go_enter Try.func19,Try.ntmps19
  go_wp2
  go_ret
  exact ⟨by rw [HA.out];rfl,HBP.out _ _⟩
 obtain ⟨bq,offq,xq,rfl,hbq,HXq,x0q⟩:=HL.out.byte (k:=q) hq
 have hbqw:bq<w.heap.size:=by omega
 have gq1:decide (nl≤q)=false:=by simp;omega
 have gq2:decide ((nl:Int)≤(q:Int))=false:=by simp;omega
 have HGD:Hid (headNam ⟨p,ls,fl,q,is⟩=decide (xq=0)):=Lib.hid (by
  rw [HDV.out,decide_eq_true HC0.out,decide_eq_true (by omega:(q:Int)<(nl:Int)),decide_eq_true hq0,Int.toNat_natCast,List.getD_eq_getElem?_getD,HXq.out]
  by_cases h:xq=0 <;> simp [h])
 by_cases hx:xq=0
 rotate_left
 ·have HA:Hid (b=false):=Lib.hid (HBN.out (by rw [HGD.out];simpa using hx))
  have g3:(xq == 0)=false:=by simpa using hx
  have g4:(xq != 0)=true:=by simpa using hx
  clear hx
  go_enter Try.func19,Try.ntmps19
  go_wp2
  go_ret
  exact ⟨by rw [HA.out];rfl,HBP.out _ _⟩
 have HHT:Hid (headNam ⟨p,ls,fl,(q:Int),is⟩=true):=Lib.hid (by rw [HGD.out];simpa using hx)
 have HXQ:=Lib.hid hx
 have g3:(xq == 0)=true:=by simpa using hx
 have g4:(xq != 0)=false:=by simpa using hx
 clear hx HXq HGD
 have HNB:Hid (b=is.all (insNam (fns rs) ⟨p,ls,fl,(q:Int),is⟩)):=Lib.hid (by rw [HBV.out];unfold namB;rw [HHT.out];rfl)
 have HB0:Hid (Below w.heap.size w ((w.alloc (.cells #[.slice A n c] 24)).alloc (.cells #[.int .i64 p,.slice (some ⟨bq,offq,none⟩) nl lc,.bool fl,.int .i64 (q:Int),.slice co nc cc] 41))):=Lib.hid (HBP.out _ _)
 have HP0:Hid (Blk ((w.alloc (.cells #[.slice A n c] 24)).alloc (.cells #[.int .i64 p,.slice (some ⟨bq,offq,none⟩) nl lc,.bool fl,.int .i64 (q:Int),.slice co nc cc] 41)) w.heap.size 24 #[.slice A n c]):=Lib.hid ((Blk.new w _ _).alloc _)
 have HF0:Hid (Blk ((w.alloc (.cells #[.slice A n c] 24)).alloc (.cells #[.int .i64 p,.slice (some ⟨bq,offq,none⟩) nl lc,.bool fl,.int .i64 (q:Int),.slice co nc cc] 41)) (w.heap.size+1) 41 #[.int .i64 p,.slice (some ⟨bq,offq,none⟩) nl lc,.bool fl,.int .i64 (q:Int),.slice co nc cc]):=Lib.hid (by
  have h:=Blk.new (w.alloc (.cells #[.slice A n c] 24)) 41 #[.int .i64 p,.slice (some ⟨bq,offq,none⟩) nl lc,.bool fl,.int .i64 (q:Int),.slice co nc cc]
  rw [World.size_alloc] at h;exact h)
 clear HBN HDV HHT
 go_enter Try.func19,Try.ntmps19
 go_wp2
 clear x0q
 go_loopw [36] (fun i wr=>∃ k:Nat,k≤nc∧i=.int .i64 k∧Hid ((is.take k).all (insNam (fns rs) ⟨p,ls,fl,(q:Int),is⟩)=true)∧Hid (Below w.heap.size w wr)∧Hid (Blk wr w.heap.size 24 #[.slice A n c])∧Hid (Blk wr (w.heap.size+1) 41 #[.int .i64 p,.slice (some ⟨bq,offq,none⟩) nl lc,.bool fl,.int .i64 (q:Int),.slice co nc cc])) (fun i _=>nc-(intOf i).toNat)
 case atStart=>exact ⟨0,Nat.zero_le _,rfl,rfl,HB0,HP0,HF0⟩
 case round =>
  clear HB0 HP0 HF0
  obtain ⟨k,hk,rfl,HT,HB,HP,HF⟩:=hrel
  have hz:=HF.out.lt
  by_cases hlt:k<nc
  ·obtain ⟨b1,off,i,hco,hb,HI,x0,x1,x2⟩:=(HC.out.below (HB.out.mono hB)).ins hlt
   have hbr:b1<wr.heap.size:=by omega
   have hmem:i ∈ is:=List.mem_of_getElem? HI.out
   have hio:=HOI.out i hmem
   have hop:=opB_iff.1 (okI_iff.1 hio).1
   have h0:=(fitB_iff.1 (okI_iff.1 hio).2.1).1
   have h1:=(fitB_iff.1 (okI_iff.1 hio).2.1).2
   have h2:i.arg<65536:=by
    have hw2:=argW_le i.op
    have:(256:Int) ^ argW i.op≤256 ^ 2:=by
     have h3:argW i.op=0∨argW i.op=1∨argW i.op=2:=by omega
     rcases h3 with h3 | h3 | h3 <;> rw [h3] <;> decide
    have h4:(256:Int) ^ 2=65536:=by decide
    omega
   obtain ⟨op,arg,imm⟩:=i
   simp only at x0 x1 x2 hop h0 h2
   obtain ⟨a,rfl⟩:∃ a:Nat,arg=(a:Int):=⟨arg.toNat,by omega⟩
   have HTN:Hid (insNam (fns rs) ⟨p,ls,fl,(q:Int),is⟩ ⟨op,a,imm⟩=true→(is.take (k+1)).all (insNam (fns rs) ⟨p,ls,fl,(q:Int),is⟩)=true):=Lib.hid fun h=>by rw [List.take_add_one,HI.out,List.all_append,HT.out];simp [h]
   have HFN:Hid (insNam (fns rs) ⟨p,ls,fl,(q:Int),is⟩ ⟨op,a,imm⟩=false→b=false):=Lib.hid fun h=>by
    rw [HNB.out,List.all_eq_false]
    exact ⟨_,hmem,by simp [h]⟩
   have f0:=HF.out.alloc (.cells #[.int .u8 op,.int .i64 (a:Int),.int .u64 imm] 52)
   have HF1:=Lib.hid f0
   have HP1:=Lib.hid (HP.out.alloc (.cells #[.int .u8 op,.int .i64 (a:Int),.int .u64 imm] 52))
   have HB1:=Lib.hid (HB.out.alloc (by omega) (.cells #[.int .u8 op,.int .i64 (a:Int),.int .u64 imm] 52))
   have d1:=f0.cell 1
   have d2:=f0.cell 2
   have d3:=f0.cell 3
   have d4:=f0.cell 4
   have d5:=HP1.out.cell 0
   have HLL:=Lib.hid ((HL.out.below (HB1.out.mono hB)))
   subst hco
   clear hio hmem h1 f0
   have l0:wr.heap.size<(wr.alloc (.cells #[.int .u8 op,.int .i64 (a:Int),.int .u64 imm] 52)).heap.size:=by simp
   by_cases cc:op=2∨op=3
   ·by_cases ha:a<nl
    ·have g1:decide (nl≤a)=false:=by simp;omega
     have g2:decide ((nl:Int)≤(a:Int))=false:=by simp;omega
     have HT1:=Lib.hid (HTN.out (by unfold insNam;rw [if_pos cc];simp;rw [← HNL.out];exact ha))
     rcases cc with rfl | rfl
     all_goals
      go_wp2
      go_roundw
      case rel=>exact ⟨k+1,by omega,by go_num,HT1,HB1,HP1,HF1⟩
      case measure=>simp [intOf];omega
    ·have g1:decide (nl≤a)=true:=by simp;omega
     have g2:decide ((nl:Int)≤(a:Int))=true:=by simp;omega
     have HA:=Lib.hid (HFN.out (by unfold insNam;rw [if_pos cc];simp;rw [← HNL.out];omega))
     rcases cc with rfl | rfl
     all_goals
      go_wp2
      go_ret
      exact ⟨by rw [HA.out];rfl,HB1.out⟩
   have e1:(op == 2)=false:=by simp;omega
   have e2:(op == 3)=false:=by simp;omega
   have C23:=Lib.hid cc
   clear cc
   by_cases cc:op=4
   ·by_cases ha:a<nl
    ·obtain ⟨b2,off2,x,hlo,hb2,HX,y0⟩:=HLL.out.byte ha
     have g1:decide (nl≤a)=false:=by simp;omega
     have g2:decide ((nl:Int)≤(a:Int))=false:=by simp;omega
     have hb2w:b2<(wr.alloc (.cells #[.int .u8 op,.int .i64 (a:Int),.int .u64 imm] 52)).heap.size:=by simp;omega
     have HX0:Hid (insNam (fns rs) ⟨p,ls,fl,(q:Int),is⟩ ⟨op,a,imm⟩=decide (x=0)):=Lib.hid (by
      unfold insNam;rw [if_neg C23.out,if_pos cc]
      have ha':(a:Int)<(ls.length:Int):=by rw [← HNL.out];omega
      simp only [Int.toNat_natCast,List.getD_eq_getElem?_getD,HX.out,Option.getD_some]
      rw [decide_eq_true ha',Bool.true_and])
     by_cases hx:x=0
     ·have e4:(x == 0)=true:=by simpa using hx
      have e5:(x != 0)=false:=by simpa using hx
      have HT1:=Lib.hid (HTN.out (by rw [HX0.out];simpa using hx))
      subst cc
      have HLO:=Lib.hid hlo
      rw [hlo] at d1
      clear hx hlo HX HX0
      go_wp2
      go_roundw
      case rel=>exact ⟨k+1,by omega,by go_num,HT1,HB1,HP1,HF1⟩
      case measure=>simp [intOf];omega
     ·have e4:(x == 0)=false:=by simpa using hx
      have e5:(x != 0)=true:=by simpa using hx
      have HA:=Lib.hid (HFN.out (by rw [HX0.out];simpa using hx))
      subst cc
      have HLO:=Lib.hid hlo
      rw [hlo] at d1
      clear hx hlo HX HX0
      go_wp2
      go_ret
      exact ⟨by rw [HA.out];rfl,HB1.out⟩
    ·have g1:decide (nl≤a)=true:=by simp;omega
     have g2:decide ((nl:Int)≤(a:Int))=true:=by simp;omega
     have HA:=Lib.hid (HFN.out (by unfold insNam;rw [if_neg C23.out,if_pos cc,decide_eq_false (by rw [← HNL.out];simp only;omega)];rfl))
     subst cc
     go_wp2
     go_ret
     exact ⟨by rw [HA.out];rfl,HB1.out⟩
   have e3:(op == 4)=false:=by simpa using cc
   have C4:=Lib.hid cc
   clear cc
   by_cases cc:op=21∨op=22
   ·by_cases ha:a<nc
    ·have g1:decide (nc≤a)=false:=by simp;omega
     have g2:decide ((nc:Int)≤(a:Int))=false:=by simp;omega
     have HT1:=Lib.hid (HTN.out (by unfold insNam;rw [if_neg C23.out,if_neg C4.out,if_pos cc];simp;rw [← HNC.out];exact ha))
     rcases cc with rfl | rfl
     all_goals
      go_wp2
      go_roundw
      case rel=>exact ⟨k+1,by omega,by go_num,HT1,HB1,HP1,HF1⟩
      case measure=>simp [intOf];omega
    ·have g1:decide (nc≤a)=true:=by simp;omega
     have g2:decide ((nc:Int)≤(a:Int))=true:=by simp;omega
     have HA:=Lib.hid (HFN.out (by unfold insNam;rw [if_neg C23.out,if_neg C4.out,if_pos cc];simp;rw [← HNC.out];omega))
     rcases cc with rfl | rfl
     all_goals
      go_wp2
      go_ret
      exact ⟨by rw [HA.out];rfl,HB1.out⟩
   have e6:(op == 21)=false:=by simp;omega
   have e7:(op == 22)=false:=by simp;omega
   have C21:=Lib.hid cc
   clear cc
   by_cases cc:op=23∨op=25
   ·by_cases ha:a<n
    ·have g1:decide (n≤a)=false:=by simp;omega
     have g2:decide ((n:Int)≤(a:Int))=false:=by simp;omega
     have haf:(a:Int)<((fns rs).length:Int):=by rw [HN.out];omega
     have HAF:=Lib.hid haf
     clear haf
     rcases cc with rfl | rfl
     ·have HT1:=Lib.hid (HTN.out (by unfold insNam;rw [if_neg C23.out,if_neg C4.out,if_neg C21.out,if_pos rfl];simpa using HAF.out))
      go_wp2
      go_roundw
      case rel=>exact ⟨k+1,by omega,by go_num,HT1,HB1,HP1,HF1⟩
      case measure=>simp [intOf];omega
     have HV:Hid (insNam (fns rs) ⟨p,ls,fl,(q:Int),is⟩ ⟨25,a,imm⟩=!(fl && decide ((q:Int)<0))):=Lib.hid (by
      unfold insNam;rw [if_neg C23.out,if_neg C4.out,if_neg C21.out,if_neg (by show ¬ (25:Int)=23;omega),if_pos rfl,decide_eq_true (show (a:Int)<_ from HAF.out)];rfl)
     cases fl with
     | false =>
      have HT1:=Lib.hid (HTN.out (by rw [HV.out];simp))
      go_wp2
      go_roundw
      case rel=>exact ⟨k+1,by omega,by go_num,HT1,HB1,HP1,HF1⟩
      case measure=>simp [intOf];omega
     | true =>
      have HT1:=Lib.hid (HTN.out (by rw [HV.out];simp))
      have g5:decide ((q:Int)<0)=false:=by simp
      go_wp2
      go_roundw
      case rel=>exact ⟨k+1,by omega,by go_num,HT1,HB1,HP1,HF1⟩
      case measure=>simp [intOf];omega
    ·have g1:decide (n≤a)=true:=by simp;omega
     have g2:decide ((n:Int)≤(a:Int))=true:=by simp;omega
     have haf:¬ (a:Int)<((fns rs).length:Int):=by rw [HN.out];omega
     have HA:=Lib.hid (HFN.out (by unfold insNam;rw [if_neg C23.out,if_neg C4.out,if_neg C21.out];rcases cc with h | h <;> simp [h] <;> omega))
     clear haf
     rcases cc with rfl | rfl
     all_goals
      go_wp2
      go_ret
      exact ⟨by rw [HA.out];rfl,HB1.out⟩
   have e8:(op == 23)=false:=by simp;omega
   have e9:(op == 25)=false:=by simp;omega
   have HT1:=Lib.hid (HTN.out (by unfold insNam;rw [if_neg C23.out,if_neg C4.out,if_neg C21.out,if_neg (by show ¬ op=23;omega),if_neg (by show ¬ op=25;omega)]))
   clear cc
   go_wp2
   go_roundw
   case rel=>exact ⟨k+1,by omega,by go_num,HT1,HB1,HP1,HF1⟩
   case measure=>simp [intOf];omega
  ·obtain rfl:nc=k:=by omega
   clear hlt hk
   have HA:Hid (b=true):=Lib.hid (by
    have h:=HT.out
    rw [List.take_of_length_le (by rw [← HNC.out];omega)] at h
    rw [HNB.out];exact h)
   go_wp2
   go_ret
   exact ⟨by rw [HA.out];rfl,HB.out⟩
def NewB (w:World) (l:List Int) (m:Nat) (e:Ending) (w':World):Prop :=
 ∃ A c,e=.returned (.slice A m c)∧w'.ownsRow w.heap.size 5 1 (.slice A m c) m (u8c l)∧Below w.heap.size w w'
theorem low_any (v:Int) (n:Nat) (w:World) (h0:0≤v) (h1:v≤18446744073709551615) (hn:n≤8) :
  Calls Try.prog 36 #[.int .u64 v,.int .i64 n] w (NewB w (le n v) n):=by
 go_enter Try.func36,Try.ntmps36
 go_wp2
 go_loopw [0,5,6] (fun x s i wr=>∃ (k:Nat) (z:Int) (A:Option Addr) (c:Nat) (out:List Int),k≤n∧i=.int .i64 k∧x=.int .u64 z∧0≤z∧z≤18446744073709551615∧s=.slice A k c∧Hid (le n v=out ++ le (n-k) z)∧Hid (out.length=k)∧Hid (wr.ownsRow w.heap.size 5 1 (.slice A k c) k (u8c out))∧Hid (Below w.heap.size w wr)) (fun _ _ i _=>n-(intOf i).toNat)
 case atStart=>exact ⟨0,v,none,0,[],Nat.zero_le _,rfl,rfl,h0,h1,rfl,rfl,rfl,own_none _ _ _ _,Below.refl _ _⟩
 case round =>
  obtain ⟨k,z,A,c,out,hk,rfl,rfl,hz0,hz1,rfl,HE,HL,HO,HB⟩:=hrel
  have hz:=HB.out.size
  by_cases hlt:k<n
  ·have HN:Hid (le n v=(out ++ [z % 256]) ++ le (n-(k+1)) (z / 256)):=by
    show _=_
    rw [HE.out,show n-k=(n-(k+1))+1 by omega]
    simp [le]
   have HRd:=Lib.hid (one_reads wr 5 [.int .u8 (z % 256)] 1 rfl)
   have HOne:Hid (∀ u ∈ [Value.int .u8 (z % 256)],u.oneCell'=true):=Lib.hid (u8c_one [z % 256])
   have HOa:=Lib.hid (own_alloc' HO.out (.cells #[.int .u8 (z % 256)] 5))
   go_wp2_with (at_builtin;refine app_byte rfl _ _ rfl w.heap.size (.slice A k c) k _ rfl HOa.out (wr.heap.size+1) (some ⟨wr.heap.size,0,none⟩) 1 1 [.int .u8 (z % 256)] rfl HRd.out HOne.out (by omega) (by simp;omega) ?_;intro v' w3 hown hgr hor;refine Hid.out ?_)
   obtain ⟨A3,c3,rfl⟩:=own_slice hown
   have HO3:Hid (w3.ownsRow w.heap.size 5 1 (.slice A3 (k+1) c3) (k+1) (u8c (out ++ [z % 256]))):=by
    rw [u8c_append]
    exact hown
   have HB3:Hid (Below w.heap.size w w3):=(HB.out.alloc hz _).grown hgr (by simp;omega) fun i hi=>(own_block_le HO.out hi).1
   have HL3:Hid ((out ++ [z % 256]).length=k+1):=Lib.hid (by rw [List.length_append,HL.out];rfl)
   clear hown hgr hor
   refine Lib.hid ?_
   go_wp2
   go_roundw
   case rel=>exact ⟨k+1,z / 256,A3,c3,_,by omega,by go_num,rfl,by omega,by omega,rfl,HN,HL3,HO3,HB3⟩
   case measure=>simp [intOf];omega
  ·obtain rfl:n=k:=by omega
   clear hlt hk
   have HN:Hid (le n v=out):=by
    show _=_
    rw [HE.out,Nat.sub_self]
    simp [le]
   go_wp2
   go_ret
   exact ⟨A,c,rfl,by rw [HN.out];exact HO.out,HB.out⟩

theorem width_q (k:Int) (v:Int) (w:World) (h:widthD k=v):Calls Try.prog 38 #[.int .u8 k] w fun e w'=>e=.returned (.int .i64 v)∧w=w':=by
 rw [← h];exact width_any k w
theorem fit0 (v:Int):fitB 0 v=(v == 0):=by unfold fitB;rw [Bool.eq_iff_iff];simp;omega
theorem fit8 {v:Int} (h0:0≤v) (h1:v≤18446744073709551615):fitB 8 v=true:=by unfold fitB;simp;omega
theorem fit1 (v:Int):fitB 1 v=(decide (0≤v) && decide (v≤255)):=by unfold fitB;rw [Bool.eq_iff_iff];simp;omega
theorem fit2 (v:Int):fitB 2 v=(decide (0≤v) && decide (v≤65535)):=by unfold fitB;rw [Bool.eq_iff_iff];simp;omega
theorem says_any (i:Ins) (w:World) (hw:WfI i) :
  Calls Try.prog 37 #[.agg #[.int .u8 i.op,.int .i64 i.arg,.int .u64 i.imm]] w fun e w'=>e=.returned (.bool (okI i))∧Below w.heap.size w w':=by
 obtain ⟨o0,o1,a0,a1,m0,m1⟩:=hw
 obtain ⟨op,arg,imm⟩:=i
 simp only at *
 have hAB:∀ o:Obj,Hid (Below w.heap.size w (w.alloc o)):=fun o=>(Below.refl _ _).alloc (Nat.le_refl _) o
 unfold okI
 simp only
 cases ho:opB op with
 | false =>
  have HW:Hid (widthD op=-1):=Lib.hid (by unfold widthD;rw [ho];rfl)
  clear ho
  go_enter Try.func37,Try.ntmps37
  go_wp2_with (go_at_call 38;refine (width_q op (-1) _ HW.out).mono ?_;rintro e w2 ⟨rfl,rfl⟩)
  go_ret
  exact ⟨rfl,(hAB _).out⟩
 | true =>
  have hb:=opB_iff.1 ho
  by_cases h1:op=1
  ·subst h1
   rw [show argW 1=0 from rfl,show immW 1=8 from rfl,fit0,fit8 m0 m1]
   have HW:Hid (widthD 1=8):=rfl
   clear ho
   cases hq:(arg == 0)
   all_goals
    go_enter Try.func37,Try.ntmps37
    go_wp2_with (go_at_call 38;refine (width_q 1 8 _ HW.out).mono ?_;rintro e w2 ⟨rfl,rfl⟩)
    go_ret
    exact ⟨rfl,(hAB _).out⟩
  ·have hiw:immW op=0:=by unfold immW;rw [if_neg h1]
   rw [hiw,fit0]
   by_cases h2:op=21∨op=22
   ·have haw:argW op=2:=by unfold argW;rw [if_neg (by omega),if_pos h2]
    have HW:Hid (widthD op=2):=Lib.hid (by unfold widthD;rw [ho,haw,hiw];rfl)
    rw [haw,fit2]
    clear ho haw hiw h1 h2 hb
    cases hq:(imm == 0) with
    | false =>
     rw [Bool.and_false]
     go_enter Try.func37,Try.ntmps37
     go_wp2_with (go_at_call 38;refine (width_q op 2 _ HW.out).mono ?_;rintro e w2 ⟨rfl,rfl⟩)
     go_ret
     exact ⟨rfl,(hAB _).out⟩
    | true =>
     cases hq2:decide (0≤arg)
     all_goals cases hq3:decide (arg≤65535)
     all_goals
      go_enter Try.func37,Try.ntmps37
      go_wp2_with (go_at_call 38;refine (width_q op 2 _ HW.out).mono ?_;rintro e w2 ⟨rfl,rfl⟩)
      go_ret
      exact ⟨rfl,(hAB _).out⟩
   ·by_cases h3:op=2∨op=3∨op=4∨op=23∨op=25
    ·have haw:argW op=1:=by unfold argW;rw [if_pos h3]
     have HW:Hid (widthD op=1):=Lib.hid (by unfold widthD;rw [ho,haw,hiw];rfl)
     rw [haw,fit1]
     clear ho haw hiw h1 h2 h3 hb
     cases hq:(imm == 0) with
     | false =>
      rw [Bool.and_false]
      go_enter Try.func37,Try.ntmps37
      go_wp2_with (go_at_call 38;refine (width_q op 1 _ HW.out).mono ?_;rintro e w2 ⟨rfl,rfl⟩)
      go_ret
      exact ⟨rfl,(hAB _).out⟩
     | true =>
      cases hq2:decide (0≤arg)
      all_goals cases hq3:decide (arg≤255)
      all_goals
       go_enter Try.func37,Try.ntmps37
       go_wp2_with (go_at_call 38;refine (width_q op 1 _ HW.out).mono ?_;rintro e w2 ⟨rfl,rfl⟩)
       go_ret
       exact ⟨rfl,(hAB _).out⟩
    ·have haw:argW op=0:=by unfold argW;rw [if_neg h3,if_neg h2]
     have HW:Hid (widthD op=0):=Lib.hid (by unfold widthD;rw [ho,haw,hiw];rfl)
     rw [haw,fit0]
     clear ho haw hiw h1 h2 h3 hb
     cases hq:(imm == 0) with
     | false =>
      rw [Bool.and_false]
      go_enter Try.func37,Try.ntmps37
      go_wp2_with (go_at_call 38;refine (width_q op 0 _ HW.out).mono ?_;rintro e w2 ⟨rfl,rfl⟩)
      go_ret
      exact ⟨rfl,(hAB _).out⟩
     | true =>
      cases hq2:(arg == 0)
      all_goals
       go_enter Try.func37,Try.ntmps37
       go_wp2_with (go_at_call 38;refine (width_q op 0 _ HW.out).mono ?_;rintro e w2 ⟨rfl,rfl⟩)
       go_ret
       exact ⟨rfl,(hAB _).out⟩
end Go.Proofs.Ytgekmjkfnhogkaa.Q
