/-
  Texts of one seat, one behind the other: QKStkW.
-/
import Derived.Deep.OwnRows
import Derived.Test.YtgekmjkfnhogkaaMA29

set_option linter.unusedVariables false
set_option linter.unusedSimpArgs false
set_option maxRecDepth 100000
set_option maxHeartbeats 51200000
namespace Go.Proofs.Ytgekmjkfnhogkaa.Q
open Go.ChangeShapes Go.WideShapes Go.ChangeAt Go.RowKit
theorem info_str:(Try.prog.info? 9).map (fun i=>(i.zero,i.size,i.bytes))=some (some (.string ⟨#[]⟩),1,16):=by kernel_rfl
theorem row_fill {cs:Array Value} {m:Nat} (hs:cs.size=m) (hm:0<m) (h:∀ j,j<m→cs[j]?=some (.string (str [63]))):cs.setIfInBounds 0 (.string (str []))=(rowO ((List.replicate m none).set 0 (some []))).toArray:=by
 apply Array.ext
 ·simp [length_rowO,hs]
 ·intro i h1 h2
  have hi:i<m:=by simpa [hs] using h1
  have h3:=h i hi
  rw [Array.getElem?_eq_getElem (by omega)] at h3
  injection h3 with h3
  rw [Array.getElem_setIfInBounds]
  simp only [rowO,List.getElem_toArray,List.getElem_map,List.getElem_set,List.getElem_replicate]
  ·split
   ·rfl
   ·exact h3
theorem row_set {l:List (Option Stk)} {b:Nat} {s:Stk}:(rowO l).toArray.setIfInBounds b (.string (str (ltr s)))=(rowO (l.set b (some s))).toArray:=by
 apply Array.ext
 ·simp [length_rowO]
 ·intro i h1 h2
  rw [Array.getElem_setIfInBounds]
  simp only [rowO,List.getElem_toArray,List.getElem_map,List.getElem_set]
  ·split <;> rfl
  ·simpa [length_rowO] using h1
structure SkW (w:World) (A:Option Addr) (n c:Nat) (cs:Array Value) (l:List (Option Stk)) (wr:World):Prop where
 p:Blk wr w.heap.size 24 #[.slice A n c]
 f:Blk wr (w.heap.size+1) 41 cs
 row:Blk wr (w.heap.size+2) 9 (rowO l).toArray
 below:Below w.heap.size w wr
theorem SkW.on {w w1 w2:World} {A:Option Addr} {n c:Nat} {cs:Array Value} {l:List (Option Stk)} (h:SkW w A n c cs l w1) (hb:Below w1.heap.size w1 w2):SkW w A n c cs l w2 :=
 ⟨h.p.below hb h.p.lt,h.f.below hb h.f.lt,h.row.below hb h.row.lt,h.below.trans (hb.mono h.below.size)⟩
theorem SkW.put {w w1:World} {A:Option Addr} {n c:Nat} {cs:Array Value} {l:List (Option Stk)} (h:SkW w A n c cs l w1) (b:Nat) (s:Stk):SkW w A n c cs (l.set b (some s)) (w1.setCell ⟨w.heap.size+2,b,none⟩ (.string (str (ltr s)))) :=
 ⟨h.p.far (by simp) _,h.f.far (by simp) _,by rw [← row_set];exact h.row.set_ b _,h.below.setCell (by simp) _⟩
theorem SkW.at_ {w w1:World} {A:Option Addr} {n c:Nat} {cs:Array Value} {l:List (Option Stk)} (h:SkW w A n c cs l w1) {b:Nat} {x:Option Stk} (hx:l[b]?=some x):w1.cell? ⟨w.heap.size+2,b,none⟩=some (.string (strO x)):=by
 rw [h.row.cell];simp [rowO,hx]
theorem SkW.own {w w1:World} {A:Option Addr} {n c m:Nat} {cs:Array Value} {l:List (Option Stk)} (h:SkW w A n c cs l w1) (hl:l.length=m) (hm:m≤1000):w1.ownsRow w.heap.size 9 1 (.slice (some ⟨w.heap.size+2,0,none⟩) m m) m (rowO l) :=
 ⟨by rw [length_rowO,hl];omega,.inr ⟨_,m,_,rfl,by omega,h.row,Nat.le_refl _,by unfold maxLen;omega,by simp [length_rowO,hl],by rw [List.toList_toArray,List.take_of_length_le (by rw [length_rowO,hl];omega)]⟩⟩
theorem succK_le {fs:List Fn} {f:Fn} {i:Ins} {a m:Nat} (hm:m=f.code.length) (ha:a<m) (hi:insRef fs f i=true) (h0:0≤i.arg):∀ b ∈ succK a i,b≤m:=by
 intro b hb
 have hj:i.op=21∨i.op=22→i.arg.toNat<m:=fun ho=>by
  unfold insRef at hi
  rw [if_neg (by omega),if_neg (by omega),if_pos ho] at hi
  have:=of_decide_eq_true hi
  omega
 unfold succK at hb
 split at hb
 ·rename_i h;simp at hb;have:=hj (.inl h);omega
 split at hb
 ·rename_i h;simp at hb;have:=hj (.inr h);omega
 split at hb
 ·simp at hb
 ·simp at hb;omega
theorem str_bang {s:Stk}:((str (ltr s)).toList == [33])=false:=by
 rw [str_toList,Bool.eq_false_iff]
 intro h
 exact ltr_ne (by decide) (by decide) (eq_of_beq h)
theorem str_cmp {s t:Stk} (hs:k01 s) (ht:k01 t) (h:s≠t):((str (ltr s)).toList == (str (ltr t)).toList)=false:=by
 rw [str_toList,str_toList,Bool.eq_false_iff]
 intro hh
 exact h (ltr_inj hs ht (eq_of_beq hh))

theorem stacks_any (B n c:Nat) (A:Option Addr) (rs:List Raw) (r:Raw) (w:World) (hp:RdP w B A n rs) (hf:RdF w B r) (hB:B≤w.heap.size) (hok:okP (fns rs)=true) (hokf:okF r.fn=true) (hin:∀ i ∈ r.fn.code,insRef (fns rs) r.fn i=true) (hc:0<r.fn.code.length) (hcl:r.fn.code.length≤256) :
  Calls Try.prog 20 #[.agg #[.slice A n c],.agg #[.int .i64 r.fn.params,.slice r.lo r.fn.locals.length r.lc,.bool r.fn.result,.int .i64 r.fn.keep,.slice r.co r.fn.code.length r.cc]] w (StkP (fns rs) r.fn w.heap.size w):=by
 obtain ⟨m,hm⟩:∃ m,m=r.fn.code.length:=⟨_,rfl⟩
 obtain ⟨nl,hnl⟩:∃ m,m=r.fn.locals.length:=⟨_,rfl⟩
 rw [← hm] at hc hcl ⊢
 rw [← hnl]
 have HM:=Lib.hid hm
 have HNL:=Lib.hid hnl
 have HP:=Lib.hid hp
 have HF:=Lib.hid hf
 have HOK:=Lib.hid hok
 have HOKF:=Lib.hid hokf
 have HIN:=Lib.hid hin
 have HST:=Lib.hid (Swp.start (fs:=fns rs) (f:=r.fn) (by rw [← hm];exact hc))
 rw [← hm] at HST
 have HC:=Lib.hid hf.code
 rw [← hm] at HC
 have HCALL:Hid (∀ (i:Ins) (s:Stk) (W:World),i ∈ r.fn.code→k01 s→s.length≤100000→Below w.heap.size w W→Calls Try.prog 39 #[.agg #[.slice A n c],.agg #[.int .i64 r.fn.params,.slice r.lo nl r.lc,.bool r.fn.result,.int .i64 r.fn.keep,.slice r.co m r.cc],.agg #[.int .u8 i.op,.int .i64 i.arg,.int .u64 i.imm],.string (str (ltr s))] W fun e w'=>e=.returned (.string (str (aftS (fns rs) r.fn i s)))∧Below W.heap.size W w'):=Lib.hid fun i s W hi hk hs hW=>by
  rw [hm,hnl]
  have hz:=hW.size
  exact after_any B n c A rs r i s W (hp.below (hW.mono hB)) (hf.below (hW.mono hB)) (by omega) hok hokf (hin i hi) ((okF_iff.1 hokf).2.2.2.2.2.2.2 i hi) hk hs
 clear hp hf hok hokf hin hm hnl
 have hmk:∀ W:World,(Instr.makeSlice 89 (.int .i64 m) (.int .i64 m)).run Try.prog W=.ok (.slice (some ⟨W.heap.size,0,none⟩) m m) (W.alloc (.cells (madeCells #[.string ⟨#[]⟩] m) 9)):=fun W=>run_make_row' _ _ _ 16 Try.underlying89 info_str rfl .i64 .i64 m (by omega) (by omega) W
 obtain ⟨w0,HW0⟩:∃ w0,Hid (w0=((w.alloc (.cells #[.slice A n c] 24)).alloc (.cells #[.int .i64 r.fn.params,.slice r.lo nl r.lc,.bool r.fn.result,.int .i64 r.fn.keep,.slice r.co m r.cc] 41))):=⟨_,Lib.hid rfl⟩
 have HZ0:Hid (w0.heap.size=w.heap.size+2):=Lib.hid (by rw [HW0.out];simp)
 have HBW0:Hid (Below w.heap.size w w0):=Lib.hid (by rw [HW0.out];exact ((Below.refl _ _).alloc (Nat.le_refl _) _).alloc (by simp) _)
 have HBP:Hid (Blk w0 w.heap.size 24 #[.slice A n c]):=Lib.hid (by rw [HW0.out];exact (Blk.new w _ _).alloc _)
 have HBF:Hid (Blk w0 (w.heap.size+1) 41 #[.int .i64 r.fn.params,.slice r.lo nl r.lc,.bool r.fn.result,.int .i64 r.fn.keep,.slice r.co m r.cc]):=Lib.hid (by
  have h:=Blk.new (w.alloc (.cells #[.slice A n c] 24)) 41 #[.int .i64 r.fn.params,.slice r.lo nl r.lc,.bool r.fn.result,.int .i64 r.fn.keep,.slice r.co m r.cc]
  rw [World.size_alloc] at h;rw [HW0.out];exact h)
 have HI1:Hid (Blk (((w.alloc (.cells #[.slice A n c] 24)).alloc (.cells #[.int .i64 r.fn.params,.slice r.lo nl r.lc,.bool r.fn.result,.int .i64 r.fn.keep,.slice r.co m r.cc] 41)).alloc (.cells (madeCells #[.string ⟨#[]⟩] m) 9)) (w.heap.size+2) 9 (madeCells #[.string ⟨#[]⟩] m)∧Below (w.heap.size+2) w0 (((w.alloc (.cells #[.slice A n c] 24)).alloc (.cells #[.int .i64 r.fn.params,.slice r.lo nl r.lc,.bool r.fn.result,.int .i64 r.fn.keep,.slice r.co m r.cc] 41)).alloc (.cells (madeCells #[.string ⟨#[]⟩] m) 9))):=Lib.hid (by
  rw [← HW0.out]
  refine ⟨?_,(Below.refl _ _).alloc (by rw [HZ0.out];exact Nat.le_refl _) _⟩
  have h:=Blk.new w0 9 (madeCells #[.string ⟨#[]⟩] m)
  rw [HZ0.out] at h;exact h)
 have HMS:Hid ((madeCells #[.string ⟨#[]⟩] m).size=m):=Lib.hid (by simp [madeCells])
 go_enter Try.func20,Try.ntmps20
 go_wp2
 go_loopw [20] (fun i wr=>∃ (k:Nat) (cs:Array Value),k≤m∧i=.int .i64 k∧Hid (cs.size=m)∧Hid (∀ j,j<k→cs[j]?=some (.string (str [63])))∧Hid (Blk wr (w.heap.size+2) 9 cs∧Below (w.heap.size+2) w0 wr)) (fun i _=>m-(intOf i).toNat)
 case atStart=>exact ⟨0,_,Nat.zero_le _,rfl,HMS,Lib.hid (fun j hj=>by omega),HI1⟩
 case round =>
  clear HI1 HMS
  obtain ⟨k,cs,hk,rfl,HS,HJ,HR⟩:=hrel
  have hz:=HR.out.1.lt
  by_cases hlt:k<m
  ·obtain ⟨v,hv⟩:∃ v,cs[k]?=some v:=⟨cs[k]'(by rw [HS.out];exact hlt),Array.getElem?_eq_getElem _⟩
   have x0:wr.cell? ⟨w.heap.size+2,k,none⟩=some v:=by rw [HR.out.1.cell];exact hv
   have f0:wr.frozen? ⟨w.heap.size+2,k,none⟩=false:=HR.out.1.frozen k
   have HR1:Hid (Blk (wr.setCell ⟨w.heap.size+2,k,none⟩ (.string (str [63]))) (w.heap.size+2) 9 (cs.setIfInBounds k (.string (str [63])))∧Below (w.heap.size+2) w0 (wr.setCell ⟨w.heap.size+2,k,none⟩ (.string (str [63])))):=Lib.hid ⟨HR.out.1.set_ k _,HR.out.2.setCell (by simp) _⟩
   have HS1:Hid ((cs.setIfInBounds k (.string (str [63]))).size=m):=Lib.hid (by simp [HS.out])
   have HJ1:Hid (∀ j,j<k+1→(cs.setIfInBounds k (.string (str [63])))[j]?=some (.string (str [63]))):=Lib.hid fun j hj=>by
    rw [Array.getElem?_setIfInBounds]
    split
    ·rw [if_pos (by rw [HS.out];omega)]
    ·exact HJ.out j (by omega)
   clear hv
   go_wp2
   go_roundw
   case rel=>exact ⟨k+1,_,by omega,by go_num,HS1,HJ1,HR1⟩
   case measure=>simp [intOf];omega
  ·obtain rfl:m=k:=by omega
   clear hlt hk
   obtain ⟨v,hv⟩:∃ v,cs[0]?=some v:=⟨cs[0]'(by rw [HS.out];exact hc),Array.getElem?_eq_getElem _⟩
   have x0:wr.cell? ⟨w.heap.size+2,0,none⟩=some v:=by rw [HR.out.1.cell];exact hv
   have f0:wr.frozen? ⟨w.heap.size+2,0,none⟩=false:=HR.out.1.frozen 0
   have HSK:Hid (SkW w A n c #[.int .i64 r.fn.params,.slice r.lo nl r.lc,.bool r.fn.result,.int .i64 r.fn.keep,.slice r.co m r.cc] ((List.replicate m none).set 0 (some [])) (wr.setCell ⟨w.heap.size+2,0,none⟩ (.string (str [])))):=Lib.hid (by
    have hb:=HR.out.2
    have hq:Below w.heap.size w wr:=HBW0.out.trans (hb.mono (by omega))
    refine ⟨(HBP.out.below hb (by omega)).far (by simp) _,(HBF.out.below hb (by omega)).far (by simp) _,?_,hq.setCell (by simp) _⟩
    rw [← row_fill HS.out hc HJ.out]
    exact HR.out.1.set_ 0 _)
   clear hv HR HBP HBF HBW0 HZ0 HW0 HS HJ
   go_wp2
   go_loopg [9,10] (m+1) (fun gk d mo wr=>∃ (dp more:Bool) (l:List (Option Stk)),d=.bool dp∧mo=.bool more∧(more=true→cnt l+1≤gk)∧Hid (SkW w A n c #[.int .i64 r.fn.params,.slice r.lo nl r.lc,.bool r.fn.result,.int .i64 r.fn.keep,.slice r.co m r.cc] l wr)∧Hid (∃ mo' c0 a,Swp (fns rs) r.fn l mo' dp c0 a)∧Hid (more=false→∃ c0,Swp (fns rs) r.fn l false dp c0 r.fn.code.length))
   case atStart=>exact ⟨false,true,_,rfl,rfl,(fun _=>by have h:=cnt_le ((List.replicate m none).set 0 (some ([]:Stk)));rw [List.length_set,List.length_replicate] at h;omega),HSK,Lib.hid ⟨_,_,_,HST.out⟩,Lib.hid (fun h=>by cases h)⟩
   case round =>
    clear HSK HST x0 f0
    obtain ⟨dp,more,l,rfl,rfl,hgk,HSK,HSW,HFIN⟩:=hrel
    cases more with
    | false =>
     obtain ⟨c0,hfin⟩:=HFIN.out rfl
     have HE:Hid (StkP (fns rs) r.fn w.heap.size w (.returned (.tuple #[.slice (some ⟨w.heap.size+2,0,none⟩) m m,.bool dp,.bool true])) wr):=Lib.hid ⟨HSK.out.below,.inr ⟨_,_,_,l,dp,rfl,HM.out,hfin.sol,hfin.deep_,HSK.out.own (by rw [hfin.len,← HM.out]) (by omega)⟩⟩
     clear hfin
     go_wp2
     go_ret3
     exact HE.out
    | true =>
     have hg:=hgk rfl
     obtain ⟨mo',c0',a0,hsw⟩:=HSW.out
     have HSWA:=Lib.hid hsw.again
     have hcn:cnt l≤l.length:=cnt_le l
     have y4:wr.cell? ⟨w.heap.size+1,4,none⟩=some (.slice r.co m r.cc):=HSK.out.f.cell 4
     obtain ⟨c1,HC1⟩:∃ c1,c1=cnt l:=⟨_,rfl⟩
     rw [← HC1] at HSWA hg
     clear hgk HSW HFIN hsw hcn HC1
     go_wp2
     go_loopw [9,10,33] (fun d mo i wr=>∃ (dp more:Bool) (a:Nat) (l:List (Option Stk)),d=.bool dp∧mo=.bool more∧i=.int .i64 a∧a≤m∧Hid (SkW w A n c #[.int .i64 r.fn.params,.slice r.lo nl r.lc,.bool r.fn.result,.int .i64 r.fn.keep,.slice r.co m r.cc] l wr)∧Hid (Swp (fns rs) r.fn l more dp c1 a)) (fun _ _ i _=>m-(intOf i).toNat)
     case atStart=>exact ⟨dp,false,0,l,rfl,rfl,rfl,Nat.zero_le _,HSK,HSWA⟩
     case round =>
      clear HSK HSWA y4
      obtain ⟨dp,more,a,l,rfl,rfl,rfl,ha,HSK,HSW⟩:=hrel
      by_cases hlt:a<m
      ·obtain ⟨x,hx⟩:∃ x,l[a]?=some x:=⟨l[a]'(by rw [HSW.out.len,← HM.out];exact hlt),List.getElem?_eq_getElem _⟩
       have z0:=HSK.out.at_ hx
       have hzr:=HSK.out.row.lt
       cases x with
       | none =>
        have HNX:=Lib.hid (HSW.out.skip hx)
        have hq:=strO_none
        obtain ⟨X,HX⟩:∃ X,X=strO none:=⟨_,rfl⟩
        rw [← HX] at z0 hq
        clear hx HX
        go_wp2
        go_roundw
        case rel=>exact ⟨dp,more,a+1,l,rfl,rfl,by go_num,by omega,HSK,HNX⟩
        case measure=>simp [intOf];omega
       | some s =>
        have hq:=strO_some s
        obtain ⟨X,HX⟩:∃ X,X=strO (some s):=⟨_,rfl⟩
        rw [← HX] at z0 hq
        obtain ⟨b1,off,i,hco,hb1,HI,x0,x1,x2⟩:=(HC.out.below (HSK.out.below.mono hB)).ins (k:=a) hlt
        have hmem:i ∈ r.fn.code:=List.mem_of_getElem? HI.out
        have hb1w:b1<wr.heap.size:=by omega
        have hsh:=HSW.out.short a s hx
        have hll:l.length=m:=by rw [HSW.out.len,← HM.out]
        have HCL:=Lib.hid (fun W hW=>HCALL.out i s W hmem (HSW.out.kinds a s hx) (by omega) (HSK.out.below.trans (Below.mono (show Below wr.heap.size wr W from hW) HSK.out.below.size)))
        have HXX:=Lib.hid HX
        rw [show str (ltr s)=X from HX.symm] at HCL
        have hpc:=HSK.out.p.cell 0
        have d0:=HSK.out.f.cell 0
        have d1:=HSK.out.f.cell 1
        have d2:=HSK.out.f.cell 2
        have d3:=HSK.out.f.cell 3
        have d4:=HSK.out.f.cell 4
        have HHX:=Lib.hid hx
        have HLL:=Lib.hid hll
        have HMEM:=Lib.hid hmem
        have HCO:=Lib.hid hco
        rw [hco] at HCL d4
        obtain ⟨S,HS⟩:∃ S,Hid (S=str (aftS (fns rs) r.fn i s)):=⟨_,Lib.hid rfl⟩
        rw [← HS.out] at HCL
        clear hx HX hmem hsh hll hco
        go_wp2
        go_still_tail 11,(by kernel_rfl)
        change wpList _ _ _ _ _ wr.drew
        obtain ⟨w2,hw2⟩:∃ w2,wr.drew=w2:=⟨_,rfl⟩
        have HSK2:Hid (SkW w A n c #[.int .i64 r.fn.params,.slice r.lo nl r.lc,.bool r.fn.result,.int .i64 r.fn.keep,.slice r.co m r.cc] l w2):=Lib.hid (by rw [← hw2];exact ⟨HSK.out.p,HSK.out.f,HSK.out.row,HSK.out.below.drew⟩)
        have HB2:Hid (Below wr.heap.size wr w2):=Lib.hid (by rw [← hw2];exact (Below.refl _ _).drew)
        rw [hw2]
        clear hw2 z0 hq hpc d0 d1 d2 d3 d4 x0 x1 x2
        go_wp2_with (go_at_call 39;refine (HCL.out _ HB2.out).mono ?_;rintro e w3 ⟨rfl,hb3⟩;have HSK3:=Lib.hid (HSK2.out.on hb3);clear hb3;refine Hid.out ?_)
        have y4:w3.cell? ⟨w.heap.size+1,4,none⟩=some (.slice r.co m r.cc):=HSK3.out.f.cell 4
        have HRCH:=Lib.hid (HSW.out.sound a s HHX.out)
        have hsz:=HSK3.out.row.lt
        clear HCL HSK2 HB2
        cases haf:afterK (fns rs) r.fn i s with
        | none =>
         have hS:S=str [33]:=by rw [HS.out,aftS_none haf]
         have g1:(S.toList == [33])=true:=by rw [hS,str_toList];rfl
         have HNF:Hid (¬ Fine (fns rs) r.fn):=Lib.hid (not_fine_after HRCH.out HI.out haf)
         clear haf hS
         refine Lib.hid ?_
         go_wp2
         go_ret3
         exact ⟨HSK3.out.below,.inl ⟨rfl,HNF.out⟩⟩
        | some s' =>
         have hS:S=str (ltr s'):=by rw [HS.out,aftS_some haf]
         have g1:(S.toList == [33])=false:=by rw [hS];exact str_bang
         have gSS:(S.toList == S.toList)=true:=by simp
         obtain ⟨q,hq⟩:∃ q,S.size=q:=⟨_,rfl⟩
         have hql:q=s'.length:=by rw [← hq,hS,str_size,length_ltr]
         have hqb:q≤100000:=by have:=afterK_len haf;have:=HSW.out.short a s HHX.out;have:=HLL.out;omega
         have HSS:=Lib.hid hS
         have HK1:Hid (k01 s'):=Lib.hid (afterK_01 HOK.out HOKF.out (HSW.out.kinds a s HHX.out) haf)
         have HSH:Hid (s'.length≤s.length+2):=Lib.hid (afterK_len haf)
         have HLK:=Lib.hid (HSW.out.look HHX.out HI.out haf)
         have HAF:=Lib.hid haf
         have HSC:=Lib.hid (succK_le (fs:=fns rs) (f:=r.fn) (a:=a) HM.out hlt (HIN.out i HMEM.out) (fitB_iff.1 (okI_iff.1 ((okF_iff.1 HOKF.out).2.2.2.2.2.2.2 i HMEM.out)).2.1).1)
         have HA0:=Lib.hid (fitB_iff.1 (okI_iff.1 ((okF_iff.1 HOKF.out).2.2.2.2.2.2.2 i HMEM.out)).2.1).1
         have HQL:=Lib.hid hql
         clear hS haf hql
         obtain ⟨d2,HD2⟩:∃ d2,Hid (d2=(dp || decide (16<s'.length))):=⟨_,Lib.hid rfl⟩
         rw [← HD2.out] at HLK
         have hcase:(dp=true∧d2=true)∨(dp=false∧16<q∧d2=true)∨(dp=false∧¬ 16<q∧d2=false):=by
          rw [HD2.out,HQL.out]
          cases dp
          ·by_cases h:16<s'.length
           ·exact .inr (.inl ⟨rfl,h,by simp [h]⟩)
           ·exact .inr (.inr ⟨rfl,h,by simp;omega⟩)
          ·exact .inl ⟨rfl,rfl⟩
         have HDD:Hid (16<s'.length→d2=true):=Lib.hid fun h=>by rw [HD2.out];simp [h]
         clear HD2
         refine Lib.hid ?_
         rcases hcase with ⟨rfl,rfl⟩ | ⟨rfl,hg1,rfl⟩ | ⟨rfl,hg1,rfl⟩
         ·skip
          go_wp2
          go_loopw [10,13] (fun mo bb wr=>∃ (more:Bool) (b:Nat) (l:List (Option Stk)),mo=.bool more∧bb=.int .i64 b∧b≤m+1∧Hid (SkW w A n c #[.int .i64 r.fn.params,.slice r.lo nl r.lc,.bool r.fn.result,.int .i64 r.fn.keep,.slice r.co m r.cc] l wr)∧Hid (Swp (fns rs) r.fn l more true c1 a)∧Hid (l[a]?=some (some s))∧Hid (∀ b',b'<b→b' ∈ succK a i→l[b']?=some (some s'))) (fun _ i _=>m+1-(intOf i).toNat)
          case atStart=>exact ⟨more,0,l,rfl,rfl,by omega,HSK3,HLK,HHX,Lib.hid (fun b' hb'=>by omega)⟩
          case round =>
           clear HSK3 HLK HHX y4 HSK HSW hsz HLL
           obtain ⟨more,b,l,rfl,rfl,hb,HSK,HSW,HHX,HDN⟩:=hrel
           have y4:wr.cell? ⟨w.heap.size+1,4,none⟩=some (.slice r.co m r.cc):=HSK.out.f.cell 4
           have hzr:=HSK.out.row.lt
           by_cases hbm:b≤m
           ·have gb:decide ((b:Int)≤(m:Int))=true:=by simp;omega
            have gb':decide (b≤m)=true:=by simpa using hbm
            obtain ⟨b1',off',i',hco',hb1',HI',x0,x1,x2⟩:=(HC.out.below (HSK.out.below.mono hB)).ins (k:=a) hlt
            obtain rfl:i=i':=by have h:=HI.out;rw [HI'.out] at h;injection h with h;exact h.symm
            have hb1w':b1'<wr.heap.size:=by omega
            rw [hco'] at y4
            have HNEXT:=Lib.hid (next_any i a b wr HA0.out (by omega) (by omega))
            by_cases hmem:b ∈ succK a i
            ·have HMM:=Lib.hid hmem
             rw [decide_eq_true hmem] at HNEXT
             clear hmem hco'
             go_wp2_with (go_at_call 40;refine HNEXT.out.mono ?_;rintro e w4 ⟨rfl,hb4⟩;have HSK4:=Lib.hid (HSK.out.on hb4);clear hb4;refine Hid.out ?_)
             have y5:w4.cell? ⟨w.heap.size+1,4,none⟩=some (.slice r.co m r.cc):=HSK4.out.f.cell 4
             have hz4:=HSK4.out.row.lt
             clear HNEXT y4 x0 x1 x2
             have HRB:Hid (Reach (fns rs) r.fn b s'):=Lib.hid (.step HRCH.out HI.out HAF.out HMM.out)
             by_cases hbe:b=m
             ·have HNF:Hid (¬ Fine (fns rs) r.fn):=Lib.hid (not_fine_code HRB.out (List.getElem?_eq_none (by rw [← HM.out];omega)))
              subst hbe
              refine Lib.hid ?_
              go_wp2
              go_ret3
              exact ⟨HSK4.out.below,.inl ⟨rfl,HNF.out⟩⟩
             ·have gm:(b == m)=false:=by simpa using hbe
              have gm':((b:Int) == (m:Int))=false:=by simp;omega
              have hbl:b<m:=by omega
              obtain ⟨x,hx⟩:∃ x,l[b]?=some x:=⟨l[b]'(by rw [HSW.out.len,← HM.out];exact hbl),List.getElem?_eq_getElem _⟩
              have z0:=HSK4.out.at_ hx
              have f0:=HSK4.out.row.frozen b
              clear hbe
              cases x with
              | none =>
               have hq0:=strO_none
               obtain ⟨X,HX⟩:∃ X,X=strO none:=⟨_,rfl⟩
               rw [← HX] at z0 hq0
               have hsh:=HSW.out.short a s HHX.out
               have hll:l.length=m:=by rw [HSW.out.len,← HM.out]
               have HPUT:=Lib.hid (HSW.out.put hx HRB.out (by have:=HSH.out;omega) HK1.out)
               have HSK5:Hid (SkW w A n c #[.int .i64 r.fn.params,.slice r.lo nl r.lc,.bool r.fn.result,.int .i64 r.fn.keep,.slice r.co m r.cc] (l.set b (some s')) (w4.setCell ⟨w.heap.size+2,b,none⟩ (.string S))):=Lib.hid (by rw [HSS.out];exact HSK4.out.put b s')
               have HA5:Hid ((l.set b (some s'))[a]?=some (some s)):=Lib.hid (by
                rw [List.getElem?_set_ne (by rintro rfl;have h:=HHX.out;rw [hx] at h;cases h)];exact HHX.out)
               have HD5:Hid (∀ b',b'<b+1→b' ∈ succK a i→(l.set b (some s'))[b']?=some (some s')):=Lib.hid fun b' hb' hs=>by
                by_cases he:b'=b
                ·subst he;rw [List.getElem?_set_self (by omega)]
                ·rw [List.getElem?_set_ne (Ne.symm he)];exact HDN.out b' (by omega) hs
               clear hx HX hsh hll
               refine Lib.hid ?_
               go_wp2
               go_roundw
               case rel=>exact ⟨true,b+1,_,rfl,by go_num,by omega,HSK5,HPUT,HA5,HD5⟩
               case measure=>simp [intOf];omega
              | some t =>
               have hq0:=strO_some t
               by_cases hts:t=s'
               ·subst hts
                have hTS:strO (some t)=S:=HSS.out.symm
                rw [hTS] at z0 hq0
                have HD5:Hid (∀ b',b'<b+1→b' ∈ succK a i→l[b']?=some (some t)):=Lib.hid fun b' hb' hs=>by
                 by_cases he:b'=b
                 ·subst he;exact hx
                 ·exact HDN.out b' (by omega) hs
                clear hx hTS
                refine Lib.hid ?_
                go_wp2
                go_roundw
                case rel=>exact ⟨more,b+1,_,rfl,by go_num,by omega,HSK4,HSW,HHX,HD5⟩
                case measure=>simp [intOf];omega
               ·have HNF:Hid (¬ Fine (fns rs) r.fn):=Lib.hid (not_fine_two (HSW.out.sound b t hx) HRB.out hts)
                have gT:((strO (some t)).toList == S.toList)=false:=by
                 rw [HSS.out];exact str_cmp (HSW.out.kinds b t hx) HK1.out hts
                obtain ⟨X,HX⟩:∃ X,X=strO (some t):=⟨_,rfl⟩
                rw [← HX] at z0 hq0 gT
                clear hx HX hts
                refine Lib.hid ?_
                go_wp2
                go_ret3
                exact ⟨HSK4.out.below,.inl ⟨rfl,HNF.out⟩⟩
            ·have HD5:Hid (∀ b',b'<b+1→b' ∈ succK a i→l[b']?=some (some s')):=Lib.hid fun b' hb' hs=>by
              by_cases he:b'=b
              ·subst he;exact absurd hs hmem
              ·exact HDN.out b' (by omega) hs
             rw [decide_eq_false hmem] at HNEXT
             clear hmem hco'
             go_wp2_with (go_at_call 40;refine HNEXT.out.mono ?_;rintro e w4 ⟨rfl,hb4⟩;have HSK4:=Lib.hid (HSK.out.on hb4);clear hb4;refine Hid.out ?_)
             clear HNEXT y4 x0 x1 x2
             refine Lib.hid ?_
             go_wp2
             go_roundw
             case rel=>exact ⟨more,b+1,l,rfl,by go_num,by omega,HSK4,HSW,HHX,HD5⟩
             case measure=>simp [intOf];omega
           ·obtain rfl:b=m+1:=by omega
            have gb:decide (((m+1:Nat):Int)≤(m:Int))=false:=by simp;omega
            have gb2:decide (m+1≤m)=false:=by simp
            have gb3:decide ((m:Int)+1≤(m:Int))=false:=by simp;omega
            have HNX:=Lib.hid (HSW.out.next HHX.out HI.out HAF.out (fun b' hb'=>HDN.out b' (by have:=HSC.out b' hb';omega) hb') (fun _=>rfl))
            clear hbm hb
            go_wp2
            go_roundw
            case rel=>exact ⟨true,more,a+1,l,rfl,rfl,by go_num,by omega,HSK,HNX⟩
            case measure=>simp [intOf];omega
         ·have gq:decide ((q:Int) > 16)=true:=by simp;omega
          have gq':decide (16<q)=true:=by simpa using hg1
          have gq2:decide ((16:Int)<(q:Int))=true:=by simp;omega
          go_wp2
          go_loopw [10,13] (fun mo bb wr=>∃ (more:Bool) (b:Nat) (l:List (Option Stk)),mo=.bool more∧bb=.int .i64 b∧b≤m+1∧Hid (SkW w A n c #[.int .i64 r.fn.params,.slice r.lo nl r.lc,.bool r.fn.result,.int .i64 r.fn.keep,.slice r.co m r.cc] l wr)∧Hid (Swp (fns rs) r.fn l more true c1 a)∧Hid (l[a]?=some (some s))∧Hid (∀ b',b'<b→b' ∈ succK a i→l[b']?=some (some s'))) (fun _ i _=>m+1-(intOf i).toNat)
          case atStart=>exact ⟨more,0,l,rfl,rfl,by omega,HSK3,HLK,HHX,Lib.hid (fun b' hb'=>by omega)⟩
          case round =>
           clear HSK3 HLK HHX y4 HSK HSW hsz HLL
           obtain ⟨more,b,l,rfl,rfl,hb,HSK,HSW,HHX,HDN⟩:=hrel
           have y4:wr.cell? ⟨w.heap.size+1,4,none⟩=some (.slice r.co m r.cc):=HSK.out.f.cell 4
           have hzr:=HSK.out.row.lt
           by_cases hbm:b≤m
           ·have gb:decide ((b:Int)≤(m:Int))=true:=by simp;omega
            have gb':decide (b≤m)=true:=by simpa using hbm
            obtain ⟨b1',off',i',hco',hb1',HI',x0,x1,x2⟩:=(HC.out.below (HSK.out.below.mono hB)).ins (k:=a) hlt
            obtain rfl:i=i':=by have h:=HI.out;rw [HI'.out] at h;injection h with h;exact h.symm
            have hb1w':b1'<wr.heap.size:=by omega
            rw [hco'] at y4
            have HNEXT:=Lib.hid (next_any i a b wr HA0.out (by omega) (by omega))
            by_cases hmem:b ∈ succK a i
            ·have HMM:=Lib.hid hmem
             rw [decide_eq_true hmem] at HNEXT
             clear hmem hco'
             go_wp2_with (go_at_call 40;refine HNEXT.out.mono ?_;rintro e w4 ⟨rfl,hb4⟩;have HSK4:=Lib.hid (HSK.out.on hb4);clear hb4;refine Hid.out ?_)
             have y5:w4.cell? ⟨w.heap.size+1,4,none⟩=some (.slice r.co m r.cc):=HSK4.out.f.cell 4
             have hz4:=HSK4.out.row.lt
             clear HNEXT y4 x0 x1 x2
             have HRB:Hid (Reach (fns rs) r.fn b s'):=Lib.hid (.step HRCH.out HI.out HAF.out HMM.out)
             by_cases hbe:b=m
             ·have HNF:Hid (¬ Fine (fns rs) r.fn):=Lib.hid (not_fine_code HRB.out (List.getElem?_eq_none (by rw [← HM.out];omega)))
              subst hbe
              refine Lib.hid ?_
              go_wp2
              go_ret3
              exact ⟨HSK4.out.below,.inl ⟨rfl,HNF.out⟩⟩
             ·have gm:(b == m)=false:=by simpa using hbe
              have gm':((b:Int) == (m:Int))=false:=by simp;omega
              have hbl:b<m:=by omega
              obtain ⟨x,hx⟩:∃ x,l[b]?=some x:=⟨l[b]'(by rw [HSW.out.len,← HM.out];exact hbl),List.getElem?_eq_getElem _⟩
              have z0:=HSK4.out.at_ hx
              have f0:=HSK4.out.row.frozen b
              clear hbe
              cases x with
              | none =>
               have hq0:=strO_none
               obtain ⟨X,HX⟩:∃ X,X=strO none:=⟨_,rfl⟩
               rw [← HX] at z0 hq0
               have hsh:=HSW.out.short a s HHX.out
               have hll:l.length=m:=by rw [HSW.out.len,← HM.out]
               have HPUT:=Lib.hid (HSW.out.put hx HRB.out (by have:=HSH.out;omega) HK1.out)
               have HSK5:Hid (SkW w A n c #[.int .i64 r.fn.params,.slice r.lo nl r.lc,.bool r.fn.result,.int .i64 r.fn.keep,.slice r.co m r.cc] (l.set b (some s')) (w4.setCell ⟨w.heap.size+2,b,none⟩ (.string S))):=Lib.hid (by rw [HSS.out];exact HSK4.out.put b s')
               have HA5:Hid ((l.set b (some s'))[a]?=some (some s)):=Lib.hid (by
                rw [List.getElem?_set_ne (by rintro rfl;have h:=HHX.out;rw [hx] at h;cases h)];exact HHX.out)
               have HD5:Hid (∀ b',b'<b+1→b' ∈ succK a i→(l.set b (some s'))[b']?=some (some s')):=Lib.hid fun b' hb' hs=>by
                by_cases he:b'=b
                ·subst he;rw [List.getElem?_set_self (by omega)]
                ·rw [List.getElem?_set_ne (Ne.symm he)];exact HDN.out b' (by omega) hs
               clear hx HX hsh hll
               refine Lib.hid ?_
               go_wp2
               go_roundw
               case rel=>exact ⟨true,b+1,_,rfl,by go_num,by omega,HSK5,HPUT,HA5,HD5⟩
               case measure=>simp [intOf];omega
              | some t =>
               have hq0:=strO_some t
               by_cases hts:t=s'
               ·subst hts
                have hTS:strO (some t)=S:=HSS.out.symm
                rw [hTS] at z0 hq0
                have HD5:Hid (∀ b',b'<b+1→b' ∈ succK a i→l[b']?=some (some t)):=Lib.hid fun b' hb' hs=>by
                 by_cases he:b'=b
                 ·subst he;exact hx
                 ·exact HDN.out b' (by omega) hs
                clear hx hTS
                refine Lib.hid ?_
                go_wp2
                go_roundw
                case rel=>exact ⟨more,b+1,_,rfl,by go_num,by omega,HSK4,HSW,HHX,HD5⟩
                case measure=>simp [intOf];omega
               ·have HNF:Hid (¬ Fine (fns rs) r.fn):=Lib.hid (not_fine_two (HSW.out.sound b t hx) HRB.out hts)
                have gT:((strO (some t)).toList == S.toList)=false:=by
                 rw [HSS.out];exact str_cmp (HSW.out.kinds b t hx) HK1.out hts
                obtain ⟨X,HX⟩:∃ X,X=strO (some t):=⟨_,rfl⟩
                rw [← HX] at z0 hq0 gT
                clear hx HX hts
                refine Lib.hid ?_
                go_wp2
                go_ret3
                exact ⟨HSK4.out.below,.inl ⟨rfl,HNF.out⟩⟩
            ·have HD5:Hid (∀ b',b'<b+1→b' ∈ succK a i→l[b']?=some (some s')):=Lib.hid fun b' hb' hs=>by
              by_cases he:b'=b
              ·subst he;exact absurd hs hmem
              ·exact HDN.out b' (by omega) hs
             rw [decide_eq_false hmem] at HNEXT
             clear hmem hco'
             go_wp2_with (go_at_call 40;refine HNEXT.out.mono ?_;rintro e w4 ⟨rfl,hb4⟩;have HSK4:=Lib.hid (HSK.out.on hb4);clear hb4;refine Hid.out ?_)
             clear HNEXT y4 x0 x1 x2
             refine Lib.hid ?_
             go_wp2
             go_roundw
             case rel=>exact ⟨more,b+1,l,rfl,by go_num,by omega,HSK4,HSW,HHX,HD5⟩
             case measure=>simp [intOf];omega
           ·obtain rfl:b=m+1:=by omega
            have gb:decide (((m+1:Nat):Int)≤(m:Int))=false:=by simp;omega
            have gb2:decide (m+1≤m)=false:=by simp
            have gb3:decide ((m:Int)+1≤(m:Int))=false:=by simp;omega
            have HNX:=Lib.hid (HSW.out.next HHX.out HI.out HAF.out (fun b' hb'=>HDN.out b' (by have:=HSC.out b' hb';omega) hb') (fun _=>rfl))
            clear hbm hb
            go_wp2
            go_roundw
            case rel=>exact ⟨true,more,a+1,l,rfl,rfl,by go_num,by omega,HSK,HNX⟩
            case measure=>simp [intOf];omega
         ·have gq:decide ((q:Int) > 16)=false:=by simp;omega
          have gq':decide (16<q)=false:=by simpa using hg1
          have gq2:decide ((16:Int)<(q:Int))=false:=by simp;omega
          go_wp2
          go_loopw [10,13] (fun mo bb wr=>∃ (more:Bool) (b:Nat) (l:List (Option Stk)),mo=.bool more∧bb=.int .i64 b∧b≤m+1∧Hid (SkW w A n c #[.int .i64 r.fn.params,.slice r.lo nl r.lc,.bool r.fn.result,.int .i64 r.fn.keep,.slice r.co m r.cc] l wr)∧Hid (Swp (fns rs) r.fn l more false c1 a)∧Hid (l[a]?=some (some s))∧Hid (∀ b',b'<b→b' ∈ succK a i→l[b']?=some (some s'))) (fun _ i _=>m+1-(intOf i).toNat)
          case atStart=>exact ⟨more,0,l,rfl,rfl,by omega,HSK3,HLK,HHX,Lib.hid (fun b' hb'=>by omega)⟩
          case round =>
           clear HSK3 HLK HHX y4 HSK HSW hsz HLL
           obtain ⟨more,b,l,rfl,rfl,hb,HSK,HSW,HHX,HDN⟩:=hrel
           have y4:wr.cell? ⟨w.heap.size+1,4,none⟩=some (.slice r.co m r.cc):=HSK.out.f.cell 4
           have hzr:=HSK.out.row.lt
           by_cases hbm:b≤m
           ·have gb:decide ((b:Int)≤(m:Int))=true:=by simp;omega
            have gb':decide (b≤m)=true:=by simpa using hbm
            obtain ⟨b1',off',i',hco',hb1',HI',x0,x1,x2⟩:=(HC.out.below (HSK.out.below.mono hB)).ins (k:=a) hlt
            obtain rfl:i=i':=by have h:=HI.out;rw [HI'.out] at h;injection h with h;exact h.symm
            have hb1w':b1'<wr.heap.size:=by omega
            rw [hco'] at y4
            have HNEXT:=Lib.hid (next_any i a b wr HA0.out (by omega) (by omega))
            by_cases hmem:b ∈ succK a i
            ·have HMM:=Lib.hid hmem
             rw [decide_eq_true hmem] at HNEXT
             clear hmem hco'
             go_wp2_with (go_at_call 40;refine HNEXT.out.mono ?_;rintro e w4 ⟨rfl,hb4⟩;have HSK4:=Lib.hid (HSK.out.on hb4);clear hb4;refine Hid.out ?_)
             have y5:w4.cell? ⟨w.heap.size+1,4,none⟩=some (.slice r.co m r.cc):=HSK4.out.f.cell 4
             have hz4:=HSK4.out.row.lt
             clear HNEXT y4 x0 x1 x2
             have HRB:Hid (Reach (fns rs) r.fn b s'):=Lib.hid (.step HRCH.out HI.out HAF.out HMM.out)
             by_cases hbe:b=m
             ·have HNF:Hid (¬ Fine (fns rs) r.fn):=Lib.hid (not_fine_code HRB.out (List.getElem?_eq_none (by rw [← HM.out];omega)))
              subst hbe
              refine Lib.hid ?_
              go_wp2
              go_ret3
              exact ⟨HSK4.out.below,.inl ⟨rfl,HNF.out⟩⟩
             ·have gm:(b == m)=false:=by simpa using hbe
              have gm':((b:Int) == (m:Int))=false:=by simp;omega
              have hbl:b<m:=by omega
              obtain ⟨x,hx⟩:∃ x,l[b]?=some x:=⟨l[b]'(by rw [HSW.out.len,← HM.out];exact hbl),List.getElem?_eq_getElem _⟩
              have z0:=HSK4.out.at_ hx
              have f0:=HSK4.out.row.frozen b
              clear hbe
              cases x with
              | none =>
               have hq0:=strO_none
               obtain ⟨X,HX⟩:∃ X,X=strO none:=⟨_,rfl⟩
               rw [← HX] at z0 hq0
               have hsh:=HSW.out.short a s HHX.out
               have hll:l.length=m:=by rw [HSW.out.len,← HM.out]
               have HPUT:=Lib.hid (HSW.out.put hx HRB.out (by have:=HSH.out;omega) HK1.out)
               have HSK5:Hid (SkW w A n c #[.int .i64 r.fn.params,.slice r.lo nl r.lc,.bool r.fn.result,.int .i64 r.fn.keep,.slice r.co m r.cc] (l.set b (some s')) (w4.setCell ⟨w.heap.size+2,b,none⟩ (.string S))):=Lib.hid (by rw [HSS.out];exact HSK4.out.put b s')
               have HA5:Hid ((l.set b (some s'))[a]?=some (some s)):=Lib.hid (by
                rw [List.getElem?_set_ne (by rintro rfl;have h:=HHX.out;rw [hx] at h;cases h)];exact HHX.out)
               have HD5:Hid (∀ b',b'<b+1→b' ∈ succK a i→(l.set b (some s'))[b']?=some (some s')):=Lib.hid fun b' hb' hs=>by
                by_cases he:b'=b
                ·subst he;rw [List.getElem?_set_self (by omega)]
                ·rw [List.getElem?_set_ne (Ne.symm he)];exact HDN.out b' (by omega) hs
               clear hx HX hsh hll
               refine Lib.hid ?_
               go_wp2
               go_roundw
               case rel=>exact ⟨true,b+1,_,rfl,by go_num,by omega,HSK5,HPUT,HA5,HD5⟩
               case measure=>simp [intOf];omega
              | some t =>
               have hq0:=strO_some t
               by_cases hts:t=s'
               ·subst hts
                have hTS:strO (some t)=S:=HSS.out.symm
                rw [hTS] at z0 hq0
                have HD5:Hid (∀ b',b'<b+1→b' ∈ succK a i→l[b']?=some (some t)):=Lib.hid fun b' hb' hs=>by
                 by_cases he:b'=b
                 ·subst he;exact hx
                 ·exact HDN.out b' (by omega) hs
                clear hx hTS
                refine Lib.hid ?_
                go_wp2
                go_roundw
                case rel=>exact ⟨more,b+1,_,rfl,by go_num,by omega,HSK4,HSW,HHX,HD5⟩
                case measure=>simp [intOf];omega
               ·have HNF:Hid (¬ Fine (fns rs) r.fn):=Lib.hid (not_fine_two (HSW.out.sound b t hx) HRB.out hts)
                have gT:((strO (some t)).toList == S.toList)=false:=by
                 rw [HSS.out];exact str_cmp (HSW.out.kinds b t hx) HK1.out hts
                obtain ⟨X,HX⟩:∃ X,X=strO (some t):=⟨_,rfl⟩
                rw [← HX] at z0 hq0 gT
                clear hx HX hts
                refine Lib.hid ?_
                go_wp2
                go_ret3
                exact ⟨HSK4.out.below,.inl ⟨rfl,HNF.out⟩⟩
            ·have HD5:Hid (∀ b',b'<b+1→b' ∈ succK a i→l[b']?=some (some s')):=Lib.hid fun b' hb' hs=>by
              by_cases he:b'=b
              ·subst he;exact absurd hs hmem
              ·exact HDN.out b' (by omega) hs
             rw [decide_eq_false hmem] at HNEXT
             clear hmem hco'
             go_wp2_with (go_at_call 40;refine HNEXT.out.mono ?_;rintro e w4 ⟨rfl,hb4⟩;have HSK4:=Lib.hid (HSK.out.on hb4);clear hb4;refine Hid.out ?_)
             clear HNEXT y4 x0 x1 x2
             refine Lib.hid ?_
             go_wp2
             go_roundw
             case rel=>exact ⟨more,b+1,l,rfl,by go_num,by omega,HSK4,HSW,HHX,HD5⟩
             case measure=>simp [intOf];omega
           ·obtain rfl:b=m+1:=by omega
            have gb:decide (((m+1:Nat):Int)≤(m:Int))=false:=by simp;omega
            have gb2:decide (m+1≤m)=false:=by simp
            have gb3:decide ((m:Int)+1≤(m:Int))=false:=by simp;omega
            have HNX:=Lib.hid (HSW.out.next HHX.out HI.out HAF.out (fun b' hb'=>HDN.out b' (by have:=HSC.out b' hb';omega) hb') HDD.out)
            clear hbm hb
            go_wp2
            go_roundw
            case rel=>exact ⟨false,more,a+1,l,rfl,rfl,by go_num,by omega,HSK,HNX⟩
            case measure=>simp [intOf];omega
      ·obtain rfl:m=a:=by omega
       clear hlt ha
       have HSWM:=Lib.hid (show Swp (fns rs) r.fn l more dp c1 r.fn.code.length by rw [← HM.out];exact HSW.out)
       go_wp2
       go_roundg (gk-1)
       case measure=>omega
       case rel=>exact ⟨dp,more,l,rfl,rfl,(fun h=>by have:=HSWM.out.less h;omega),HSK,Lib.hid ⟨_,_,_,HSWM.out⟩,Lib.hid (fun h=>by subst h;exact ⟨_,HSWM.out⟩)⟩
end Go.Proofs.Ytgekmjkfnhogkaa.Q
