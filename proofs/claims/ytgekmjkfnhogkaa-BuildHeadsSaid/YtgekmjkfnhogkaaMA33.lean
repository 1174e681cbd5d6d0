/-
  Texts of one seat, one behind the other: QKRckW, BHn, BHm, BHy.
-/
import Derived.Test.YtgekmjkfnhogkaaMA30
import Derived.Test.YtgekmjkfnhogkaaMA31
import Derived.Test.YtgekmjkfnhogkaaMA14
import Derived.Test.YtgekmjkfnhogkaaMA32
import Derived.Test.YtgekmjkfnhogkaaMA27
import Derived.Test.YtgekmjkfnhogkaaMA28
import Derived.Test.YtgekmjkfnhogkaaMA6
import Derived.Test.YtgekmjkfnhogkaaMA15

set_option linter.unusedVariables false
set_option linter.unusedSimpArgs false
set_option maxRecDepth 100000
set_option maxHeartbeats 51200000
namespace Go.Proofs.Ytgekmjkfnhogkaa.Q
open Go.ChangeShapes Go.WideShapes Go.ChangeAt Go.RowKit
theorem info_strs:(Try.prog.info? 89).map (fun i=>(i.zero,i.size,i.bytes))=some (some (.slice none 0 0),1,24):=by kernel_rfl
theorem app_strs {w:World} {ops:Array Oper} {rest:List Oper} {o:Oper} {a:Act} {Q:Exit→Act→World→Prop} (hgd:o.guard=none) (s x:Operand)
  (ho:o.op=.call { callee:=.builtin .append,args:=#[s,x],argTypes:=#[34,34] }) (base:Nat)
  (v:Value) (n:Nat) (xs:List Value) (hs:a.eval s=v) (hown:w.ownsRow base 89 1 v n xs)
  (B:Nat) (A:Option Addr) (m c:Nat) (news:List Value) (hx:a.eval x=.slice A m c) (hr:Reads w B 1 A m news) (h1:∀ u ∈ news,u.oneCell'=true)
  (hbytes:(n+m)*24≤140737488355328) (hbase:base≤w.heap.size)
  (h:∀ v' w',w'.ownsRow base 89 1 v' (n+m) (xs ++ news)→w.grownBy w' v.ownBlock→(v'.ownBlock=v.ownBlock∨v'.ownBlock=some w.heap.size)→wpList Try.prog ops Q rest (a.put o.dst v') w'):wpList Try.prog ops Q (o :: rest) a w:=by
 obtain ⟨i0,hi,hz0,hz1,hz2⟩:=info_parts info_strs
 exact wpList_append_any w hgd s x _ ho base 89 i0 (.slice none 0 0) 1 24 Try.underlying34 hi hz0 hz1 hz2 rfl (by decide) v n xs hs hown B A m c news hx hr h1 (by unfold maxLen;omega) hbytes hbase h
def RowAt (base:Nat) (w:World) (l:List (Option Stk)) (v:Value):Prop:=∃ a k c,v=.slice a k c∧k=l.length∧w.ownsRow base 9 1 (.slice a k c) k (rowO l)
def RckP (w:World) (n:Nat) (fs:List Fn) (e:Ending) (w':World):Prop:=Below w.heap.size w w' ∧
 ((verd fs≠0∧e=.returned (.tuple #[.slice none 0 0,.int .i64 (verd fs)])) ∨
  (verd fs=0∧∃ A c ls vs,e=.returned (.tuple #[.slice A n c,.int .i64 0])∧w'.ownsRow w.heap.size 89 1 (.slice A n c) n vs∧vs.length=n∧(∀ (j:Nat) l,ls[j]?=some l→∃ v,vs[j]?=some v∧RowAt w.heap.size w' l v)∧Sols fs fs ls))
def DeepF (fs:List Fn) (f:Fn):Prop:=∃ a s,Reach fs f a s∧16<s.length
structure RckI (w:World) (A:Option Addr) (n c:Nat) (fs:List Fn) (k:Nat) (ls:List (List (Option Stk))) (vs:List Value) (d:Bool) (A':Option Addr) (c':Nat) (wr:World):Prop where
 box:Blk wr w.heap.size 24 #[.slice A n c]
 own:wr.ownsRow w.heap.size 89 1 (.slice A' k c') k vs
 below:Below w.heap.size w wr
 lls:ls.length=k
 lvs:vs.length=k
 rows:∀ (j:Nat) l,ls[j]?=some l→∃ v,vs[j]?=some v∧RowAt w.heap.size wr l v
 sols:∀ (j:Nat) f,j<k→fs[j]?=some f→∃ l,ls[j]?=some l∧Sol fs f l
 deep:d=true↔∃ (j:Nat) (f:Fn),j<k∧fs[j]?=some f∧DeepF fs f
section
variable {w wr w2 w8:World} {A A':Option Addr} {n c c' k:Nat} {fs:List Fn} {ls:List (List (Option Stk))} {vs:List Value} {d:Bool} {l:List (Option Stk)} {v v8:Value} {f:Fn}
theorem RowAt.kept {base:Nat} (h:RowAt base wr l v) (hk:∀ (u:Value) (q:Nat) (xs:List Value),wr.ownsRow base 9 1 u q xs→w2.ownsRow base 9 1 u q xs):RowAt base w2 l v:=by
 obtain ⟨a,q,e,h1,h2,h3⟩:=h
 exact ⟨a,q,e,h1,h2,hk _ _ _ h3⟩
theorem RckI.on (h:RckI w A n c fs k ls vs d A' c' wr) (hb:Below wr.heap.size wr w2):RckI w A n c fs k ls vs d A' c' w2 :=
 ⟨h.box.below hb h.box.lt,own_kept h.own (fun i hi=>hb.block i (own_lt h.own hi).2),h.below.trans (hb.mono h.below.size),h.lls,h.lvs,fun j l hl=>by
  obtain ⟨v,h1,h2⟩:=h.rows j l hl
  exact ⟨v,h1,h2.kept fun u q xs ho=>own_kept ho fun i hi=>hb.block i (own_lt ho hi).2⟩,h.sols,h.deep⟩
theorem RckI.push (h:RckI w A n c fs k ls vs d A' c' wr) (o:Obj) (hv:RowAt w.heap.size wr l v) (hown:w8.ownsRow w.heap.size 89 1 v8 (k+1) (vs ++ [v])) (hg:(wr.alloc o).grownBy w8 (Value.slice A' k c').ownBlock) (hf:fs[k]?=some f) (hS:Sol fs f l) {d2:Bool} (hd:d2=true↔DeepF fs f) :
  ∃ A8 c8,v8=.slice A8 (k+1) c8∧RckI w A n c fs (k+1) (ls ++ [l]) (vs ++ [v]) (d || d2) A8 c8 w8:=by
 obtain ⟨A8,c8,rfl⟩:=own_slice hown
 have h0:=h.on (w2:=wr.alloc o) ((Below.refl _ _).alloc (Nat.le_refl _) o)
 have hstr:∀ (u:Value) (q:Nat) (xs:List Value),(wr.alloc o).ownsRow w.heap.size 9 1 u q xs→w8.ownsRow w.heap.size 9 1 u q xs:=fun u q xs ho=>own_grown h0.own ho hg (by decide)
 have hv8:RowAt w.heap.size w8 l v:=hv.kept fun u q xs ho=>hstr u q xs (own_al ho o)
 refine ⟨A8,c8,rfl,⟨?_,hown,?_,by simp [h.lls],by simp [h.lvs],fun j l' hl=>?_,fun j f' hj hf'=>?_,?_⟩⟩
 ·exact h0.box.grown hg (fun e=>own_blk_ne h0.own h0.box (by decide) e.symm)
 ·exact h0.below.grown hg h0.below.size (fun i hi=>(own_lt h0.own hi).1)
 ·rw [List.getElem?_append] at hl
  split at hl
  ·obtain ⟨v',h1,h2⟩:=h0.rows j l' hl
   exact ⟨v',by rw [List.getElem?_append_left (by have:=(List.getElem?_eq_some_iff.1 h1).1;exact this)];exact h1,h2.kept hstr⟩
  ·rename_i hj
   have hj0:j-ls.length=0:=by
    have:=(List.getElem?_eq_some_iff.1 hl).1
    simp at this;exact this
   rw [hj0] at hl
   simp at hl
   subst hl
   have hlv:vs.length=j:=by have:=h.lls;have:=h.lvs;omega
   exact ⟨v,by rw [List.getElem?_append_right (by omega),hlv,Nat.sub_self];rfl,hv8⟩
 ·rcases Nat.lt_succ_iff_lt_or_eq.1 hj with hlt | rfl
  ·obtain ⟨l',h1,h2⟩:=h.sols j f' hlt hf'
   exact ⟨l',by rw [List.getElem?_append_left (by have:=(List.getElem?_eq_some_iff.1 h1).1;exact this)];exact h1,h2⟩
  ·rw [hf] at hf'
   injection hf' with hf'
   subst hf'
   exact ⟨l,by rw [List.getElem?_append_right (by rw [h.lls];exact Nat.le_refl _),h.lls,Nat.sub_self];rfl,hS⟩
 ·rw [Bool.or_eq_true,h.deep,hd]
  constructor
  ·rintro (⟨j,f',h1,h2,h3⟩ | h3)
   ·exact ⟨j,f',by omega,h2,h3⟩
   ·exact ⟨k,f,by omega,hf,h3⟩
  ·rintro ⟨j,f',h1,h2,h3⟩
   rcases Nat.lt_succ_iff_lt_or_eq.1 h1 with hlt | rfl
   ·exact .inl ⟨j,f',hlt,h2,h3⟩
   ·rw [hf] at h2
    injection h2 with h2
    subst h2
    exact .inr h3
theorem RckI.deepAll (h:RckI w A n c fs n ls vs d A' c' wr) (hn:fs.length=n):d=true↔Deep fs:=by
 rw [h.deep]
 constructor
 ·rintro ⟨j,f',h1,h2,a,s,h3,h4⟩
  exact ⟨f',List.mem_of_getElem? h2,a,s,h3,h4⟩
 ·rintro ⟨f',hf',a,s,h3,h4⟩
  obtain ⟨j,hj,he⟩:=List.getElem_of_mem hf'
  exact ⟨j,f',by omega,by rw [List.getElem?_eq_getElem hj,he],a,s,h3,h4⟩
theorem RckI.solsAll (h:RckI w A n c fs n ls vs d A' c' wr) (hn:fs.length=n):Sols fs fs ls :=
 ⟨by rw [h.lls,hn],fun k f hf=>h.sols k f (by have:=(List.getElem?_eq_some_iff.1 hf).1;omega) hf⟩
end
theorem verd_deep_ {fs:List Fn} (h:okP fs=true) (hb:bnd fs=true) (hr:refB fs=true) (hf:∀ f ∈ fs,Fine fs f) (hd:Deep fs):verd fs=31:=by
 unfold verd;rw [if_neg (by simp [h]),if_neg (by simp [hb]),if_neg (by simp [hr]),if_neg (fun hn=>hn hf),if_pos hd]
theorem verd_ok_ {fs:List Fn} (h:okP fs=true) (hb:bnd fs=true) (hr:refB fs=true) (hf:∀ f ∈ fs,Fine fs f) (hd:¬ Deep fs):verd fs=0:=by
 unfold verd;rw [if_neg (by simp [h]),if_neg (by simp [hb]),if_neg (by simp [hr]),if_neg (fun hn=>hn hf),if_neg hd]
theorem names_is (B n c:Nat) (A:Option Addr) (rs:List Raw) (r:Raw) (b:Bool) (w:World) (hp:RdP w B A n rs) (hf:RdF w B r) (hw:WfF r.fn) (hB:B≤w.heap.size) (hokf:okF r.fn=true) (hb:namB (fns rs) r.fn=b) :
  Calls Try.prog 19 #[.agg #[.slice A n c],.agg #[.int .i64 r.fn.params,.slice r.lo r.fn.locals.length r.lc,.bool r.fn.result,.int .i64 r.fn.keep,.slice r.co r.fn.code.length r.cc]] w fun e w'=>e=.returned (.bool b)∧Below w.heap.size w w':=by rw [← hb];exact names_any B n c A rs r w hp hf hw hB hokf

theorem rcheck_any (B:Nat) (A:Option Addr) (n c:Nat) (rs:List Raw) (w:World) (h:RdP w B A n rs) (hB:B≤w.heap.size) :
  Calls Try.prog 10 #[.agg #[.slice A n c]] w (RckP w n (fns rs)):=by
 have hlen:=h.len
 have HX0:Hid (Blk (w.alloc (.cells #[.slice A n c] 24)) w.heap.size 24 #[.slice A n c]):=Lib.hid (Blk.new w _ _)
 have HB0:Hid (Below w.heap.size w (w.alloc (.cells #[.slice A n c] 24))):=Lib.hid ((Below.refl _ _).alloc (Nat.le_refl _) _)
 have H1:Hid (RdP (w.alloc (.cells #[.slice A n c] 24)) B A n rs):=Lib.hid (h.alloc hB _)
 have HLEN:=Lib.hid hlen
 have HLF:Hid ((fns rs).length=n):=Lib.hid (by rw [length_fns,hlen])
 obtain ⟨v,HV⟩:∃ v,Hid (v=verd (fns rs)):=⟨_,Lib.hid rfl⟩
 have HNO:Hid (∀ W,Below w.heap.size w W→v≠0→RckP w n (fns rs) (.returned (.tuple #[.slice none 0 0,.int .i64 v])) W):=Lib.hid fun W hW hv=>⟨hW,.inl ⟨by rw [← HV.out];exact hv,by rw [HV.out]⟩⟩
 obtain ⟨ok,HOK⟩:∃ ok,Hid (okP (fns rs)=ok):=⟨_,Lib.hid rfl⟩
 obtain ⟨bb,HBB⟩:∃ bb,Hid (bnd (fns rs)=bb):=⟨_,Lib.hid rfl⟩
 have HE:Hid (Calls Try.prog 17 #[.agg #[.slice A n c]] (w.alloc (.cells #[.slice A n c] 24)) fun e w'=>∃ A2 k2 c2,e=.returned (.tuple #[.slice A2 k2 c2,.bool ok])∧Below (w.alloc (.cells #[.slice A n c] 24)).heap.size (w.alloc (.cells #[.slice A n c] 24)) w'):=Lib.hid ((bytes_any B A n c rs _ H1.out (by simp;omega)).mono fun e w' ⟨A2,k2,c2,he,_,_,hb⟩=>⟨A2,k2,c2,by rw [he,HOK.out],hb⟩)
 have H:=Lib.hid h
 clear h hlen
 cases ok with
 | false =>
  have HVV:=Lib.hid (HV.out.trans (verd_form HOK.out))
  go_enter Try.func10,Try.ntmps10
  go_wp2_with (go_at_call 17;refine HE.out.mono ?_;rintro e w2 ⟨A2,k2,c2,rfl,hb2⟩;have HB2:=Lib.hid hb2;clear hb2)
  go_ret2
  have:=HNO.out _ (HB0.out.trans (HB2.out.mono (by simp))) (by rw [HVV.out];decide)
  rw [HVV.out] at this
  exact this
 | true =>
 cases bb with
 | false =>
  have HVV:=Lib.hid (HV.out.trans (verd_big HOK.out HBB.out))
  go_enter Try.func10,Try.ntmps10
  go_wp2_with (go_at_call 17;refine HE.out.mono ?_;rintro e w2 ⟨A2,k2,c2,rfl,hb2⟩;have HB2:=Lib.hid hb2;have x2:w2.cell? ⟨w.heap.size,0,none⟩=some (.slice A n c):=(HX0.out.below hb2 (by simp)).cell 0;clear hb2;refine Hid.out ?_)
  have HR2:=Lib.hid (H1.out.below (HB2.out.mono (by simp;omega)))
  have hz2:w.heap.size<w2.heap.size:=by have:=HB2.out.size;simp at this;omega
  have HBN:=Lib.hid (rbounded_any B A n c rs w2 HR2.out (by omega))
  rw [HBB.out] at HBN
  refine Lib.hid ?_
  go_wp2_with (go_at_call 18;refine HBN.out.mono ?_;rintro e w3 ⟨rfl,hb3⟩;have HB3:=Lib.hid hb3;clear hb3)
  go_ret2
  have:=HNO.out _ (HB0.out.trans ((HB2.out.mono (by simp)).trans (HB3.out.mono (by omega)))) (by rw [HVV.out];decide)
  rw [HVV.out] at this
  exact this
 | true =>
 obtain ⟨l0,l1,HOKF⟩:=okP_iff.1 HOK.out
 rw [HLF.out] at l0 l1
 have HOKF:=Lib.hid HOKF
 obtain ⟨mb,HMB⟩:∃ mb,Hid (mainB (fns rs)=mb):=⟨_,Lib.hid rfl⟩
 go_enter Try.func10,Try.ntmps10
 go_wp2_with (go_at_call 17;refine HE.out.mono ?_;rintro e w2 ⟨A2,k2,c2,rfl,hb2⟩;have HB2:=Lib.hid hb2;have x2:w2.cell? ⟨w.heap.size,0,none⟩=some (.slice A n c):=(HX0.out.below hb2 (by simp)).cell 0;clear hb2;refine Hid.out ?_)
 have HR2:=Lib.hid (H1.out.below (HB2.out.mono (by simp;omega)))
 have hz2:w.heap.size<w2.heap.size:=by have:=HB2.out.size;simp at this;omega
 have HBN:=Lib.hid (rbounded_any B A n c rs w2 HR2.out (by omega))
 rw [HBB.out] at HBN
 refine Lib.hid ?_
 go_wp2_with (go_at_call 18;refine HBN.out.mono ?_;rintro e w3 ⟨rfl,hb3⟩;have HB3:=Lib.hid hb3;clear hb3;refine Hid.out ?_)
 have hz3:w.heap.size<w3.heap.size:=by have:=HB3.out.size;omega
 have HW3:Hid (Below w.heap.size w w3):=Lib.hid (HB0.out.trans ((HB2.out.mono (by simp)).trans (HB3.out.mono (by omega))))
 have hx3:Blk w3 w.heap.size 24 #[.slice A n c]:=(HX0.out.below HB2.out (by simp)).below HB3.out hz2
 have x3:w3.cell? ⟨w.heap.size,0,none⟩=some (.slice A n c):=hx3.cell 0
 have HX3:=Lib.hid hx3
 obtain ⟨ba,off,r,hA,hba,HX,HRF,HWF,y0,y1,y2,y3,y4⟩:=(H.out.below (HW3.out.mono hB)).fn (k:=0) l0
 simp only [Nat.zero_mul,Nat.add_zero] at y0 y1 y2 y3 y4
 have hbw:ba<w3.heap.size:=by omega
 have HMBV:Hid (mb=(decide (r.fn.params≤0) && !r.fn.result)):=Lib.hid (by
  have hq:(fns rs)[0]?=some r.fn:=by unfold fns;rw [List.getElem?_map,HX.out];rfl
  rw [← HMB.out]
  cases hf:fns rs with
  | nil=>rw [hf] at hq;cases hq
  | cons f0 fs' =>
   rw [hf] at hq
   have:f0=r.fn:=by simpa using hq
   subst this
   rfl)
 have hp0:0≤r.fn.params:=by
  have hq:(fns rs)[0]?=some r.fn:=by unfold fns;rw [List.getElem?_map,HX.out];rfl
  exact (okF_iff.1 (HOKF.out r.fn (List.mem_of_getElem? hq))).2.2.1
 obtain ⟨p0,hp⟩:∃ p0,r.fn.params=p0:=⟨_,rfl⟩
 obtain ⟨r0,hr0⟩:∃ r0,r.fn.result=r0:=⟨_,rfl⟩
 rw [hp,hr0] at HMBV
 rw [hp] at y0 hp0
 rw [hr0] at y2
 have HAA:=Lib.hid hA
 clear x2 hx3 y1 y3 y4 hp hr0 HX HRF HWF HBN
 rw [hA] at x3
 by_cases c1:p0=0
 rotate_left
 ·have g1:(p0 == 0)=false:=by simpa using c1
  have g2:(p0 != 0)=true:=by simpa using c1
  have HVV:=Lib.hid (HV.out.trans (main_no HOK.out HBB.out (by rw [HMB.out,HMBV.out,decide_eq_false (by omega)];rfl)))
  clear hA
  refine Lib.hid ?_
  go_wp2
  go_ret2
  have:=HNO.out _ HW3.out (by rw [HVV.out];decide)
  rw [HVV.out] at this
  exact this
 subst c1
 cases r0 with
 | true =>
  have HVV:=Lib.hid (HV.out.trans (main_no HOK.out HBB.out (by rw [HMB.out,HMBV.out];rfl)))
  clear hA
  refine Lib.hid ?_
  go_wp2
  go_ret2
  have:=HNO.out _ HW3.out (by rw [HVV.out];decide)
  rw [HVV.out] at this
  exact this
 | false =>
 have HMT:Hid (mainB (fns rs)=true):=Lib.hid (by rw [HMB.out,HMBV.out];rfl)
 have hl1:n≤100000:=by omega
 clear HMBV HMB hA
 refine Lib.hid ?_
 go_wp2
 go_loopw [41] (fun i wr=>∃ k:Nat,k≤n∧i=.int .i64 k∧Hid (((fns rs).take k).all (namB (fns rs))=true)∧Hid (Below w.heap.size w wr)∧Hid (Blk wr w.heap.size 24 #[.slice A n c])) (fun i _=>n-(intOf i).toNat)
 case atStart=>exact ⟨0,Nat.zero_le _,rfl,rfl,HW3,HX3⟩
 case round =>
  clear x3 y0 y2 hbw hba
  obtain ⟨k,hk,rfl,HT,HB,HXP⟩:=hrel
  have hz:=HXP.out.lt
  by_cases hlt:k<n
  ·obtain ⟨ba',off',s,hA',hb',HS,HSF,HSW,x0,x1,x2,x3,x4⟩:=(H.out.below (HB.out.mono hB)).fn hlt
   obtain ⟨rfl,rfl⟩:ba=ba'∧off=off':=by rw [HAA.out] at hA';injection hA' with hA';injection hA' with h1 h2;exact ⟨h1,h2⟩
   clear hA'
   have hbr:ba<wr.heap.size:=by omega
   have HFN:Hid ((fns rs)[k]?=some s.fn):=Lib.hid (by unfold fns;rw [List.getElem?_map,HS.out];rfl)
   have HOF:=Lib.hid (HOKF.out s.fn (List.mem_of_getElem? HFN.out))
   have hpb:=HXP.out.alloc (.cells #[.int .i64 s.fn.params,.slice s.lo s.fn.locals.length s.lc,.bool s.fn.result,.int .i64 s.fn.keep,.slice s.co s.fn.code.length s.cc] 41)
   have e0:=hpb.cell 0
   have HX1:=Lib.hid hpb
   have HB1:Hid (Below w.heap.size w (wr.alloc (.cells #[.int .i64 s.fn.params,.slice s.lo s.fn.locals.length s.lc,.bool s.fn.result,.int .i64 s.fn.keep,.slice s.co s.fn.code.length s.cc] 41))):=Lib.hid (HB.out.alloc (by omega) _)
   obtain ⟨q,HQ⟩:∃ q,Hid (namB (fns rs) s.fn=q):=⟨_,Lib.hid rfl⟩
   have HC1:=Lib.hid (names_is B n c A rs s q _ (H.out.below (HB1.out.mono hB)) (HSF.out.keep fun p hp=>World.cell?_alloc_lt wr (.cells #[.int .i64 s.fn.params,.slice s.lo s.fn.locals.length s.lc,.bool s.fn.result,.int .i64 s.fn.keep,.slice s.co s.fn.code.length s.cc] 41) p (by omega)) HSW.out (by simp;omega) HOF.out HQ.out)
   clear hpb
   cases q with
   | false =>
    have HVV:=Lib.hid (HV.out.trans (names_no HOK.out HBB.out HMT.out (List.mem_of_getElem? HFN.out) HQ.out))
    go_wp2_with (go_at_call 19;refine HC1.out.mono ?_;rintro e w4 ⟨rfl,hb4⟩;have HB4:=Lib.hid (HB1.out.trans (hb4.mono (by simp;omega)));clear hb4)
    go_ret2
    have:=HNO.out _ HB4.out (by rw [HVV.out];decide)
    rw [HVV.out] at this
    exact this
   | true =>
    have HT1:Hid (((fns rs).take (k+1)).all (namB (fns rs))=true):=Lib.hid (by rw [List.take_add_one,HFN.out,List.all_append,HT.out];simp [HQ.out])
    go_wp2_with (go_at_call 19;refine HC1.out.mono ?_;rintro e w4 ⟨rfl,hb4⟩;have HB4:=Lib.hid (HB1.out.trans (hb4.mono (by simp;omega)));have HX4:=Lib.hid (HX1.out.below hb4 (by simp;omega));clear hb4)
    go_roundw
    case rel=>exact ⟨k+1,by omega,by go_num,HT1,HB4,HX4⟩
    case measure=>simp [intOf];omega
  ·obtain rfl:n=k:=by omega
   clear hlt hk
   obtain ⟨HREF,HPOS⟩:=names_yes HOK.out HMT.out (by
    have h:=HT.out
    rw [List.take_of_length_le (by rw [HLF.out];exact Nat.le_refl _)] at h
    exact h)
   have HREF:=Lib.hid HREF
   have HPOS:=Lib.hid HPOS
   have HI0:Hid (RckI w A n c (fns rs) 0 [] [] false none 0 wr):=Lib.hid ⟨HXP.out,own_none _ _ _ _,HB.out,rfl,rfl,fun j l hl=>by simp at hl,fun j f hj=>by omega,by simp⟩
   have x5:wr.cell? ⟨w.heap.size,0,none⟩=some (.slice (some ⟨ba,off,none⟩) n c):=by rw [← HAA.out];exact HXP.out.cell 0
   clear HT HB HXP
   go_wp2
   go_loopw [8,9,53] (fun o dd i wr=>∃ (k:Nat) (ls:List (List (Option Stk))) (vs:List Value) (d:Bool) (A':Option Addr) (c':Nat),k≤n∧i=.int .i64 k∧o=.slice A' k c'∧dd=.bool d∧Hid (RckI w A n c (fns rs) k ls vs d A' c' wr)) (fun _ _ i _=>n-(intOf i).toNat)
   case atStart=>exact ⟨0,[],[],false,none,0,Nat.zero_le _,rfl,rfl,rfl,HI0⟩
   case round =>
    clear HI0 x5
    obtain ⟨k,ls,vs,d,A',c',hk,rfl,rfl,rfl,HI⟩:=hrel
    have hz:=HI.out.box.lt
    by_cases hlt:k<n
    ·obtain ⟨ba',off',s,hA',hb',HS,HSF,HSW,x0,x1,x2,x3,x4⟩:=(H.out.below (HI.out.below.mono hB)).fn hlt
     obtain ⟨rfl,rfl⟩:ba=ba'∧off=off':=by rw [HAA.out] at hA';injection hA' with hA';injection hA' with h1 h2;exact ⟨h1,h2⟩
     clear hA'
     have hbr:ba<wr.heap.size:=by omega
     have HFN:Hid ((fns rs)[k]?=some s.fn):=Lib.hid (by unfold fns;rw [List.getElem?_map,HS.out];rfl)
     have hmem:=List.mem_of_getElem? HFN.out
     have HI1:=Lib.hid (HI.out.on ((Below.refl _ _).alloc (Nat.le_refl _) (.cells #[.int .i64 s.fn.params,.slice s.lo s.fn.locals.length s.lc,.bool s.fn.result,.int .i64 s.fn.keep,.slice s.co s.fn.code.length s.cc] 41)))
     have e0:=HI1.out.box.cell 0
     have HC1:=Lib.hid (stacks_any B n c A rs s _ (H.out.below (HI1.out.below.mono hB)) (HSF.out.keep fun p hp=>World.cell?_alloc_lt wr (.cells #[.int .i64 s.fn.params,.slice s.lo s.fn.locals.length s.lc,.bool s.fn.result,.int .i64 s.fn.keep,.slice s.co s.fn.code.length s.cc] 41) p (by omega)) (by simp;omega) HOK.out (HOKF.out s.fn hmem) (fun i hi=>by
      have h1:=HREF.out
      unfold refB at h1
      rw [Bool.and_eq_true,List.all_eq_true] at h1
      have h2:=h1.2 s.fn hmem
      unfold fnRef at h2
      rw [Bool.and_eq_true,List.all_eq_true] at h2
      exact h2.2 i hi) (HPOS.out s.fn hmem) (bnd_code HBB.out s (by have h:=HS.out;exact List.mem_of_getElem? h)))
     have HC2:Hid (Calls Try.prog 20 #[.agg #[.slice A n c],.agg #[.int .i64 s.fn.params,.slice s.lo s.fn.locals.length s.lc,.bool s.fn.result,.int .i64 s.fn.keep,.slice s.co s.fn.code.length s.cc]] (wr.alloc (.cells #[.int .i64 s.fn.params,.slice s.lo s.fn.locals.length s.lc,.bool s.fn.result,.int .i64 s.fn.keep,.slice s.co s.fn.code.length s.cc] 41)) fun e w'=>∃ A2 m2 c2 d2 ok,e=.returned (.tuple #[.slice A2 m2 c2,.bool d2,.bool ok])∧Below (wr.alloc (.cells #[.int .i64 s.fn.params,.slice s.lo s.fn.locals.length s.lc,.bool s.fn.result,.int .i64 s.fn.keep,.slice s.co s.fn.code.length s.cc] 41)).heap.size (wr.alloc (.cells #[.int .i64 s.fn.params,.slice s.lo s.fn.locals.length s.lc,.bool s.fn.result,.int .i64 s.fn.keep,.slice s.co s.fn.code.length s.cc] 41)) w'∧((ok=false∧¬ Fine (fns rs) s.fn)∨(ok=true∧∃ l,Sol (fns rs) s.fn l∧(d2=true↔DeepF (fns rs) s.fn)∧RowAt w.heap.size w' l (.slice A2 m2 c2)))):=Lib.hid (HC1.out.mono fun e w' ⟨hb,hc⟩=>by
      rcases hc with ⟨he,hnf⟩ | ⟨A2,m2,c2,l,d2,he,hm2,hS,hd,ho⟩
      ·exact ⟨_,_,_,_,_,he,hb,.inl ⟨rfl,hnf⟩⟩
      ·exact ⟨_,_,_,_,_,he,hb,.inr ⟨rfl,l,hS,hd,_,_,_,rfl,by rw [hm2,hS.len],own_more ho (HI1.out.below.size)⟩⟩)
     have HMEM:=Lib.hid hmem
     clear hmem HC1
     go_wp2_with (go_at_call 20;refine HC2.out.mono ?_;rintro e w4 ⟨A2,m2,c2,d2,ok,rfl,hb4,hcase⟩;have HI4:=Lib.hid (HI1.out.on hb4);have HCS:=Lib.hid hcase;clear hb4 hcase;refine Hid.out ?_)
     have hz4:=HI4.out.box.lt
     clear HC2
     cases ok with
     | false =>
      have HVV:Hid (v=50):=Lib.hid (by
       rcases HCS.out with ⟨_,hnf⟩ | ⟨h,_⟩
       ·exact HV.out.trans (verd_fine HOK.out HBB.out HREF.out HMEM.out hnf)
       ·cases h)
      refine Lib.hid ?_
      go_wp2
      go_ret2
      have:=HNO.out _ HI4.out.below (by rw [HVV.out];decide)
      rw [HVV.out] at this
      exact this
     | true =>
      obtain ⟨l,HSOL⟩:∃ l,Hid (Sol (fns rs) s.fn l∧(d2=true↔DeepF (fns rs) s.fn)∧RowAt w.heap.size w4 l (.slice A2 m2 c2)):=by
       rcases HCS.out with ⟨h,_⟩ | ⟨_,l,h⟩
       ·cases h
       ·exact ⟨l,Lib.hid h⟩
      have HOA:=Lib.hid (own_al HI4.out.own (.cells [Value.slice A2 m2 c2].toArray 89))
      have HRD:=Lib.hid (one_reads w4 89 [.slice A2 m2 c2] 1 rfl)
      have hone:∀ u ∈ [Value.slice A2 m2 c2],u.oneCell'=true:=by
       intro u hu
       simp at hu
       subst hu
       rfl
      have HONE:=Lib.hid hone
      have hwz:w.heap.size≤w4.heap.size:=by omega
      have hkz:k≤255:=by omega
      obtain ⟨d3,HD3⟩:∃ d3,Hid (d3=(d || d2)):=⟨_,Lib.hid rfl⟩
      have hcase:(d=true∧d3=true)∨(d=false∧d2=d3):=by
       rw [HD3.out];cases d
       ·exact .inr ⟨rfl,rfl⟩
       ·exact .inl ⟨rfl,rfl⟩
      have HPU:Hid (∀ v8 w8,w8.ownsRow w.heap.size 89 1 v8 (k+1) (vs ++ [.slice A2 m2 c2])→(w4.alloc (.cells [Value.slice A2 m2 c2].toArray 89)).grownBy w8 (Value.slice A' k c').ownBlock→∃ A8 c8,v8=.slice A8 (k+1) c8∧RckI w A n c (fns rs) (k+1) (ls ++ [l]) (vs ++ [.slice A2 m2 c2]) d3 A8 c8 w8):=Lib.hid fun v8 w8 h1 h2=>by
       rw [HD3.out];exact HI4.out.push _ HSOL.out.2.2 h1 h2 HFN.out HSOL.out.1 HSOL.out.2.1
      clear hone HD3
      refine Lib.hid ?_
      rcases hcase with ⟨rfl,rfl⟩ | ⟨rfl,rfl⟩
      all_goals
       go_wp2_with (at_builtin;refine app_strs rfl _ _ rfl w.heap.size (.slice A' k c') k vs rfl HOA.out (w4.heap.size+1) (some ⟨w4.heap.size,0,none⟩) 1 1 [.slice A2 m2 c2] rfl HRD.out HONE.out (by omega) (by simp;omega) ?_;intro v8 w8 hown hgr _;obtain ⟨A8,c8,rfl,hI8⟩:=HPU.out _ _ hown hgr;have HI8:=Lib.hid hI8;clear hown hgr hI8;refine Hid.out ?_)
       refine Lib.hid ?_
       go_wp2
       go_roundw
       case rel=>exact ⟨k+1,_,_,_,A8,c8,by omega,by go_num,rfl,rfl,HI8⟩
       case measure=>simp [intOf];omega
    ·obtain rfl:n=k:=by omega
     clear hlt hk
     have HDD:=Lib.hid (HI.out.deepAll HLF.out)
     have HSS:=Lib.hid (HI.out.solsAll HLF.out)
     cases d with
     | true =>
      have HVV:=Lib.hid (HV.out.trans (verd_deep_ HOK.out HBB.out HREF.out HSS.out.fine (HDD.out.1 rfl)))
      clear HDD
      go_wp2
      go_ret2
      have:=HNO.out _ HI.out.below (by rw [HVV.out];decide)
      rw [HVV.out] at this
      exact this
     | false =>
      have HVV:=Lib.hid (verd_ok_ HOK.out HBB.out HREF.out HSS.out.fine (fun h=>by have:=HDD.out.2 h;cases this))
      clear HDD
      go_wp2
      go_ret2
      exact ⟨HI.out.below,.inr ⟨HVV.out,A',c',ls,vs,rfl,HI.out.own,HI.out.lvs,HI.out.rows,HSS.out⟩⟩
end Go.Proofs.Ytgekmjkfnhogkaa.Q
namespace Go.Proofs.Ytgekmjkfnhogkaa
open Go.ChangeShapes Go.WideShapes Go.ChangeAt Go.RowKit
theorem Q.CpR.rd {w w':World} {n c:Nat} {A A':Option Addr} {rs rs':List Q.Raw} {W:World} {B:Nat} (h:Q.CpR w n (Q.fns rs) A c rs' w') (h0:Q.RdP W B A' n rs):Q.RdP w' w'.heap.size A n rs':=by
 refine ⟨Reads.of_own h.own,?_,fun r hr=>(h.each r hr).rdF,fun r hr=>?_,h0.sz⟩
 ·rw [← Q.length_fns,h.eq,Q.length_fns,h0.len]
 ·have:r.fn ∈ Q.fns rs:=by rw [← h.eq];exact List.mem_map_of_mem hr
  obtain ⟨r0,h1,h2⟩:=List.mem_map.1 this
  rw [← h2]
  exact h0.wf r0 h1
theorem heads_no (A:Option Addr) (n c:Nat) (rs:List Q.Raw) (w:World) (h:Q.RdP w w.heap.size A n rs) (hv0:Q.verd (Q.fns rs)≠0) :
  Calls Try.prog 3 #[.agg #[.slice A n c]] w fun e w'=>e=.returned (.bool true)∧Below w.heap.size w w':=by
 have HX0:Hid (Blk (w.alloc (.cells #[.slice A n c] 24)) w.heap.size 24 #[.slice A n c]):=Lib.hid (Blk.new w _ _)
 have HB0:Hid (Below w.heap.size w (w.alloc (.cells #[.slice A n c] 24))):=Lib.hid ((Below.refl _ _).alloc (Nat.le_refl _) _)
 have H:=Lib.hid h
 have HNZ:=Lib.hid hv0
 clear h hv0
 go_enter Try.func3,Try.ntmps3
 go_wp2_with (go_at_call 6;refine (bfirst_any _).mono ?_;rintro e w1 ⟨rfl,hb1⟩;refine Hid.out ?_)
 have HB1:Hid (Below w.heap.size w w1):=Lib.hid (HB0.out.trans (hb1.mono (by simp)))
 have HX1:=Lib.hid (HX0.out.below hb1 (by simp))
 have x1:w1.cell? ⟨w.heap.size,0,none⟩=some (.slice A n c):=HX1.out.cell 0
 have hz1:w.heap.size<w1.heap.size:=HX1.out.lt
 have HR1:=Lib.hid (H.out.below HB1.out)
 have HCP:=Lib.hid (Q.rcopy_any w.heap.size A n c rs w1 HR1.out (by omega))
 clear hb1 HX0 HB0
 refine Lib.hid ?_
 go_wp2_with (go_at_call 7;refine HCP.out.mono ?_;rintro e w2 ⟨A2,c2,rs2,rfl,hcp⟩;have HCR:=Lib.hid hcp;have x2:w2.cell? ⟨w.heap.size,0,none⟩=some (.slice A n c):=(HX1.out.below hcp.below hz1).cell 0;clear hcp;refine Hid.out ?_)
 have hz2:w1.heap.size≤w2.heap.size:=HCR.out.below.size
 have hz12:w.heap.size<w2.heap.size:=by omega
 have HB2:Hid (Below w.heap.size w w2):=Lib.hid (HB1.out.trans (HCR.out.below.mono (by omega)))
 have HX2:=Lib.hid (HX1.out.below HCR.out.below hz1)
 have HEQ:Hid (Q.fns rs2=Q.fns rs):=Lib.hid HCR.out.eq
 have HX3:Hid (Blk (w2.alloc (.cells #[.slice A2 n c2] 24)) w.heap.size 24 #[.slice A n c]):=Lib.hid (HX2.out.alloc _)
 have HY3:Hid (Blk (w2.alloc (.cells #[.slice A2 n c2] 24)) w2.heap.size 24 #[.slice A2 n c2]):=Lib.hid (Blk.new w2 _ _)
 have HB3:Hid (Below w.heap.size w (w2.alloc (.cells #[.slice A2 n c2] 24))):=Lib.hid (HB2.out.alloc (by omega) _)
 have HR3:=Lib.hid (H.out.below HB3.out)
 have HQ3:=Lib.hid (((HCR.out.rd HR1.out).alloc (Nat.le_refl _) (.cells #[.slice A2 n c2] 24)))
 have HBU:=Lib.hid (build_any w.heap.size A n c rs _ HR3.out (by simp;omega))
 clear x1 HCP
 obtain ⟨v,hv⟩:∃ v,v=Q.verd (Q.fns rs):=⟨_,rfl⟩
 have hvz:v≠0:=by rw [hv];exact HNZ.out
 have HV:=Lib.hid hv
 clear hv
 have HC2:Hid (Calls Try.prog 8 #[.agg #[.slice A n c]] (w2.alloc (.cells #[.slice A2 n c2] 24)) fun e w'=>e=.returned (.tuple #[.agg #[.slice none 0 0],.int .i64 v])∧Below (w2.alloc (.cells #[.slice A2 n c2] 24)).heap.size (w2.alloc (.cells #[.slice A2 n c2] 24)) w'):=Lib.hid (HBU.out.mono fun e w' ⟨hb,hc⟩=>by
  rcases hc with ⟨_,he⟩ | ⟨h0,_⟩
  ·exact ⟨by rw [he,HV.out],hb⟩
  ·exact absurd h0 HNZ.out)
 have g1:(v == 0)=false:=by simpa using hvz
 have g2:(v != 0)=true:=by simpa using hvz
 clear hvz HBU
 refine Lib.hid ?_
 go_wp2_with (go_at_call 8;refine HC2.out.mono ?_;rintro e w4 ⟨rfl,hb4⟩;have HB4:=Lib.hid hb4;clear hb4;refine Hid.out ?_)
 obtain ⟨W5,hW5⟩:∃ x,x=w4.alloc (.cells #[.slice none 0 0] 29):=⟨_,rfl⟩
 have hz4:w2.heap.size+1≤w4.heap.size:=by have:=HB4.out.size;simp at this;exact this
 have HG5:Hid (Blk W5 w4.heap.size 29 #[.slice none 0 0]):=Lib.hid (by rw [hW5];exact Blk.new _ _ _)
 have HB5:Hid (Below (w2.heap.size+1) (w2.alloc (.cells #[.slice A2 n c2] 24)) W5):=Lib.hid (by rw [hW5];exact (HB4.out.mono (by simp)).alloc hz4 _)
 have HX5:=Lib.hid (HX3.out.below HB5.out (by omega))
 have HY5:=Lib.hid (HY3.out.below HB5.out (by omega))
 have HBW:Hid (Below w.heap.size w W5):=Lib.hid (HB3.out.trans (HB5.out.mono (by omega)))
 have hz5:w4.heap.size<W5.heap.size:=HG5.out.lt
 have HR5:=Lib.hid (H.out.below HBW.out)
 have HQ5:=Lib.hid (HQ3.out.below (HB5.out.mono (by omega)))
 have HSM:Hid (Calls Try.prog 9 #[.agg #[.slice A n c],.agg #[.slice A2 n c2]] W5 fun e w'=>e=.returned (.bool true)∧Below W5.heap.size W5 w'):=Lib.hid (by
  have h:=Q.rsame_any w2.heap.size A A2 n n c c2 rs rs2 W5 (HR5.out.more (by omega)) HQ5.out (by omega)
  rw [HEQ.out,decide_eq_true rfl] at h
  exact h)
 have y0:W5.cell? ⟨w.heap.size,0,none⟩=some (.slice A n c):=HX5.out.cell 0
 have y1:W5.cell? ⟨w2.heap.size,0,none⟩=some (.slice A2 n c2):=HY5.out.cell 0
 clear x2 HC2
 refine Lib.hid ?_
 go_upto_region 5 with fail
 rw [← hW5]
 clear hW5
 go_wp2_with (go_at_call 9;refine HSM.out.mono ?_;rintro e w6 ⟨rfl,hb6⟩;have HB6:=Lib.hid hb6;clear hb6;refine Hid.out ?_)
 have HX6:=Lib.hid (HX5.out.below HB6.out (by omega))
 have HG6:=Lib.hid (HG5.out.below HB6.out (by omega))
 have hz6:=HB6.out.size
 have HRK:Hid (Calls Try.prog 10 #[.agg #[.slice A n c]] w6 fun e w'=>e=.returned (.tuple #[.slice none 0 0,.int .i64 v])∧Below w6.heap.size w6 w'):=Lib.hid ((Q.rcheck_any w.heap.size A n c rs w6 (HR5.out.below (HB6.out.mono (by omega))) (by omega)).mono fun e w' ⟨hb,hc⟩=>by
  rcases hc with ⟨_,he⟩ | ⟨h0,_⟩
  ·exact ⟨by rw [he,HV.out],hb⟩
  ·exact absurd h0 HNZ.out)
 have x6:w6.cell? ⟨w.heap.size,0,none⟩=some (.slice A n c):=HX6.out.cell 0
 clear y0 y1 HSM
 refine Lib.hid ?_
 go_wp2_with (go_at_call 10;refine HRK.out.mono ?_;rintro e w7 ⟨rfl,hb7⟩;have y7:w7.cell? ⟨w4.heap.size,0,none⟩=some (.slice none 0 0):=(HG6.out.below hb7 HG6.out.lt).cell 0;have HB7:=Lib.hid hb7;clear hb7)
 go_ret
 exact ⟨rfl,HBW.out.trans ((HB6.out.mono (by omega)).trans (HB7.out.mono (by omega)))⟩
variable {fs:List Q.Fn} {f:Q.Fn} {l:List (Option Q.Stk)}
theorem FnM.h_params (h:FnM fs f l):((graphB fs f l).params.length:Int)=f.params:=by
 have hp:=h.p0
 show (((List.range f.params.toNat).map fun (j:Nat)=>(j:Int)).length:Int)=_
 simp
 omega
theorem FnM.h_param (h:FnM fs f l) {k:Nat} (hk:k<(graphB fs f l).params.length):(graphB fs f l).params[k]?=some (k:Int):=by
 have hk':k<f.params.toNat:=by
  have:k<((List.range f.params.toNat).map fun (j:Nat)=>(j:Int)).length:=hk
  simpa using this
 show ((List.range f.params.toNat).map fun (j:Nat)=>(j:Int))[k]?=_
 simp [hk']
theorem FnM.h_nodes (h:FnM fs f l):(graphB fs f l).nodes.length≤f.code.length+20:=by
 have hlen:=h.sol.len
 rw [graphB_nodes h]
 have:cntB l l.length≤l.length:=by
  unfold cntB
  exact Nat.le_trans List.countP_le_length (by rw [List.length_take];omega)
 omega
theorem FnM.h_kind (h:FnM fs f l) {k:Nat} (hk:k<(graphB fs f l).params.length):k<f.locals.length∧(graphB fs f l).kinds[k]?=f.locals[k]?:=by
 have hp:=h.pl
 have h0:=h.h_params
 have hk':k<f.locals.length:=by omega
 refine ⟨hk',?_⟩
 show (f.locals ++ (List.replicate 16 [0,1]).flatten)[k]?=_
 rw [List.getElem?_append_left hk']
theorem FnM.h_keep (h:FnM fs f l):decide ((graphB fs f l).keep≥0)=decide (f.keep≥0):=by
 show decide ((if f.keep=-1 then (-1:Int) else (cellsB f l).1.getD f.keep.toNat 0)≥0)=_
 by_cases hk:f.keep=-1
 ·rw [if_pos hk,hk]
 ·rw [if_neg hk]
  have hc:=h.cells
  rcases h.kp with h1 | h1
  ·exact absurd h1 hk
  ·have h3:=numL_lt h1.2
   rcases hc.at_ f.keep.toNat (by rw [hc.len];omega) with h2 | ⟨h2,_,_⟩
   ·exact absurd h2 (h.kept hk)
   ·rw [decide_eq_true h2,decide_eq_true h1.1]
theorem heads_yes (A:Option Addr) (n c:Nat) (rs:List Q.Raw) (w:World) (h:Q.RdP w w.heap.size A n rs) (hv0:Q.verd (Q.fns rs)=0) :
  Calls Try.prog 3 #[.agg #[.slice A n c]] w fun e w'=>e=.returned (.bool true)∧Below w.heap.size w w':=by
 have HX0:Hid (Blk (w.alloc (.cells #[.slice A n c] 24)) w.heap.size 24 #[.slice A n c]):=Lib.hid (Blk.new w _ _)
 have HB0:Hid (Below w.heap.size w (w.alloc (.cells #[.slice A n c] 24))):=Lib.hid ((Below.refl _ _).alloc (Nat.le_refl _) _)
 have H:=Lib.hid h
 have HZ:=Lib.hid hv0
 clear h hv0
 go_enter Try.func3,Try.ntmps3
 go_wp2_with (go_at_call 6;refine (bfirst_any _).mono ?_;rintro e w1 ⟨rfl,hb1⟩;refine Hid.out ?_)
 have HB1:Hid (Below w.heap.size w w1):=Lib.hid (HB0.out.trans (hb1.mono (by simp)))
 have HX1:=Lib.hid (HX0.out.below hb1 (by simp))
 have x1:w1.cell? ⟨w.heap.size,0,none⟩=some (.slice A n c):=HX1.out.cell 0
 have hz1:w.heap.size<w1.heap.size:=HX1.out.lt
 have HR1:=Lib.hid (H.out.below HB1.out)
 have HCP:=Lib.hid (Q.rcopy_any w.heap.size A n c rs w1 HR1.out (by omega))
 clear hb1 HX0 HB0
 refine Lib.hid ?_
 go_wp2_with (go_at_call 7;refine HCP.out.mono ?_;rintro e w2 ⟨A2,c2,rs2,rfl,hcp⟩;have HCR:=Lib.hid hcp;have x2:w2.cell? ⟨w.heap.size,0,none⟩=some (.slice A n c):=(HX1.out.below hcp.below hz1).cell 0;clear hcp;refine Hid.out ?_)
 have hz2:w1.heap.size≤w2.heap.size:=HCR.out.below.size
 have hz12:w.heap.size<w2.heap.size:=by omega
 have HB2:Hid (Below w.heap.size w w2):=Lib.hid (HB1.out.trans (HCR.out.below.mono (by omega)))
 have HX2:=Lib.hid (HX1.out.below HCR.out.below hz1)
 have HEQ:Hid (Q.fns rs2=Q.fns rs):=Lib.hid HCR.out.eq
 have HX3:Hid (Blk (w2.alloc (.cells #[.slice A2 n c2] 24)) w.heap.size 24 #[.slice A n c]):=Lib.hid (HX2.out.alloc _)
 have HY3:Hid (Blk (w2.alloc (.cells #[.slice A2 n c2] 24)) w2.heap.size 24 #[.slice A2 n c2]):=Lib.hid (Blk.new w2 _ _)
 have HB3:Hid (Below w.heap.size w (w2.alloc (.cells #[.slice A2 n c2] 24))):=Lib.hid (HB2.out.alloc (by omega) _)
 have HR3:=Lib.hid (H.out.below HB3.out)
 have HQ3:=Lib.hid (((HCR.out.rd HR1.out).alloc (Nat.le_refl _) (.cells #[.slice A2 n c2] 24)))
 have HBU:=Lib.hid (build_any w.heap.size A n c rs _ HR3.out (by simp;omega))
 clear x1 HCP
 have HLN:Hid ((Q.fns rs).length=n):=Lib.hid (by rw [Q.length_fns];exact H.out.len)
 have HC2:Hid (Calls Try.prog 8 #[.agg #[.slice A n c]] (w2.alloc (.cells #[.slice A2 n c2] 24)) fun e w'=>∃ ls Ag cg gs,e=.returned (.tuple #[.agg #[.slice Ag n cg],.int .i64 0])∧Below (w2.alloc (.cells #[.slice A2 n c2] 24)).heap.size (w2.alloc (.cells #[.slice A2 n c2] 24)) w'∧Hid (RdP w' w'.heap.size Ag n gs)∧Hid (gs.map (·.gr)=buildB (Q.fns rs) ls)∧Hid (Q.Sols (Q.fns rs) (Q.fns rs) ls)):=Lib.hid (HBU.out.mono fun e w' ⟨hb,hc⟩=>by
  rcases hc with ⟨h0,_⟩ | ⟨_,ls,Ag,cg,gs,he,ho,hea,hg,hs⟩
  ·exact absurd HZ.out h0
  ·have hr:=build_rdP HZ.out hs ho hea hg
   have hn:gs.length=n:=by
    have h:=congrArg List.length hg
    rw [List.length_map,build_len hs.1,HLN.out] at h
    exact h
   rw [hn] at hr he
   exact ⟨ls,Ag,cg,gs,he,hb,hr,hg,hs⟩)
 clear HBU
 refine Lib.hid ?_
 go_wp2_with (go_at_call 8;refine HC2.out.mono ?_;rintro e w4 ⟨ls,Ag,cg,gs,rfl,hb4,HGR,HGM,HSO⟩;have HB4:=Lib.hid hb4;clear hb4;refine Hid.out ?_)
 obtain ⟨W5,hW5⟩:∃ x,x=w4.alloc (.cells #[.slice Ag n cg] 29):=⟨_,rfl⟩
 have hz4:w2.heap.size+1≤w4.heap.size:=by have:=HB4.out.size;simp at this;exact this
 have HG5:Hid (Blk W5 w4.heap.size 29 #[.slice Ag n cg]):=Lib.hid (by rw [hW5];exact Blk.new _ _ _)
 have HGR5:Hid (RdP W5 w4.heap.size Ag n gs):=Lib.hid (by rw [hW5];exact HGR.out.below ((Below.refl _ _).alloc (Nat.le_refl _) _))
 have HB5:Hid (Below (w2.heap.size+1) (w2.alloc (.cells #[.slice A2 n c2] 24)) W5):=Lib.hid (by rw [hW5];exact (HB4.out.mono (by simp)).alloc hz4 _)
 have HX5:=Lib.hid (HX3.out.below HB5.out (by omega))
 have HY5:=Lib.hid (HY3.out.below HB5.out (by omega))
 have HBW:Hid (Below w.heap.size w W5):=Lib.hid (HB3.out.trans (HB5.out.mono (by omega)))
 have hz5:w4.heap.size<W5.heap.size:=HG5.out.lt
 have HR5:=Lib.hid (H.out.below HBW.out)
 have HQ5:=Lib.hid (HQ3.out.below (HB5.out.mono (by omega)))
 have HSM:Hid (Calls Try.prog 9 #[.agg #[.slice A n c],.agg #[.slice A2 n c2]] W5 fun e w'=>e=.returned (.bool true)∧Below W5.heap.size W5 w'):=Lib.hid (by
  have h:=Q.rsame_any w2.heap.size A A2 n n c c2 rs rs2 W5 (HR5.out.more (by omega)) HQ5.out (by omega)
  rw [HEQ.out,decide_eq_true rfl] at h
  exact h)
 have y0:W5.cell? ⟨w.heap.size,0,none⟩=some (.slice A n c):=HX5.out.cell 0
 have y1:W5.cell? ⟨w2.heap.size,0,none⟩=some (.slice A2 n c2):=HY5.out.cell 0
 clear x2 HC2
 refine Lib.hid ?_
 go_upto_region 5 with fail
 rw [← hW5]
 clear hW5
 go_wp2_with (go_at_call 9;refine HSM.out.mono ?_;rintro e w6 ⟨rfl,hb6⟩;have HB6:=Lib.hid hb6;clear hb6;refine Hid.out ?_)
 have HX6:=Lib.hid (HX5.out.below HB6.out (by omega))
 have HG6:=Lib.hid (HG5.out.below HB6.out (by omega))
 have hz6:=HB6.out.size
 have HGR6:Hid (RdP w6 w4.heap.size Ag n gs):=Lib.hid (HGR5.out.below (HB6.out.mono (by omega)))
 have HRT:Hid (Calls Try.prog 11 #[.agg #[.slice Ag n cg],.bool false] w6 fun e w'=>e=.returned (.bool true)∧Below w6.heap.size w6 w'):=Lib.hid (by
  have h:=rright_any w4.heap.size Ag n cg gs false w6 HGR6.out (by omega)
  rw [show grs gs=buildB (Q.fns rs) ls from HGM.out,decide_eq_true (build_valid HZ.out HSO.out)] at h
  exact h)
 have y6:w6.cell? ⟨w4.heap.size,0,none⟩=some (.slice Ag n cg):=HG6.out.cell 0
 clear y0 y1 HSM
 refine Lib.hid ?_
 go_wp2_with (go_at_call 11;refine HRT.out.mono ?_;rintro e w7 ⟨rfl,hb7⟩;have y7:w7.cell? ⟨w4.heap.size,0,none⟩=some (.slice Ag n cg):=(HG6.out.below hb7 HG6.out.lt).cell 0;have x7:w7.cell? ⟨w.heap.size,0,none⟩=some (.slice A n c):=(HX6.out.below hb7 HX6.out.lt).cell 0;have HB7:=Lib.hid hb7;clear hb7)
 have hz7:=HB7.out.size
 have HP7:Hid (Q.RdP w7 w.heap.size A n rs):=Lib.hid ((HR5.out.below (HB6.out.mono (by omega))).below (HB7.out.mono (by omega)))
 have HGR7:Hid (RdP w7 w4.heap.size Ag n gs):=Lib.hid (HGR6.out.below (HB7.out.mono (by omega)))
 have HBZ:Hid (Below w.heap.size w w7):=Lib.hid (HBW.out.trans ((HB6.out.mono (by omega)).trans (HB7.out.mono (by omega))))
 have HG7:=Lib.hid (HG6.out.below HB7.out HG6.out.lt)
 clear x7 y7 y6 HRT
 have HN4:Hid (n≤255):=Lib.hid (by
  obtain ⟨h1,_⟩:=Q.verd_zero HZ.out
  unfold Q.okP at h1
  simp only [Bool.and_eq_true,decide_eq_true_eq] at h1
  rw [← HLN.out]
  exact h1.1.2)
 go_loopw [57] (fun s wr=>∃ k:Nat,k≤n∧s=.int .i64 k∧Hid (Below w7.heap.size w7 wr)) (fun s _=>n-(intOf s).toNat)
 case atStart=>exact ⟨0,by omega,rfl,Lib.hid (Below.refl _ _)⟩
 case round =>
  obtain ⟨k,hk,rfl,HBR⟩:=hrel
  have hwz:=HBR.out.size
  have hn4:n≤255:=HN4.out
  by_cases hkn:k<n
  ·obtain ⟨bp,op,r,rfl,hbp,HRX,HRF,HWF,p0,p1,p2,p3,p4⟩:=(HP7.out.below (HBR.out.mono (by omega))).fn hkn
   obtain ⟨bg,og,g,rfl,hbg,HGX,HGD,HWG,q0,q1,q2,q3,q4,q5,q6,q7⟩:=(HGR7.out.below (HBR.out.mono (by omega))).gr hkn
   have y7:wr.cell? ⟨w4.heap.size,0,none⟩=some (.slice (some ⟨bg,og,none⟩) n cg):=(HG7.out.below HBR.out (by omega)).cell 0
   have hfk:(Q.fns rs)[k]?=some r.fn:=by
    show (rs.map _)[k]?=_
    rw [List.getElem?_map,HRX.out]
    rfl
   obtain ⟨l,hl1,hsol⟩:=HSO.out.2 k r.fn hfk
   have hgg:g.gr=graphB (Q.fns rs) r.fn l:=by
    have h1:=build_at hfk hl1
    rw [← HGM.out,List.getElem?_map,HGX.out] at h1
    injection h1
   have FM:=Lib.hid (fnM_of HZ.out (List.mem_of_getElem? hfk) hsol)
   obtain ⟨gpo,hgpo⟩:∃ x,x=g.po:=⟨_,rfl⟩
   have HGPO:=Lib.hid hgpo
   rw [← hgpo] at q0
   clear hgpo
   obtain ⟨pl,hpl⟩:∃ pl,pl=g.gr.params.length:=⟨_,rfl⟩
   have hp0:r.fn.params=(pl:Int):=by rw [hpl,hgg];exact FM.out.h_params.symm
   obtain ⟨nl,hnl⟩:∃ x,x=g.gr.nodes.length:=⟨_,rfl⟩
   obtain ⟨cl,hcl⟩:∃ x,x=r.fn.code.length:=⟨_,rfl⟩
   obtain ⟨kl,hkl⟩:∃ x,x=g.gr.kinds.length:=⟨_,rfl⟩
   obtain ⟨ll,hll⟩:∃ x,x=r.fn.locals.length:=⟨_,rfl⟩
   have hn1:nl≤cl+20:=by rw [hnl,hcl,hgg];exact FM.out.h_nodes
   have hc1:cl≤256:=by rw [hcl];exact FM.out.cod
   have hp4:pl≤4:=by have:=FM.out.p4;omega
   have gn:decide ((nl:Int) > (cl:Int)+20)=false:=decide_eq_false (by omega)
   obtain ⟨kb,hkb⟩:∃ x,x=decide (r.fn.keep≥0):=⟨_,rfl⟩
   have gk2:decide (r.fn.keep≥0)=kb:=hkb.symm
   have gk1:decide (g.gr.keep≥0)=kb:=by rw [hkb,hgg];exact FM.out.h_keep
   have hre:g.gr.result=r.fn.result:=by rw [hgg];rfl
   rw [hp0] at p0
   rw [← hll] at p1
   rw [← hcl] at p4
   rw [← hpl] at q0
   rw [← hkl] at q1
   rw [hre] at q4
   rw [← hnl] at q6
   have HHI:=Lib.hid (show pl=g.gr.params.length∧kl=g.gr.kinds.length∧ll=r.fn.locals.length∧g.gr=graphB (Q.fns rs) r.fn l from ⟨hpl,hkl,hll,hgg⟩)
   clear hpl hp0 hnl hcl hkl hll hkb hre hgg hfk hsol hl1
   obtain ⟨W9,hW9⟩:∃ x,x=(wr.alloc (.cells #[.int .i64 pl,.slice r.lo ll r.lc,.bool r.fn.result,.int .i64 r.fn.keep,.slice r.co cl r.cc] 41)).alloc (.cells #[.slice gpo pl g.pc,.slice g.ko kl g.kc,.int .i64 g.gr.cells,.slice g.io g.gr.init.length g.ic,.bool r.fn.result,.int .i64 g.gr.keep,.slice g.no nl g.nc,.int .i64 g.gr.entry] 45):=⟨_,rfl⟩
   have HBF:Hid (Blk W9 wr.heap.size 41 #[.int .i64 pl,.slice r.lo ll r.lc,.bool r.fn.result,.int .i64 r.fn.keep,.slice r.co cl r.cc]):=Lib.hid (by rw [hW9];exact (Blk.new _ _ _).alloc _)
   have HBX:Hid (Blk W9 (wr.heap.size+1) 45 #[.slice gpo pl g.pc,.slice g.ko kl g.kc,.int .i64 g.gr.cells,.slice g.io g.gr.init.length g.ic,.bool r.fn.result,.int .i64 g.gr.keep,.slice g.no nl g.nc,.int .i64 g.gr.entry]):=Lib.hid (by
    have h:=Blk.new (wr.alloc (.cells #[.int .i64 pl,.slice r.lo ll r.lc,.bool r.fn.result,.int .i64 r.fn.keep,.slice r.co cl r.cc] 41)) 45 #[.slice gpo pl g.pc,.slice g.ko kl g.kc,.int .i64 g.gr.cells,.slice g.io g.gr.init.length g.ic,.bool r.fn.result,.int .i64 g.gr.keep,.slice g.no nl g.nc,.int .i64 g.gr.entry]
    rw [show (wr.alloc (.cells #[.int .i64 pl,.slice r.lo ll r.lc,.bool r.fn.result,.int .i64 r.fn.keep,.slice r.co cl r.cc] 41)).heap.size=wr.heap.size+1 by simp] at h
    rw [hW9]
    exact h)
   have HB9:Hid (Below w7.heap.size w7 W9):=Lib.hid (by rw [hW9];exact (HBR.out.alloc hwz _).alloc (by simp;omega) _)
   have HB10:Hid (Below wr.heap.size wr W9):=Lib.hid (by rw [hW9];exact ((Below.refl _ _).alloc (Nat.le_refl _) _).alloc (by simp) _)
   have hlt4:w4.heap.size<wr.heap.size:=by omega
   have hbgl:bg<wr.heap.size:=by omega
   have hbpl:bp<wr.heap.size:=by omega
   go_upto_region 16 with fail
   rw [← hW9]
   clear hW9 p0 p1 p2 p3 p4 q0 q1 q2 q3 q4 q5 q6 q7 y7
   have f0:W9.cell? ⟨wr.heap.size,0,none⟩=some (.int .i64 pl):=HBF.out.cell 0
   have f1:W9.cell? ⟨wr.heap.size,1,none⟩=some (.slice r.lo ll r.lc):=HBF.out.cell 1
   have f2:W9.cell? ⟨wr.heap.size,2,none⟩=some (.bool r.fn.result):=HBF.out.cell 2
   have f3:W9.cell? ⟨wr.heap.size,3,none⟩=some (.int .i64 r.fn.keep):=HBF.out.cell 3
   have f4:W9.cell? ⟨wr.heap.size,4,none⟩=some (.slice r.co cl r.cc):=HBF.out.cell 4
   have g0:W9.cell? ⟨wr.heap.size+1,0,none⟩=some (.slice gpo pl g.pc):=HBX.out.cell 0
   have g1:W9.cell? ⟨wr.heap.size+1,1,none⟩=some (.slice g.ko kl g.kc):=HBX.out.cell 1
   have g4:W9.cell? ⟨wr.heap.size+1,4,none⟩=some (.bool r.fn.result):=HBX.out.cell 4
   have g5:W9.cell? ⟨wr.heap.size+1,5,none⟩=some (.int .i64 g.gr.keep):=HBX.out.cell 5
   have g6:W9.cell? ⟨wr.heap.size+1,6,none⟩=some (.slice g.no nl g.nc):=HBX.out.cell 6
   go_wp2_with fail
   have HGD9:Hid (RdG W9 w4.heap.size g):=Lib.hid (HGD.out.below (HB10.out.mono (by omega)))
   have HRF9:Hid (Q.RdF W9 w.heap.size r):=Lib.hid (HRF.out.below (HB10.out.mono (by omega)))
   clear f0 f2 f3 f4 g0 g4 g5 g6 gk1 gk2 gn HGD HRF
   obtain ⟨zo,hzo⟩:∃ x,x=wr.heap.size:=⟨_,rfl⟩
   rw [← hzo] at HBF HBX f1 g1 ⊢
   clear hzo hlt4 hbgl hbpl hwz HBR
   go_loopw [102] (fun s wi=>∃ j:Nat,j≤pl∧s=.int .i64 j∧Hid (∀ p:Addr,wi.cell? p=W9.cell? p)∧Hid (Below w7.heap.size w7 wi)) (fun s _=>pl-(intOf s).toNat)
   case atStart=>exact ⟨0,by omega,rfl,Lib.hid fun _=>rfl,HB9⟩
   case round =>
    obtain ⟨j,hj,rfl,HCE,HBI⟩:=hrel
    by_cases hjl:j<pl
    ·obtain ⟨hpl,hkl,hll,hgg⟩:=HHI.out
     have hjp:j<(graphB (Q.fns rs) r.fn l).params.length:=by rw [← hgg];omega
     have e1:g.gr.params[j]?=some (j:Int):=by rw [hgg];exact FM.out.h_param hjp
     obtain ⟨hjl2,e2⟩:=FM.out.h_kind hjp
     rw [← hgg] at e2
     obtain ⟨x,hx⟩:∃ x,r.fn.locals[j]?=some x:=⟨_,List.getElem?_eq_getElem hjl2⟩
     rw [hx] at e2
     have hjk:j<g.gr.kinds.length:=by
      rcases Nat.lt_or_ge j g.gr.kinds.length with h | h
      ·exact h
      ·rw [List.getElem?_eq_none h] at e2;cases e2
     obtain ⟨b1,o1,hpo,hb1,hc1'⟩:=HGD9.out.params.lit (by omega) (by decide)
     obtain ⟨b2,o2,hko,hb2,hc2'⟩:=HGD9.out.kinds.lit (by omega) (by decide)
     obtain ⟨b3,o3,hlo,hb3,hc3'⟩:=HRF9.out.locals.lit (by omega) (by decide)
     have v1:wr.cell? ⟨b1,o1+j,none⟩=some (.int .i64 j):=(HCE.out _).trans (hc1' j _ (by unfold i64c;rw [List.getElem?_map,e1];rfl))
     have v2:wr.cell? ⟨b2,o2+j,none⟩=some (.int .u8 x):=(HCE.out _).trans (hc2' j _ (by unfold u8c;rw [List.getElem?_map,e2];rfl))
     have v3:wr.cell? ⟨b3,o3+j,none⟩=some (.int .u8 x):=(HCE.out _).trans (hc3' j _ (by unfold Q.u8c;rw [List.getElem?_map,hx];rfl))
     have f1':wr.cell? ⟨zo,1,none⟩=some (.slice (some ⟨b3,o3,none⟩) ll r.lc):=by rw [HCE.out,f1,hlo]
     have g1':wr.cell? ⟨zo+1,1,none⟩=some (.slice (some ⟨b2,o2,none⟩) kl g.kc):=by rw [HCE.out,g1,hko]
     obtain rfl:gpo=some ⟨b1,o1,none⟩:=HGPO.out.trans hpo
     have hjkl:j<kl:=by omega
     have hjll:j<ll:=by omega
     clear e1 e2 hx hc1' hc2' hc3' hpl hkl hll hgg hjp f1 g1 hpo hko hlo hjl2 hjk hb1 hb2 hb3
     go_wp2_with fail
     go_quiet (fail)
     go_wp2
     go_roundw
     case rel=>exact ⟨j+1,by omega,by go_num,Lib.hid fun p=>HCE.out p,Lib.hid (HBI.out.trans (below_drewN (Below.refl _ _) _))⟩
     case measure=>simp [intOf];omega
    ·obtain rfl:j=pl:=by omega
     go_wp2
     go_roundw
     case rel=>exact ⟨k+1,by omega,by go_num,HBI⟩
     case measure=>simp [intOf];omega
  ·obtain rfl:k=n:=by omega
   go_wp2
   go_ret
   exact ⟨rfl,HBZ.out.trans (HBR.out.mono (by omega))⟩
theorem heads_walk (A:Option Addr) (n c:Nat) (rs:List Q.Raw) (w:World) (h:Q.RdP w w.heap.size A n rs) :
  Calls Try.prog 3 #[.agg #[.slice A n c]] w fun e w'=>e=.returned (.bool true)∧Below w.heap.size w w':=by
 by_cases hv:Q.verd (Q.fns rs)=0
 ·exact heads_yes A n c rs w h hv
 ·exact heads_no A n c rs w h hv
end Go.Proofs.Ytgekmjkfnhogkaa
