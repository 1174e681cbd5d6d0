/-
  Texts of one seat, one behind the other: QKCheckW, BBd0, BBld, BVa0, BVa1, BVa2.
-/
import Derived.Deep.DeepCutAuto
import Derived.Deep.CutRange
import Derived.Test.YtgekmjkfnhogkaaMA14
import Derived.Test.YtgekmjkfnhogkaaMA12

set_option linter.unusedVariables false
set_option linter.unusedSimpArgs false
set_option maxRecDepth 100000
set_option maxHeartbeats 51200000
namespace Go.Proofs.Ytgekmjkfnhogkaa.Q
open Go.ChangeShapes Go.WideShapes Go.ChangeAt Go.RowKit
theorem check_any (B:Nat) (A:Option Addr) (n c:Nat) (rs:List Raw) (w:World) (h:RdP w B A n rs) (hB:B≤w.heap.size) :
  Calls Try.prog 14 #[.agg #[.slice A n c]] w (CheckPost w B n rs):=by
 have hlen:=h.len
 have HX0:Hid (Blk (w.alloc (.cells #[.slice A n c] 24)) w.heap.size 24 #[.slice A n c]):=Lib.hid (Blk.new w _ _)
 have HB0:Hid (Below w.heap.size w (w.alloc (.cells #[.slice A n c] 24))):=Lib.hid ((Below.refl _ _).alloc (Nat.le_refl _) _)
 have H1:Hid (RdP (w.alloc (.cells #[.slice A n c] 24)) B A n rs):=Lib.hid (h.alloc hB _)
 have HLEN:=Lib.hid hlen
 obtain ⟨v,HV⟩:∃ v,Hid (v=verd (fns rs)):=⟨_,Lib.hid rfl⟩
 have HE:=Lib.hid (encode_any B A n c rs _ H1.out (by simp;omega))
 have H:=Lib.hid h
 clear h hlen
 cases hok:okP (fns rs) with
 | false =>
  have HVF:=Lib.hid (verd_form hok)
  have HEE:Hid ((encA (fns rs)).2=30):=Lib.hid (by unfold encA;rw [hok];rfl)
  clear hok
  go_enter Try.func14,Try.ntmps14
  go_wp2_with (go_at_call 28;refine HE.out.mono ?_;rintro e w2 ⟨A2,k2,c2,rfl,_,_,hb2⟩;rw [HEE.out];have HB2:=Lib.hid hb2;clear hb2)
  go_ret2
  exact ⟨HB0.out.trans (HB2.out.mono (by simp)),.inl ⟨by rw [HVF.out];decide,by rw [HVF.out];rfl⟩⟩
 | true =>
  have HEE:Hid ((encA (fns rs)).2=0):=Lib.hid (by unfold encA;rw [hok];rfl)
  have HOK:=Lib.hid hok
  clear hok
  obtain ⟨bb,HBB⟩:∃ bb,Hid (bnd (fns rs)=bb):=⟨_,Lib.hid rfl⟩
  cases bb with
  | false =>
   have HVF:=Lib.hid (verd_big HOK.out HBB.out)
   go_enter Try.func14,Try.ntmps14
   go_wp2_with (go_at_call 28;refine HE.out.mono ?_;rintro e w2 ⟨A2,k2,c2,rfl,_,_,hb2⟩;rw [HEE.out];have HB2:=Lib.hid hb2;have x2:w2.cell? ⟨w.heap.size,0,none⟩=some (.slice A n c):=(HX0.out.below hb2 (by simp)).cell 0;clear hb2;refine Hid.out ?_)
   have HR2:=Lib.hid (H1.out.below (HB2.out.mono (by simp;omega)))
   have hz2:w.heap.size<w2.heap.size:=by have:=HB2.out.size;simp at this;omega
   have HBN:=Lib.hid (bounded_any B A n c rs w2 HR2.out (by omega))
   rw [HBB.out] at HBN
   refine Lib.hid ?_
   go_wp2_with (go_at_call 29;refine HBN.out.mono ?_;rintro e w3 ⟨rfl,hb3⟩;have HB3:=Lib.hid hb3;clear hb3)
   go_ret2
   exact ⟨HB0.out.trans ((HB2.out.mono (by simp)).trans (HB3.out.mono (by omega))),.inl ⟨by rw [HVF.out];decide,by rw [HVF.out];rfl⟩⟩
  | true =>
   obtain ⟨rb,HRB⟩:∃ rb,Hid (refB (fns rs)=rb):=⟨_,Lib.hid rfl⟩
   go_enter Try.func14,Try.ntmps14
   go_wp2_with (go_at_call 28;refine HE.out.mono ?_;rintro e w2 ⟨A2,k2,c2,rfl,_,_,hb2⟩;rw [HEE.out];have HB2:=Lib.hid hb2;have x2:w2.cell? ⟨w.heap.size,0,none⟩=some (.slice A n c):=(HX0.out.below hb2 (by simp)).cell 0;clear hb2;refine Hid.out ?_)
   have HR2:=Lib.hid (H1.out.below (HB2.out.mono (by simp;omega)))
   have hz2:w.heap.size<w2.heap.size:=by have:=HB2.out.size;simp at this;omega
   have HBN:=Lib.hid (bounded_any B A n c rs w2 HR2.out (by omega))
   rw [HBB.out] at HBN
   refine Lib.hid ?_
   go_wp2_with (go_at_call 29;refine HBN.out.mono ?_;rintro e w3 ⟨rfl,hb3⟩;have HB3:=Lib.hid hb3;clear hb3;refine Hid.out ?_)
   have hz3:w.heap.size<w3.heap.size:=by have:=HB3.out.size;omega
   have HW3:Hid (Below w.heap.size w w3):=Lib.hid (HB0.out.trans ((HB2.out.mono (by simp)).trans (HB3.out.mono (by omega))))
   have hx3:Blk w3 w.heap.size 24 #[.slice A n c]:=(HX0.out.below HB2.out (by simp)).below HB3.out hz2
   have x3:w3.cell? ⟨w.heap.size,0,none⟩=some (.slice A n c):=hx3.cell 0
   have HX3:=Lib.hid hx3
   have HR3:=Lib.hid (H.out.below (HW3.out.mono hB))
   have HRF:=Lib.hid (refers_any B A n c rs w3 HR3.out (by omega) HOK.out)
   rw [HRB.out] at HRF
   clear x2 hx3
   cases rb with
   | false =>
    have HVF:=Lib.hid (verd_ref HOK.out HBB.out HRB.out)
    refine Lib.hid ?_
    go_wp2_with (go_at_call 30;refine HRF.out.mono ?_;rintro e w4 ⟨rfl,hb4⟩;have HB4:=Lib.hid hb4;clear hb4)
    go_ret2
    exact ⟨HW3.out.trans (HB4.out.mono (by omega)),.inl ⟨by rw [HVF.out];decide,by rw [HVF.out];rfl⟩⟩
   | true =>
    refine Lib.hid ?_
    go_wp2_with (go_at_call 30;refine HRF.out.mono ?_;rintro e w4 ⟨rfl,hb4⟩;have HB4:=Lib.hid hb4;clear hb4;refine Hid.out ?_)
    have hz4:w.heap.size<w4.heap.size:=by have:=HB4.out.size;omega
    have HW4:Hid (Below w.heap.size w w4):=Lib.hid (HW3.out.trans (HB4.out.mono (by omega)))
    have x4:w4.cell? ⟨w.heap.size,0,none⟩=some (.slice A n c):=(HX3.out.below HB4.out hz3).cell 0
    have HR4:=Lib.hid (H.out.below (HW4.out.mono hB))
    have HWA:=Lib.hid (walkAll_any B A n c rs w4 HR4.out (by omega) HOK.out (bnd_code HBB.out) (ref_ins HRB.out))
    have HWB:Hid (Calls Try.prog 31 #[.slice A n c] w4 fun e w'=>∃ p ok,e=.returned (.tuple #[.pointer p,.bool ok])∧Below w4.heap.size w4 w'∧((p=none∧ok=false∧∃ f ∈ fns rs,¬ Fine (fns rs) f)∨∃ tb ls rvs svs RA rc SA sc,p=some ⟨tb,0,none⟩∧ok=true∧TI w4 B tb rs n ls rvs svs RA rc SA sc w')):=Lib.hid (HWA.out.mono fun e w' ⟨hb,hc⟩=>by
     rcases hc with ⟨rfl,hnf⟩ | ⟨tb,ls,rvs,svs,RA,rc,SA,sc,rfl,hti⟩
     ·exact ⟨_,_,rfl,hb,.inl ⟨rfl,rfl,hnf⟩⟩
     ·exact ⟨_,_,rfl,hb,.inr ⟨tb,ls,rvs,svs,RA,rc,SA,sc,rfl,rfl,hti⟩⟩)
    clear x3
    refine Lib.hid ?_
    go_wp2_with (go_at_call 31;refine HWB.out.mono ?_;rintro e w5 ⟨p,ok,rfl,hb5,hcase⟩;have HB5:=Lib.hid hb5;have HCS:=Lib.hid hcase;clear hb5 hcase;refine Hid.out ?_)
    have hz5:=HB5.out.size
    have HW5:Hid (Below w.heap.size w w5):=Lib.hid (HW4.out.trans (HB5.out.mono (by omega)))
    rcases HCS.out with ⟨rfl,rfl,f,hf,hnf⟩ | ⟨tb,ls,rvs,svs,RA,rc,SA,sc,rfl,rfl,hti⟩
    ·have HVF:=Lib.hid (verd_fine HOK.out HBB.out HRB.out hf hnf)
     clear hf hnf x4
     refine Lib.hid ?_
     go_wp2
     go_ret2
     exact ⟨HW5.out,.inl ⟨by rw [HVF.out];decide,by rw [HVF.out];rfl⟩⟩
    ·have hn255:n≤255:=by have:=(okP_iff.1 HOK.out).2.1;rw [length_fns,HLEN.out] at this;exact this
     have HDP:=Lib.hid (deep_any w4 B tb n rc sc rs ls rvs svs RA SA w5 hti hn255)
     have HS:=Lib.hid (hti.allSols HLEN.out)
     have HTI:=Lib.hid hti
     obtain ⟨d,HDD⟩:∃ d,Hid ((ls.any fun l=>l.any deepO)=d):=⟨_,Lib.hid rfl⟩
     rw [HDD.out] at HDP
     clear hti x4
     cases d with
     | true =>
      have HVF:=Lib.hid (verd_deep HOK.out HBB.out HRB.out HS.out HDD.out)
      refine Lib.hid ?_
      go_wp2_with (go_at_call 32;refine HDP.out.mono ?_;rintro e w6 ⟨rfl,rfl⟩)
      go_ret2
      exact ⟨HW5.out,.inl ⟨by rw [HVF.out];decide,by rw [HVF.out];rfl⟩⟩
     | false =>
      have HVF:=Lib.hid (verd_ok HOK.out HBB.out HRB.out HS.out HDD.out)
      refine Lib.hid ?_
      go_wp2_with (go_at_call 32;refine HDP.out.mono ?_;rintro e w6 ⟨rfl,rfl⟩)
      go_ret2
      exact ⟨HW5.out,.inr ⟨HVF.out,w4,tb,ls,rvs,svs,RA,rc,SA,sc,rfl,HTI.out,HS.out⟩⟩
end Go.Proofs.Ytgekmjkfnhogkaa.Q
namespace Go.Proofs.Ytgekmjkfnhogkaa
open Go.ChangeShapes Go.WideShapes Go.ChangeAt Go.RowKit
theorem BGb.toBG {W:World} {bb n nc cc cnt nnc sb m ssc:Nat} {fa ca na:Option Addr} {rs:List Q.Raw} {r:Q.Raw} {cells nodes:List Int} {l:List (Option Q.Stk)} (h:BGb W W.heap.size bb fa n nc rs r ca cc cells cnt na nnc nodes sb m ssc l):BG W bb fa n nc rs r ca cc cells cnt na nnc nodes sb m ssc l :=
 ⟨h.br,h.c1,h.c4,h.c5,h.c6,h.c7,h.c9,h.co,h.sbl,h.st,h.no⟩
theorem nu_bg {X wn:World} {bb cb n nc cN sb m:Nat} {fa NA:Option Addr} {rs:List Q.Raw} {r:Q.Raw} {cells:List Int} {cnt:Nat} {l:List (Option Q.Stk)} {vs:List Value} {B0:Nat}
  (hn:NuI X bb bb cb r.fn.locals.length (.slice fa n nc) (.int .i64 r.fn.params) (.slice r.lo r.fn.locals.length r.lc) (.bool r.fn.result) (.int .i64 r.fn.keep) (.slice r.co r.fn.code.length r.cc) (.slice (some ⟨sb,0,none⟩) m m) cells cnt NA r.fn.code.length cN (nodesB 0 l) wn)
  (hp:Q.RdP wn bb fa n rs) (hf:Q.RdF wn bb r) (hll:r.fn.locals.length≤100000) (hnl:n≤100000) (hs:Q.Blk wn sb 38 vs.toArray)
  (hst:∀ (j:Nat) x,l[j]?=some x→∃ a q k,vs[j]?=some (.slice a q k)∧q=(x.getD []).length∧wn.ownsRow B0 46 1 (.slice a q k) q (Q.u8c (x.getD []))) (hlen:l.length=r.fn.code.length) :
  BG wn bb fa n nc rs r (some ⟨cb,0,none⟩) r.fn.locals.length cells cnt NA cN (nodesB 0 l) sb m m l:=by
 have hb:=hn.box.lt
 have hnn:(nodesB 0 l).length=r.fn.code.length:=by rw [nodesB_len,hlen]
 have hcl:=hn.len
 have hp':=hp.more (show bb≤wn.heap.size by omega)
 refine ⟨⟨hb,hn.box.cell 0,hn.box.cell 2,hn.box.cell 3,?_,hp',?_,?_,hll,hcl,hnl⟩,hn.box.cell 1,hn.box.cell 4,hn.box.cell 5,hn.box.cell 6,?_,hn.box.cell 9,?_,hs.lt,fun j s hj=>?_,?_⟩
 ·rw [hcl];exact hn.box.cell 8
 ·exact hf.locals.more (by omega)
 ·have h:=Q.reads_blk (size:=1) (n:=cells.length) (show Q.Blk wn cb 3 (i64c cells).toArray from hn.cblk) (by simp [i64c])
  exact h
 ·rw [hnn];exact hn.box.cell 7
 ·exact hf.code.more (by omega)
 ·obtain ⟨a,q,k,h1,h2,h3⟩:=hst j (some s) hj
  refine ⟨a,k,?_,?_⟩
  ·have h4:=hs.cell j
   rw [List.getElem?_toArray,h1,h2] at h4
   exact h4
  ·have h4:=Q.Reads.of_own h3
   rw [h2] at h4
   exact h4
 ·rw [hnn]
  exact Q.Reads.of_own hn.own
structure BdI (W2:World) (gb:Nat) (GA:Option Addr) (gc:Nat) (gs:List RG) (wr:World):Prop where
 box:Blk wr gb 29 #[.slice GA gs.length gc]
 own:wr.ownsRow (gb+1) 45 8 (.slice GA gs.length gc) gs.length (rgc gs)
 each:∀ r ∈ gs,OwnB wr (gb+1) r
 below:Below gb W2 wr
section
variable {W2 wr w':World} {gb gc:Nat} {GA:Option Addr} {gs:List RG} {o:Obj} {v':Value} {r:RG}
theorem BdI.start (W2:World):BdI W2 W2.heap.size none 0 [] (W2.alloc (.cells #[.slice none 0 0] 29)) :=
 ⟨Blk.new W2 _ _,own_none _ _ _ _,(fun r hr=>by cases hr),(Below.refl _ _).alloc (Nat.le_refl _) _⟩
theorem BdI.on (h:BdI W2 gb GA gc gs wr) (hb:Below wr.heap.size wr w'):BdI W2 gb GA gc gs w' :=
 ⟨h.box.below hb h.box.lt,own_below h.own hb,fun r hr=>(h.each r hr).below hb,h.below.trans (hb.mono (by have:=h.box.lt;omega))⟩
theorem BdI.push (h:BdI W2 gb GA gc gs wr) (hr:OwnB wr (gb+1) r) (hown:w'.ownsRow (gb+1) 45 8 v' (gs.length+1) (rgc gs ++ rgOne r)) (hg:(wr.alloc o).grownBy w' (Value.slice GA gs.length gc).ownBlock) :
  ∃ A' c',v'=.slice A' (gs.length+1) c'∧w'.frozen? ⟨gb,0,none⟩=false∧(∃ y,w'.cell? ⟨gb,0,none⟩=some y)∧Hid (BdI W2 gb A' c' (gs ++ [r]) (w'.setCell ⟨gb,0,none⟩ v')):=by
 obtain ⟨A',c',rfl⟩:=own_slice hown
 have ho:=own_alloc h.own o
 have hz:=h.box.lt
 have hbox:=blk_grown (h.box.alloc o) ho hg (by decide)
 have hb:Below gb W2 w':=(h.below.alloc (by omega) o).grown hg (by simp;omega) fun g he=>by have:=(own_block_le ho he).1;omega
 have hl:(gs ++ [r]).length=gs.length+1:=by simp
 have gr:∀ {v:Value} {k:Nat} {e:TypeId} {s:Nat} {xs:List Value},wr.ownsRow (gb+1) e s v k xs→e≠45→e≠29→(w'.setCell ⟨gb,0,none⟩ (.slice A' (gs.length+1) c')).ownsRow (gb+1) e s v k xs:=fun hh h1 h2=>own_far (own_grown ho (own_alloc hh o) hg h1) hbox h2 _ _
 have og:∀ {x:RG},OwnB wr (gb+1) x→OwnB (w'.setCell ⟨gb,0,none⟩ (.slice A' (gs.length+1) c')) (gb+1) x:=fun hx =>
  ⟨gr hx.po (by decide) (by decide),gr hx.ko (by decide) (by decide),gr hx.io (by decide) (by decide),gr hx.no (by decide) (by decide),fun i hi=>gr (hx.ar i hi) (by decide) (by decide),hx.nd⟩
 refine ⟨A',c',rfl,hbox.frozen 0,⟨_,hbox.cell 0⟩,Lib.hid ⟨?_,?_,fun x hx=>?_,hb.setCell (p:=⟨gb,0,none⟩) (Nat.le_refl _) _⟩⟩
 ·rw [hl]
  exact hbox.set_ 0 (.slice A' (gs.length+1) c')
 ·rw [hl,rgc_append]
  have h1:=own_far hown hbox (by decide) 0 (.slice A' (gs.length+1) c')
  simpa [rgc] using h1
 ·rcases List.mem_append.1 hx with hx | hx
  ·exact og (h.each x hx)
  ·obtain rfl:x=r:=by simpa using hx
   exact og hr
end
theorem buildB_take {fs:List Q.Fn} {ls:List (List (Option Q.Stk))} {k:Nat} {f:Q.Fn} {l:List (Option Q.Stk)} (hf:fs[k]?=some f) (hl:ls[k]?=some l):(buildB fs ls).take (k+1)=(buildB fs ls).take k ++ [graphB fs f l]:=by
 have h:(buildB fs ls)[k]?=some (graphB fs f l):=by
  unfold buildB
  have hz:(fs.zip ls)[k]?=some (f,l):=by
   rw [List.getElem?_zip_eq_some]
   exact ⟨hf,hl⟩
  rw [List.getElem?_map,hz]
  rfl
 rw [List.take_add_one,h]
 rfl
theorem check_form {w w':World} {B n:Nat} {rs:List Q.Raw} {e:Ending} (h:Q.CheckPost w B n rs e w'):∃ (p:Option Addr) (v:Int),e=.returned (.tuple #[.pointer p,.int .i64 v])∧Hid (Below w.heap.size w w') ∧
  Hid ((v≠0∧v=Q.verd (Q.fns rs))∨(v=0∧Q.verd (Q.fns rs)=0∧∃ w0 tb ls rvs svs RA rc SA sc,p=some ⟨tb,0,none⟩∧Q.TI w0 B tb rs n ls rvs svs RA rc SA sc w'∧Q.Sols (Q.fns rs) (Q.fns rs) ls)):=by
 obtain ⟨hb,h⟩:=h
 rcases h with ⟨h1,h2⟩ | ⟨h1,w0,tb,ls,rvs,svs,RA,rc,SA,sc,h2,h3,h4⟩
 ·exact ⟨none,_,h2,Lib.hid hb,Lib.hid (.inl ⟨h1,rfl⟩)⟩
 ·exact ⟨_,0,h2,Lib.hid hb,Lib.hid (.inr ⟨rfl,h1,w0,tb,ls,rvs,svs,RA,rc,SA,sc,rfl,h3,h4⟩)⟩
theorem arg_of {fs:List Q.Fn} {f:Q.Fn} {i:Q.Ins} (hr:Q.insRef fs f i=true) (ho:Q.okI i=true) (h4:i.op=4):∃ k:Nat,i.arg=k∧k<f.locals.length:=by
 unfold Q.insRef at hr
 rw [if_neg (by omega),if_pos h4] at hr
 have h1:=numL_lt hr
 unfold Q.okI at ho
 simp only [Bool.and_eq_true] at ho
 have h2:=ho.1.2
 unfold Q.fitB at h2
 rw [decide_eq_true_eq] at h2
 exact ⟨i.arg.toNat,by omega,by omega⟩
def BuildPost (W : World) (rs : List Q.Raw) (e : Ending) (w' : World) : Prop := Below W.heap.size W w' ∧
  ((Q.verd (Q.fns rs) ≠ 0 ∧ e = .returned (.tuple #[.agg #[.slice none 0 0], .int .i64 (Q.verd (Q.fns rs))])) ∨
   (Q.verd (Q.fns rs) = 0 ∧ ∃ ls A c gs, e = .returned (.tuple #[.agg #[.slice A gs.length c], .int .i64 0]) ∧ w'.ownsRow W.heap.size 45 8 (.slice A gs.length c) gs.length (rgc gs) ∧ (∀ r ∈ gs, OwnB w' W.heap.size r) ∧ gs.map (·.gr) = buildB (Q.fns rs) ls ∧ Q.Sols (Q.fns rs) (Q.fns rs) ls))
theorem build_any (B:Nat) (A:Option Addr) (n c:Nat) (rs:List Q.Raw) (W:World) (h:Q.RdP W B A n rs) (hB:B≤W.heap.size) :
  Calls Try.prog 8 #[.agg #[.slice A n c]] W (BuildPost W rs):=by
 obtain ⟨W2,hW2⟩:∃ W2,W2=(W.alloc (.cells #[.slice A n c] 24)).alloc (.cells #[.slice none 0 0] 29):=⟨_,rfl⟩
 obtain ⟨pb,hpb⟩:∃ pb,pb=W.heap.size:=⟨_,rfl⟩
 obtain ⟨qb,hqb⟩:∃ qb,qb=W.heap.size+1:=⟨_,rfl⟩
 have hb2:Below W.heap.size W W2:=by rw [hW2];exact ((Below.refl _ _).alloc (Nat.le_refl _) _).alloc (by simp) _
 have hz2:W2.heap.size=W.heap.size+2:=by rw [hW2];simp
 have p2:Blk W2 pb 24 #[.slice A n c]:=by rw [hW2,hpb];exact (Blk.new _ _ _).alloc _
 have q2:Blk W2 qb 29 #[.slice none 0 0]:=by
  rw [hW2,hqb]
  have h:=Blk.new (W.alloc (.cells #[.slice A n c] 24)) 29 #[.slice none 0 0]
  rw [show (W.alloc (.cells #[.slice A n c] 24)).heap.size=W.heap.size+1 by simp] at h
  exact h
 have HP2:=Lib.hid p2
 have HQ2:=Lib.hid q2
 have HB2:=Lib.hid hb2
 have HZ2:=Lib.hid hz2
 have H2:=Lib.hid (h.below (hb2.mono hB))
 have HCK:=Lib.hid (Q.check_any B A n c rs W2 H2.out (by omega))
 have c2:W2.cell? ⟨pb,0,none⟩=some (.slice A n c):=p2.cell 0
 have HPB:=Lib.hid hpb
 have HQB:=Lib.hid hqb
 have HBB:=Lib.hid hB
 clear h hb2 hz2 p2 q2 hB
 go_enter Try.func8,Try.ntmps8
 go_upto_region 1 with fail
 rw [← hW2,← hqb,← hpb]
 clear hW2 hpb hqb
 go_upto_if 16 with (go_at_call 14;refine HCK.out.mono ?_;intro e w3 hck;obtain ⟨p,v,rfl,HB3,HD⟩:=check_form hck;clear hck)
 have HW3:Hid (Below W.heap.size W w3):=Lib.hid (HB2.out.trans (HB3.out.mono (by have:=HZ2.out;omega)))
 have HP3:=Lib.hid (HP2.out.below HB3.out HP2.out.lt)
 have HQ3:=Lib.hid (HQ2.out.below HB3.out HQ2.out.lt)
 have c3:w3.cell? ⟨pb,0,none⟩=some (.slice A n c):=HP3.out.cell 0
 have d3:w3.cell? ⟨qb,0,none⟩=some (.slice none 0 0):=HQ3.out.cell 0
 have e3:w3.frozen? ⟨qb,0,none⟩=false:=HQ3.out.frozen 0
 clear c2
 by_cases hv:v=0
 ·subst hv
  have gv:((0:Int) != 0)=false:=rfl
  simp only [gv]
  obtain ⟨HVZ,tb,ls,rvs,svs,RA,rc,SA,sc,w0,rfl,HTI,HSO⟩:∃ (_:Hid (Q.verd (Q.fns rs)=0)) (tb:Nat) (ls:List (List (Option Q.Stk))) (rvs svs:List Value) (RA:Option Addr) (rc:Nat) (SA:Option Addr) (sc:Nat) (w0:World),p=some ⟨tb,0,none⟩∧Hid (Q.TI w0 B tb rs n ls rvs svs RA rc SA sc w3)∧Hid (Q.Sols (Q.fns rs) (Q.fns rs) ls):=by
   rcases HD.out with h | ⟨_,h1,w0,tb,ls,rvs,svs,RA,rc,SA,sc,h2,h3,h4⟩
   ·exact absurd rfl h.1
   ·exact ⟨Lib.hid h1,tb,ls,rvs,svs,RA,rc,SA,sc,w0,h2,Lib.hid h3,Lib.hid h4⟩
  clear HD
  obtain ⟨gb,hgb⟩:∃ gb,gb=w3.heap.size:=⟨_,rfl⟩
  have hg0:=BdI.start w3
  rw [← hgb] at hg0
  have HG0:=Lib.hid hg0
  have HGB:=Lib.hid hgb
  have HR3:=Lib.hid (H2.out.below (HB3.out.mono (by have:=HBB.out;have:=HZ2.out;omega)))
  have hln:=HR3.out.len
  have c4:∀ o,(w3.alloc o).cell? ⟨pb,0,none⟩=some (.slice A n c):=fun o=>(HP3.out.alloc o).cell 0
  clear hg0
  go_upto_region 5 with fail
  rw [← hgb]
  obtain ⟨w4,hw4⟩:∃ w4,w4=w3.alloc (.cells #[.slice none 0 0] 29):=⟨_,rfl⟩
  rw [← hw4] at HG0 ⊢
  have c5:w4.cell? ⟨pb,0,none⟩=some (.slice A n c):=by rw [hw4];exact c4 _
  have hle:n≤16:=by
   have h:=(Q.verd_zero HVZ.out).2.1
   unfold Q.bnd at h
   rw [Bool.and_eq_true,decide_eq_true_eq,Q.length_fns,hln] at h
   exact h.1
  clear c4 c3 d3 e3 hw4 hgb gv
  go_wp2
  go_loopw [22] (fun i wr=>∃ (k:Nat) (GA:Option Addr) (gc:Nat) (gs:List RG),k≤n∧i=.int .i64 k∧Hid (BdI w3 gb GA gc gs wr)∧Hid (gs.length=k)∧Hid (gs.map (·.gr)=(buildB (Q.fns rs) ls).take k)) (fun i _=>n-(intOf i).toNat)
  case atStart=>exact ⟨0,none,0,[],by omega,rfl,HG0,Lib.hid rfl,Lib.hid (by simp)⟩
  case round =>
   obtain ⟨k,GA,gc,gs,hk,rfl,HI,HL,HE⟩:=hrel
   have HBW:Hid (Below w3.heap.size w3 wr):=Lib.hid (by have h:=HI.out.below;rw [HGB.out] at h;exact h)
   by_cases hlt:k<n
   ·have gk:IntKind.i64.wrap (k:Int)=(k:Int):=bi64 (by omega)
    have gk1:IntKind.i64.wrap ((k:Int)+1)=((k+1:Nat):Int):=by
     rw [show (k:Int)+1=((k+1:Nat):Int) by omega]
     exact bi64 (by omega)
    have HRW:=Lib.hid (HR3.out.below (HBW.out.mono (by have:=HBB.out;have:=HZ2.out;have:=HB3.out.size;omega)))
    obtain ⟨fb,fo,r,rfl,hfb,HX,HF,HWF,x0,x1,x2,x3,x4⟩:=HRW.out.fn hlt
    have HFX:Hid ((Q.fns rs)[k]?=some r.fn):=Lib.hid (by unfold Q.fns;rw [List.getElem?_map,HX.out];rfl)
    obtain ⟨l,hl,hsol⟩:=HTI.out.sols k r.fn hlt HFX.out
    have HASK:=Lib.hid (ask_of HVZ.out HX.out hsol)
    obtain ⟨rv,sv,hrv,hsv,hfn⟩:=HTI.out.each k l hl
    have hfnw:=(hfn.below HBW.out).at_
    obtain ⟨ra,sa,m,vs,rfl,rfl,hlm,hm6,hra,hsa,hvl,hbra,hbsa,hvs⟩:=hfnw
    have HRA:Hid (Q.Blk wr ra 4 (Q.reachC l).toArray):=Lib.hid hra
    have HSA:Hid (Q.Blk wr sa 38 vs.toArray):=Lib.hid hsa
    have HVS:=Lib.hid hvs
    have HLM:Hid (l.length=m):=Lib.hid hlm
    have HSOL:=Lib.hid hsol
    have HLL:=Lib.hid hl
    obtain ⟨ub,uo,hue,hub,huc⟩:=(Q.Reads.of_own HTI.out.tj.rr).lit (by omega) (by omega)
    obtain ⟨sb,so,hse,hsb,hsc⟩:=(Q.Reads.of_own HTI.out.tj.ss).lit (by omega) (by omega)
    subst hue
    subst hse
    have htb:=HTI.out.tj.blk.lt
    have ST:Hid (∀ X,Below w3.heap.size w3 X→X.cell? ⟨pb,0,none⟩=some (.slice (some ⟨fb,fo,none⟩) n c)∧X.cell? ⟨tb,0,none⟩=some (.slice (some ⟨ub,uo,none⟩) n rc)∧X.cell? ⟨tb,1,none⟩=some (.slice (some ⟨sb,so,none⟩) n sc)∧X.cell? ⟨ub,uo+k,none⟩=some (.slice (some ⟨ra,0,none⟩) m m)∧X.cell? ⟨sb,so+k,none⟩=some (.slice (some ⟨sa,0,none⟩) m m)):=Lib.hid fun X hx =>
     ⟨(HP3.out.below hx HP3.out.lt).cell 0,(hx.cell (p:=⟨tb,0,none⟩) htb).trans (HTI.out.tj.blk.cell 0),(hx.cell (p:=⟨tb,1,none⟩) htb).trans (HTI.out.tj.blk.cell 1),(hx.cell (p:=⟨ub,uo+k,none⟩) hub).trans (huc _ _ hrv),(hx.cell (p:=⟨sb,so+k,none⟩) hsb).trans (hsc _ _ hsv)⟩
    have hml:m=r.fn.code.length:=by rw [← hlm];exact hsol.len
    subst hml
    have hwz:w3.heap.size≤wr.heap.size:=HBW.out.size
    have htbw:tb<wr.heap.size:=by omega
    clear hl hsol hrv hsv hfn hlm hra hsa hvl hbra hbsa hvs huc hsc hub hsb htb HWF
    go_upto_region 8 with fail
    obtain ⟨y1,hy1⟩:∃ y1,y1=wr.alloc (.cells #[.int .i64 r.fn.params,.slice r.lo r.fn.locals.length r.lc,.bool r.fn.result,.int .i64 r.fn.keep,.slice r.co r.fn.code.length r.cc] 41):=⟨_,rfl⟩
    rw [← hy1]
    have hY1:Below wr.heap.size wr y1:=by rw [hy1];exact (Below.refl _ _).alloc (Nat.le_refl _) _
    have hz1:y1.heap.size=wr.heap.size+1:=by rw [hy1];simp
    have f1:Blk y1 wr.heap.size 41 #[.int .i64 r.fn.params,.slice r.lo r.fn.locals.length r.lc,.bool r.fn.result,.int .i64 r.fn.keep,.slice r.co r.fn.code.length r.cc]:=by rw [hy1];exact Blk.new _ _ _
    have g0:y1.cell? ⟨wr.heap.size,0,none⟩=some (.int .i64 r.fn.params):=f1.cell 0
    have g1:y1.cell? ⟨wr.heap.size,1,none⟩=some (.slice r.lo r.fn.locals.length r.lc):=f1.cell 1
    have g2:y1.cell? ⟨wr.heap.size,2,none⟩=some (.bool r.fn.result):=f1.cell 2
    have g3:y1.cell? ⟨wr.heap.size,3,none⟩=some (.int .i64 r.fn.keep):=f1.cell 3
    have g4:y1.cell? ⟨wr.heap.size,4,none⟩=some (.slice r.co r.fn.code.length r.cc):=f1.cell 4
    obtain ⟨s0,s1,s2,s3,s4⟩:=ST.out y1 (HBW.out.trans (hY1.mono hwz))
    have HY1:=Lib.hid hY1
    have HZ1:=Lib.hid hz1
    clear hY1 hz1 f1 hy1 x0 x1 x2 x3 x4
    go_cut [9,22] from 23 to 55 (fun s9 s22 wx=>s9=.pointer (some ⟨y1.heap.size,0,none⟩)∧s22=.int .i64 k∧Hid (Blk wx y1.heap.size 81 #[.slice (some ⟨fb,fo,none⟩) n c,.int .i64 r.fn.params,.slice r.lo r.fn.locals.length r.lc,.bool r.fn.result,.int .i64 r.fn.keep,.slice r.co r.fn.code.length r.cc,.slice (some ⟨sa,0,none⟩) r.fn.code.length r.fn.code.length,.slice none 0 0,.slice none 0 0,.int .i64 0])∧Hid (Below y1.heap.size y1 wx))
    case first =>
     go_region_law fail
     all_goals
      go_wp2_with fail
      go_meet
      exact ⟨rfl,rfl,Lib.hid (Blk.new y1 _ _),Lib.hid ((Below.refl _ _).alloc (Nat.le_refl _) _).drew⟩
    case rest =>
     obtain ⟨rfl,rfl,HBX,HYC⟩:=hcut
     have HWC:Hid (Below wr.heap.size wr wc):=Lib.hid (HY1.out.trans (HYC.out.mono (by have:=HZ1.out;omega)))
     obtain ⟨_,s5,s6,s7,s8⟩:=ST.out wc (HBW.out.trans (HWC.out.mono hwz))
     have hrb:ra<y1.heap.size:=by have:=HRA.out.lt;have:=HZ1.out;omega
     have hyz:y1.heap.size<wc.heap.size:=HBX.out.lt
     have HRC:=Lib.hid (HRW.out.below (HWC.out.mono (by have:=HBB.out;have:=HZ2.out;have:=HB3.out.size;omega)))
     have HFC:Hid (Q.RdF wc B r):=Lib.hid (HF.out.below (HWC.out.mono (by have:=HBB.out;have:=HZ2.out;have:=HB3.out.size;omega)))
     have HNU:=Lib.hid (number_any (B:=y1.heap.size) (f:=r.fn) (l:=l) HBX.out (Nat.le_refl _) (show Reads wc y1.heap.size 3 r.co r.fn.code.length (Q.insc r.fn.code) from HFC.out.code.more (by have:=HBB.out;have:=HZ2.out;have:=HB3.out.size;have:=HZ1.out;omega)) hrb (show Blk wc ra 4 (Q.reachC l).toArray from HRA.out.below HWC.out HRA.out.lt) HLM.out rfl rfl rfl (by have:=HASK.out.ll;omega) (by have:=HASK.out.cod;omega) HASK.out.kpo (fun i hi h4=>arg_of (HASK.out.ref i hi) (HASK.out.okI i hi) h4))
     clear s0 s1 s2 s3 s4 g0 g1 g2 g3 g4
     go_upto_region 10 with (go_at_call 15;refine HNU.out.mono ?_;rintro e wn ⟨rfl,NA,cN,hnu⟩;have HNI:=Lib.hid hnu;clear hnu)
     have HBN:Hid (Below wr.heap.size wr wn):=Lib.hid (HWC.out.trans (HNI.out.below.mono (by have:=HZ1.out;omega)))
     have hgw:gb<wr.heap.size:=HI.out.box.lt
     have hwn:wr.heap.size≤wn.heap.size:=HBN.out.size
     have HGA:Hid (Calls Try.prog 16 #[.pointer (some ⟨y1.heap.size,0,none⟩)] wn.drew (GraphPost wn.drew (graphB (Q.fns rs) r.fn l))):=Lib.hid (by
      have hbg:=nu_bg (rs:=rs) (r:=r) (l:=l) (vs:=vs) (B0:=B) HNI.out (HRW.out.below (HBN.out.mono (by have:=HBB.out;have:=HZ2.out;have:=HB3.out.size;omega)) |>.more (by have:=HBB.out;have:=HZ2.out;have:=HB3.out.size;have:=HZ1.out;omega)) ((HF.out.below (HBN.out.mono (by have:=HBB.out;have:=HZ2.out;have:=HB3.out.size;omega))).more (by have:=HBB.out;have:=HZ2.out;have:=HB3.out.size;have:=HZ1.out;omega)) (by have:=HASK.out.ll;omega) (by omega) (HSA.out.below HBN.out HSA.out.lt) (fun j x hx=>by
       obtain ⟨a,q,k',h1,h2,h3⟩:=HVS.out j x hx
       exact ⟨a,q,k',h1,h2,own_below h3 HBN.out⟩) HLM.out
      exact graph_any _ _ _ _ _ _ _ _ _ _ _ _ _ _ _ _ _ _ wn.drew (BGb.toBG (hbg.b.below (Below.refl _ _).drew)) HASK.out rfl rfl rfl)
     have c6:wn.cell? ⟨gb,0,none⟩=some (.slice GA gs.length gc):=(HI.out.on HBN.out).box.cell 0
     have hgl:gs.length≤16:=by rw [HL.out];omega
     clear s5 s6 s7 s8
     go_region_law (first
      | (go_simp;go_at_call 16;refine HGA.out.mono ?_;rintro e w9 ⟨r9,hr9,rfl,ho9,hb9⟩;rw [show (rgOne r9).toArray=#[.slice r9.po r9.gr.params.length r9.pc,.slice r9.ko r9.gr.kinds.length r9.kc,.int .i64 r9.gr.cells,.slice r9.io r9.gr.init.length r9.ic,.bool r9.gr.result,.int .i64 r9.gr.keep,.slice r9.no r9.gr.nodes.length r9.nc,.int .i64 r9.gr.entry] from rfl];have HR9:=Lib.hid hr9;have HG9:=Lib.hid (HI.out.on (HBN.out.drew.trans (hb9.mono hwn)));have HO9:Hid (OwnB w9 (gb+1) r9):=Lib.hid (ho9.more (by show gb+1≤wn.heap.size;omega));clear ho9 hb9 hr9;have d6:w9.cell? ⟨gb,0,none⟩=some (.slice GA gs.length gc):=HG9.out.box.cell 0;have d6':∀ o,(w9.alloc o).cell? ⟨gb,0,none⟩=some (.slice GA gs.length gc):=fun o=>(HG9.out.box.alloc o).cell 0)
      | (refine step_graph rfl _ _ rfl (gb+1) (.slice GA gs.length gc) gs.length (rgc gs) rfl (own_alloc HG9.out.own _) (w9.heap.size+1) (some ⟨w9.heap.size,0,none⟩) 1 1 (rgOne r9) rfl (one_reads w9 45 (rgOne r9) 8 rfl) (rgOne_one r9) (by omega) (by have:=HG9.out.box.lt;simp;omega) ?_;intro v8 w8 hown hgr hor;obtain ⟨A8,c8,rfl,f8,⟨y8,hy8⟩,HG8⟩:=HG9.out.push HO9.out hown hgr;clear hown hgr hor))
     all_goals
      clear c6
      go_wp2
      go_roundw
      case rel=>exact ⟨k+1,A8,c8,gs ++ [r9],by omega,by go_num,HG8,Lib.hid (by simp [HL.out]),Lib.hid (by rw [buildB_take HFX.out HLL.out,List.map_append,HE.out,← HR9.out];rfl)⟩
      case measure=>simp [intOf];omega
   ·obtain rfl:k=n:=by omega
    have HQW:=Lib.hid (HQ3.out.below HBW.out HQ3.out.lt)
    have c6:wr.cell? ⟨gb,0,none⟩=some (.slice GA gs.length gc):=HI.out.box.cell 0
    have d3:wr.cell? ⟨qb,0,none⟩=some (.slice none 0 0):=HQW.out.cell 0
    have e3:wr.frozen? ⟨qb,0,none⟩=false:=HQW.out.frozen 0
    have HEE:Hid (gs.map (·.gr)=buildB (Q.fns rs) ls):=Lib.hid (by
     rw [HE.out]
     exact List.take_of_length_le (by simp [buildB,Q.length_fns,HTI.out.len,hln]))
    have hgw:gb<wr.heap.size:=HI.out.box.lt
    have hww:W.heap.size≤gb:=by rw [HGB.out];exact HW3.out.size
    go_wp2
    have d4:(wr.setCell ⟨qb,0,none⟩ (.slice GA gs.length gc)).cell? ⟨qb,0,none⟩=some (.slice GA gs.length gc):=(HQW.out.set_ 0 _).cell 0
    refine bodyPost_ret (v:=.tuple #[.agg #[.slice GA gs.length gc],.int .i64 0]) (by simp [results,Try.results8,go_sem,d4]) rfl ?_
    have far:∀ {v:Value} {q:Nat} {e:TypeId} {s:Nat} {xs:List Value},wr.ownsRow (gb+1) e s v q xs→e≠29→(wr.setCell ⟨qb,0,none⟩ (.slice GA gs.length gc)).ownsRow W.heap.size e s v q xs:=fun hh h1=>own_far (own_more hh (by omega)) HQW.out h1 _ _
    refine ⟨(HW3.out.trans (HBW.out.mono HW3.out.size)).setCell (p:=⟨qb,0,none⟩) (by show _≤qb;rw [HQB.out];omega) _,.inr ⟨HVZ.out,ls,GA,gc,gs,rfl,far HI.out.own (by decide),fun x hx=>?_,HEE.out,HSO.out⟩⟩
    have h:=HI.out.each x hx
    exact ⟨far h.po (by decide),far h.ko (by decide),far h.io (by decide),far h.no (by decide),fun i hi=>far (h.ar i hi) (by decide),h.nd⟩
 ·have gv:(v != 0)=true:=by simpa using hv
  have HVZ:Hid (v=Q.verd (Q.fns rs)):=Lib.hid (by
   rcases HD.out with h | ⟨h,_⟩
   ·exact h.2
   ·exact absurd h hv)
  have HVN:=Lib.hid hv
  clear hv HD
  go_wp2
  have d4:(w3.setCell ⟨qb,0,none⟩ (.slice none 0 0)).cell? ⟨qb,0,none⟩=some (.slice none 0 0):=(HQ3.out.set_ 0 _).cell 0
  refine bodyPost_ret (v:=.tuple #[.agg #[.slice none 0 0],.int .i64 v]) (by simp [results,Try.results8,go_sem,d4]) rfl ?_
  exact ⟨HW3.out.setCell (p:=⟨qb,0,none⟩) (by show _≤qb;rw [HQB.out];omega) _,.inl ⟨by rw [← HVZ.out];exact HVN.out,by rw [← HVZ.out]⟩⟩
theorem flat2_len (m:Nat):((List.replicate m [(0:Int),1]).flatten).length=2*m:=by
 induction m with
 | zero=>rfl
 | succ m ih=>rw [List.replicate_succ,List.flatten_cons,List.length_append,ih];simp;omega
theorem flat2_at:∀ (m d k:Nat),d<m→k<2→((List.replicate m [(0:Int),1]).flatten)[2*d+k]?=some (k:Int)
 | 0,d,k,h,_=>by omega
 | m+1,0,k,h,hk=>by
  rw [List.replicate_succ,List.flatten_cons,List.getElem?_append_left (by simp;omega)]
  have:k=0∨k=1:=by omega
  rcases this with rfl | rfl <;> rfl
 | m+1,d+1,k,h,hk=>by
  rw [List.replicate_succ,List.flatten_cons,List.getElem?_append_right (by simp;omega)]
  have:=flat2_at m d k (by omega) hk
  rw [show 2*(d+1)+k - [(0:Int),1].length=2*d+k by simp;omega]
  exact this
theorem kindsB_len (f:Q.Fn):(kindsB f).length=f.locals.length+32:=by
 unfold kindsB
 rw [List.length_append,flat2_len]
theorem word_fits (f:Q.Fn) {d:Nat} {k:Int} (hd:d<16) (hk:k=0∨k=1):fits (kindsB f) false (wordB f d k) k:=by
 obtain ⟨q,rfl,hq⟩:∃ q:Nat,k=q∧q<2:=by
  rcases hk with rfl | rfl
  ·exact ⟨0,rfl,by omega⟩
  ·exact ⟨1,rfl,by omega⟩
 have e:wordB f d q=((f.locals.length+(2*d+q):Nat):Int):=by unfold wordB;omega
 refine ⟨⟨by omega,by rw [e,kindsB_len];omega⟩,.inr ?_⟩
 unfold kindAt
 rw [e,Int.toNat_natCast,List.getD_eq_getElem?_getD]
 unfold kindsB
 rw [List.getElem?_append_right (by omega),show f.locals.length+(2*d+q)-f.locals.length=2*d+q by omega,flat2_at 16 d q hd hq]
 rfl
theorem loc_one (f:Q.Fn) {l:Int} (h0:0≤l) (h1:l<f.locals.length):isOne l (kindsB f).length:=⟨h0,by rw [kindsB_len];omega⟩
theorem loc_kind (f:Q.Fn) {l:Int} (h0:0≤l) (h1:l<f.locals.length):kindAt (kindsB f) l=f.locals.getD l.toNat 0:=by
 unfold kindAt kindsB
 rw [List.getD_eq_getElem?_getD,List.getD_eq_getElem?_getD,List.getElem?_append_left (by omega)]
structure CellOk (f:Q.Fn) (x:List Int × Nat):Prop where
 len:x.1.length=f.locals.length
 at_:∀ l,l<x.1.length→x.1.getD l 0=-1∨(0≤x.1.getD l 0∧x.1.getD l 0<x.2∧f.locals.getD l 0=0)
 cnt:x.2+x.1.countP (·=-1)=f.locals.length
theorem countP_set_one {l:List Int} {k:Nat} {v:Int} (hk:l.getD k 0=-1) (hv:v≠-1) (hl:k<l.length):(l.set k v).countP (·=-1)+1=l.countP (·=-1):=by
 induction l generalizing k with
 | nil=>simp at hl
 | cons a r ih =>
  cases k with
  | zero =>
   have ha:a=-1:=by simpa using hk
   simp [List.countP_cons,ha,hv]
  | succ k =>
   have:=ih (k:=k) (by simpa using hk) (by simpa using hl)
   simp only [List.set_cons_succ,List.countP_cons]
   omega
theorem CellOk.need {f:Q.Fn} {x:List Int × Nat} (h:CellOk f x) {l:Int} (h0:0≤l) (hn:Q.numL f l=true):CellOk f (needB x l):=by
 have hl:=numL_lt hn
 have hz:f.locals.getD l.toNat 0=0:=by
  unfold Q.numL at hn
  rw [Bool.and_eq_true] at hn
  simpa using hn.2
 unfold needB
 split
 ·next he =>
  have hll:l.toNat<x.1.length:=by rw [h.len];omega
  refine ⟨by simp [h.len],fun j hj=>?_,?_⟩
  ·by_cases hjl:j=l.toNat
   ·subst hjl
    right
    have:(x.1.set l.toNat (x.2:Int)).getD l.toNat 0=x.2:=by simp [List.getD_eq_getElem?_getD,hll]
    simp only [this]
    exact ⟨by omega,by omega,hz⟩
   ·have:(x.1.set l.toNat (x.2:Int)).getD j 0=x.1.getD j 0:=by
     simp only [List.getD_eq_getElem?_getD]
     rw [List.getElem?_set_ne (by omega)]
    simp only [this]
    rcases h.at_ j (by simpa using hj) with h1 | ⟨h1,h2,h3⟩
    ·exact .inl h1
    ·exact .inr ⟨h1,by omega,h3⟩
  ·have:=countP_set_one he (v:=(x.2:Int)) (by omega) hll
   have:=h.cnt
   simp only
   omega
 ·exact h
theorem cells_start (f:Q.Fn):CellOk f (List.replicate f.locals.length (-1),0):=by
 refine ⟨by simp,fun l hl=>.inl ?_,?_⟩
 ·simp only [List.length_replicate] at hl
  simp [List.getD_eq_getElem?_getD,List.getElem?_replicate,hl]
 ·simp [List.countP_replicate]
theorem cells_ok {f:Q.Fn} {l:List (Option Q.Stk)} (hk:f.keep=-1∨(0≤f.keep∧Q.numL f f.keep=true)) (ha:∀ i ∈ f.code,i.op=4→0≤i.arg∧Q.numL f i.arg=true):CellOk f (cellsB f l):=by
 unfold cellsB
 have h0:CellOk f (if f.keep=-1 then (List.replicate f.locals.length (-1),0) else needB (List.replicate f.locals.length (-1),0) f.keep):=by
  split
  ·exact cells_start f
  ·next hn =>
   rcases hk with h | h
   ·exact absurd h hn
   ·exact (cells_start f).need h.1 h.2
 have hz:∀ p ∈ f.code.zip l,p.1 ∈ f.code:=fun p hp=>(List.of_mem_zip (a:=p.1) (b:=p.2) hp).1
 simp only
 generalize (if f.keep=-1 then (List.replicate f.locals.length (-1),0) else needB (List.replicate f.locals.length (-1),0) f.keep:List Int × Nat)=x at h0 ⊢
 revert x hz
 generalize f.code.zip l=zs
 intro hz
 induction zs with
 | nil=>intro x h;exact h
 | cons p r ih =>
  intro x h
  rw [List.foldl_cons]
  refine ih (fun q hq=>hz q (List.mem_cons_of_mem _ hq)) _ ?_
  split
  ·next hc =>
   have:=ha p.1 (hz p (List.mem_cons_self)) hc.2
   exact h.need this.1 this.2
  ·exact h
structure FnM (fs:List Q.Fn) (f:Q.Fn) (l:List (Option Q.Stk)):Prop where
 sol:Q.Sol fs f l
 okI:∀ i ∈ f.code,Q.okI i=true
 ref:∀ i ∈ f.code,Q.insRef fs f i=true
 loc:∀ x ∈ f.locals,x=0∨x=1
 cod:f.code.length≤256
 ll:f.locals.length≤16
 p0:0≤f.params
 p4:f.params≤4
 pl:f.params≤f.locals.length
 kp:f.keep=-1∨(0≤f.keep∧Q.numL f f.keep=true)
 deep:∀ (k:Nat) s,l[k]?=some (some s)→s.length≤16
 knd:∀ (k:Nat) s,l[k]?=some (some s)→∀ x ∈ s,x=0∨x=1
theorem fnM_of {fs:List Q.Fn} {f:Q.Fn} {l:List (Option Q.Stk)} (hv:Q.verd fs=0) (hm:f ∈ fs) (hs:Q.Sol fs f l):FnM fs f l:=by
 obtain ⟨h1,h2,h3,h4⟩:=Q.verd_zero hv
 unfold Q.okP at h1
 rw [Bool.and_eq_true,List.all_eq_true] at h1
 have ho:=h1.2 _ hm
 unfold Q.okF at ho
 simp only [Bool.and_eq_true,List.all_eq_true,decide_eq_true_eq] at ho
 obtain ⟨⟨⟨⟨⟨⟨⟨o1,o2⟩,o3⟩,o4⟩,o5⟩,o6⟩,o7⟩,o8⟩:=ho
 unfold Q.bnd at h2
 rw [Bool.and_eq_true,List.all_eq_true] at h2
 have hb:=h2.2 _ hm
 unfold Q.bndF at hb
 simp only [Bool.and_eq_true,decide_eq_true_eq] at hb
 obtain ⟨⟨b1,b2⟩,b3⟩:=hb
 unfold Q.refB at h3
 rw [Bool.and_eq_true,List.all_eq_true] at h3
 have hf:=h3.2 _ hm
 unfold Q.fnRef at hf
 rw [Bool.and_eq_true,List.all_eq_true] at hf
 obtain ⟨f1,f2⟩:=hf
 have hk:∀ x ∈ f.locals,x=0∨x=1:=fun x hx=>by
  have:=o7 x hx
  unfold Q.kindB at this
  simpa using this
 refine ⟨hs,o8,f2,hk,b3,b2,o3,b1,o4,?_,fun j s hj=>?_,fun j s hj=>Q.reach_kind hk ((hs.iff j s).1 hj)⟩
 ·unfold Q.keepsB at f1
  split at f1
  ·next h=>exact .inl h
  ·next h=>exact .inr ⟨by omega,f1⟩
 ·have:¬ 16<s.length:=fun hl=>h4 ⟨f,hm,j,s,(hs.iff j s).1 hj,hl⟩
  omega
section
variable {fs:List Q.Fn} {f:Q.Fn} {l:List (Option Q.Stk)}
theorem FnM.arg (h:FnM fs f l):∀ i ∈ f.code,i.op=4→0≤i.arg∧Q.numL f i.arg=true:=fun i hi h4=>by
 have hr:=h.ref i hi
 unfold Q.insRef at hr
 rw [if_neg (by omega),if_pos h4] at hr
 have ho:=h.okI i hi
 unfold Q.okI at ho
 simp only [Bool.and_eq_true] at ho
 have h2:=ho.1.2
 unfold Q.fitB at h2
 rw [decide_eq_true_eq] at h2
 exact ⟨h2.1,hr⟩
theorem FnM.cells (h:FnM fs f l):CellOk f (cellsB f l):=cells_ok h.kp h.arg
theorem need_has {x:List Int × Nat} {k:Int} (hl:k.toNat<x.1.length):(needB x k).1.getD k.toNat 0≠-1:=by
 unfold needB
 split
 ·simp [List.getD_eq_getElem?_getD,hl]
 ·next h=>exact h
theorem need_mono {x:List Int × Nat} {k:Int} {j:Nat} (h:x.1.getD j 0≠-1):(needB x k).1.getD j 0≠-1:=by
 unfold needB
 split
 ·next he =>
  by_cases e:j=k.toNat
  ·subst e;exact absurd he h
  ·simp only [List.getD_eq_getElem?_getD] at h ⊢
   rw [List.getElem?_set_ne (by omega)]
   exact h
 ·exact h
theorem fold_mono:∀ (zs:List (Q.Ins × Option Q.Stk)) (x:List Int × Nat) (j:Nat),x.1.getD j 0≠-1→(zs.foldl (fun x p=>if p.2.isSome∧p.1.op=4 then needB x p.1.arg else x) x).1.getD j 0≠-1
 | [],x,j,h=>h
 | p :: r,x,j,h=>by
  rw [List.foldl_cons]
  refine fold_mono r _ j ?_
  split
  ·exact need_mono h
  ·exact h
theorem fold_has:∀ (zs:List (Q.Ins × Option Q.Stk)) (x:List Int × Nat) (p:Q.Ins × Option Q.Stk),p ∈ zs→p.2.isSome=true→p.1.op=4→p.1.arg.toNat<x.1.length→(zs.foldl (fun x p=>if p.2.isSome∧p.1.op=4 then needB x p.1.arg else x) x).1.getD p.1.arg.toNat 0≠-1
 | [],x,p,h,_,_,_=>by cases h
 | q :: r,x,p,h,h1,h2,h3=>by
  rw [List.foldl_cons]
  rcases List.mem_cons.1 h with rfl | h
  ·refine fold_mono r _ _ ?_
   rw [if_pos ⟨h1,h2⟩]
   exact need_has h3
  ·refine fold_has r _ p h h1 h2 ?_
   split
   ·rw [needB_len];exact h3
   ·exact h3
theorem FnM.kept (h:FnM fs f l) (hk:f.keep≠-1):(cellsB f l).1.getD f.keep.toNat 0≠-1:=by
 unfold cellsB
 simp only
 refine fold_mono _ _ _ ?_
 rw [if_neg hk]
 rcases h.kp with h1 | h1
 ·exact absurd h1 hk
 ·have:=numL_lt h1.2
  exact need_has (by simp;omega)
theorem FnM.addr (h:FnM fs f l) {k:Nat} {i:Q.Ins} {s:Q.Stk} (hi:f.code[k]?=some i) (hl:l[k]?=some (some s)) (h4:i.op=4):(cellsB f l).1.getD i.arg.toNat 0≠-1:=by
 unfold cellsB
 simp only
 have hz:(f.code.zip l)[k]?=some (i,some s):=by
  rw [List.getElem?_zip_eq_some]
  exact ⟨hi,hl⟩
 have ha:=h.arg i (List.mem_of_getElem? hi) h4
 have:=numL_lt ha.2
 refine fold_has _ _ (i,some s) (List.mem_of_getElem? hz) rfl h4 ?_
 split
 ·simp;omega
 ·rw [needB_len];simp;omega
theorem nodesK_len (hl:l.length=f.code.length) (cells nodes:List Int):∀ k,k≤l.length→(nodesK fs f l cells nodes k).length=cntB l k
 | 0,_=>by simp [nodesK,cntB]
 | k+1,hk=>by
  have ih:=nodesK_len hl cells nodes k (by omega)
  obtain ⟨y,hy⟩:∃ y,l[k]?=some y:=⟨_,List.getElem?_eq_getElem (by omega)⟩
  obtain ⟨i,hi⟩:∃ i,f.code[k]?=some i:=⟨_,List.getElem?_eq_getElem (by omega)⟩
  rw [cntB_succ hy]
  cases y with
  | none=>rw [nodesK_none hy,ih];simp
  | some s=>rw [nodesK_some hy hi,List.length_append,ih];simp
theorem cntB_le (l:List (Option Q.Stk)):∀ (d k:Nat),k+d≤l.length→cntB l k≤cntB l (k+d)
 | 0,k,_=>Nat.le_refl _
 | d+1,k,h=>by
  have ih:=cntB_le l d k (by omega)
  have hy:l[k+d]?=some l[k+d]:=List.getElem?_eq_getElem (by omega)
  rw [← Nat.add_assoc,cntB_succ hy]
  omega
theorem graphB_nodes (h:FnM fs f l):(graphB fs f l).nodes.length=cntB l l.length:=nodesK_len h.sol.len _ _ l.length (Nat.le_refl _)
theorem FnM.goes (h:FnM fs f l) {b:Nat} {s:Q.Stk} (hb:l[b]?=some (some s)):isOne ((nodesB 0 l).getD b 0) (graphB fs f l).nodes.length:=by
 rw [graphB_nodes h,List.getD_eq_getElem?_getD,nodesB_at l 0 b _ hb]
 have hlt:=(List.getElem?_eq_some_iff.1 hb).1
 have h1:=cntB_succ hb
 have h2:=cntB_le l (l.length-(b+1)) (b+1) (by omega)
 rw [show b+1+(l.length-(b+1))=l.length by omega] at h2
 simp only [Option.isSome_some,if_true,Option.getD_some] at h1 ⊢
 exact ⟨by omega,by omega⟩
theorem range_getD (n i:Nat) (hi:i<n):((List.range n).map fun (j:Nat)=>(j:Int)).getD i 0=i:=by
 simp [List.getD_eq_getElem?_getD,hi]
theorem FnM.head (h:FnM fs f l):headHolds (graphB fs f l) false:=by
 have hc:=h.cells
 have hcc:=hc.cnt
 have hll:=h.ll
 have hcod:=h.cod
 have hlen:=h.sol.len
 have hn:=graphB_nodes h
 have hle:cntB l l.length≤l.length:=by
  unfold cntB
  exact Nat.le_trans List.countP_le_length (by rw [List.length_take];omega)
 have hp0:=h.p0
 have hp4:=h.p4
 have hpl:=h.pl
 refine ⟨⟨by show (kindsB f).length≤1024;rw [kindsB_len];omega,(fun e=>by cases e),fun k hk=>?_⟩,by show (0:Int)≤((cellsB f l).2:Nat);omega,by show ((cellsB f l).2:Int)≤64;omega,⟨?_,?_⟩,⟨?_,fun i hi=>?_⟩,?_,by omega,?_⟩
 ·have hk':k ∈ f.locals ++ (List.replicate 16 [0,1]).flatten:=hk
  rcases List.mem_append.1 hk' with h1 | h1
  ·exact h.loc k h1
  ·obtain ⟨x,hx,hkx⟩:=List.mem_flatten.1 h1
   rw [List.mem_replicate] at hx
   rw [hx.2] at hkx
   simpa using hkx
 ·show ((List.range f.params.toNat).map fun (j:Nat)=>(j:Int)).length≤4
  simp
  omega
 ·rw [if_neg (by decide)]
  intro i hi
  have hi':i<f.params.toNat:=by
   have:i<((List.range f.params.toNat).map fun (j:Nat)=>(j:Int)).length:=hi
   simpa using this
  have e:(graphB fs f l).params.getD i 0=i:=range_getD _ _ hi'
  rw [e]
  refine ⟨loc_one f (by omega) (by omega),fun hm=>?_⟩
  have hm':(i:Int) ∈ ((List.range f.params.toNat).map fun (j:Nat)=>(j:Int)).take i:=hm
  rw [← List.map_take,List.take_range,List.mem_map] at hm'
  obtain ⟨j,hj,e⟩:=hm'
  rw [List.mem_range] at hj
  omega
 ·show ((List.range f.params.toNat).map fun j=>(cellsB f l).1.getD j 0).length=((List.range f.params.toNat).map fun (j:Nat)=>(j:Int)).length
  simp
 ·have hi':i<f.params.toNat:=by
   have:i<((List.range f.params.toNat).map fun j=>(cellsB f l).1.getD j 0).length:=hi
   simpa using this
  have e:(graphB fs f l).params.getD i 0=i:=range_getD _ _ hi'
  have e2:(graphB fs f l).init.getD i 0=(cellsB f l).1.getD i 0:=by
   show ((List.range f.params.toNat).map fun j=>(cellsB f l).1.getD j 0).getD i 0=_
   simp [List.getD_eq_getElem?_getD,hi']
  rw [e,e2]
  rcases hc.at_ i (by rw [hc.len];omega) with h1 | ⟨h1,h2,h3⟩
  ·exact .inl h1
  ·exact .inr ⟨⟨h1,h2⟩,.inr (by show kindAt (kindsB f) (i:Int)=0;rw [loc_kind f (by omega) (by omega),Int.toNat_natCast];exact h3)⟩
 ·show (if f.keep=-1 then -1 else (cellsB f l).1.getD f.keep.toNat 0)=-1∨isOne (if f.keep=-1 then -1 else (cellsB f l).1.getD f.keep.toNat 0) ((cellsB f l).2:Nat)
  by_cases hk:f.keep=-1
  ·rw [if_pos hk];exact .inl rfl
  ·rw [if_neg hk]
   right
   rcases h.kp with h1 | h1
   ·exact absurd h1 hk
   ·have h3:=numL_lt h1.2
    rcases hc.at_ f.keep.toNat (by rw [hc.len];omega) with h2 | ⟨h2,h4,_⟩
    ·exact absurd h2 (h.kept hk)
    ·exact ⟨h2,h4⟩
 ·have h0:=h.goes (h.sol.zero)
  exact ⟨by show (0:Int)≤0;omega,by have:=h0.1;have:=h0.2;show (0:Int)<_;omega⟩
end
theorem top_get {f:Q.Fn} {s:Q.Stk} {n j:Nat} (hj:j<n):(topB f s n).getD j 0=wordB f (s.length-n+j) (s.getD (s.length-n+j) 0):=by
 simp [topB,List.getD_eq_getElem?_getD,hj]
theorem topB_len' (f:Q.Fn) (s:Q.Stk) (n:Nat):(topB f s n).length=n:=by simp [topB]
theorem drop_get {s T:List Int} (hT:s.drop (s.length-T.length)=T) (j:Nat):s.getD (s.length-T.length+j) 0=T.getD j 0:=by
 have h:=congrArg (fun L=>L.getD j 0) hT
 simp only [List.getD_eq_getElem?_getD,List.getElem?_drop] at h ⊢
 exact h
theorem top_fits {f:Q.Fn} {s T:List Int} (hT:s.drop (s.length-T.length)=T) (hle:T.length≤s.length) (h16:s.length≤16) (hk:∀ x ∈ s,x=0∨x=1) {j:Nat} (hj:j<T.length):fits (kindsB f) false ((topB f s T.length).getD j 0) (T.getD j 0):=by
 rw [top_get hj,drop_get hT j]
 refine word_fits f (by omega) ?_
 rw [← drop_get hT j,List.getD_eq_getElem?_getD,List.getElem?_eq_getElem (show s.length-T.length+j<s.length by omega)]
 exact hk _ (List.getElem_mem _)
structure NdM (fs:List Q.Fn) (f:Q.Fn) (l:List (Option Q.Stk)) (k:Nat) (i:Q.Ins) (s s' T L:Q.Stk):Prop where
 fm:FnM fs f l
 hl:l[k]?=some (some s)
 hi:f.code[k]?=some i
 hT:Q.takesK fs f i (Q.topK s)=T
 hL:Q.leavesK fs f i (Q.topK s)=L
 drop:s.drop (s.length-T.length)=T
 le:T.length≤s.length
 s16:s.length≤16
 sk:∀ x ∈ s,x=0∨x=1
 succ:∀ b ∈ Q.succK k i,l[b]?=some (some s')
 low:Q.succK k i≠[]→s.length-T.length+L.length≤16
theorem FnM.nd {fs:List Q.Fn} {f:Q.Fn} {l:List (Option Q.Stk)} (h:FnM fs f l) {k:Nat} {i:Q.Ins} {s:Q.Stk} (hl:l[k]?=some (some s)) (hi:f.code[k]?=some i):∃ s',NdM fs f l k i s s' (Q.takesK fs f i (Q.topK s)) (Q.leavesK fs f i (Q.topK s)):=by
 obtain ⟨s',haf,hsu⟩:=h.sol.next hl hi
 unfold Q.afterK at haf
 split at haf
 ·next hc =>
  injection haf with haf
  refine ⟨s',h,hl,hi,rfl,rfl,hc.2.1,hc.1,h.deep k s hl,h.knd k s hl,hsu,fun hne=>?_⟩
  obtain ⟨b,hb⟩:=List.exists_mem_of_ne_nil _ hne
  have h1:=h.deep b s' (hsu b hb)
  rw [← haf,List.length_append,List.length_take] at h1
  have:=hc.1
  omega
 ·cases haf
section
variable {fs:List Q.Fn} {f:Q.Fn} {l:List (Option Q.Stk)} {k:Nat} {i:Q.Ins} {s s' T L:Q.Stk}
theorem NdM.top (h:NdM fs f l k i s s' T L) {j:Nat} (hj:j<T.length):fits (kindsB f) false ((topB f s T.length).getD j 0) (T.getD j 0):=top_fits h.drop h.le h.s16 h.sk hj
theorem NdM.left (h:NdM fs f l k i s s' T L) {j:Nat} (hj:j<L.length) (hne:Q.succK k i≠[]) {q:Int} (hq:q=0∨q=1):fits (kindsB f) false (wordB f (s.length-T.length+j) q) q:=word_fits f (by have:=h.low hne;omega) hq
theorem NdM.go (h:NdM fs f l k i s s' T L) {b:Nat} (hb:b ∈ Q.succK k i):isOne ((nodesB 0 l).getD b 0) (graphB fs f l).nodes.length:=h.fm.goes (h.succ b hb)
theorem NdM.loc (h:NdM fs f l k i s s' T L) (ho:i.op=2∨i.op=3):0≤i.arg∧i.arg<f.locals.length:=by
 have hm:=List.mem_of_getElem? h.hi
 have hr:=h.fm.ref i hm
 have hok:=h.fm.okI i hm
 unfold Q.insRef at hr
 rw [if_pos ho,decide_eq_true_eq] at hr
 unfold Q.okI Q.fitB at hok
 simp only [Bool.and_eq_true,decide_eq_true_eq] at hok
 exact ⟨hok.1.2.1,hr⟩
theorem NdM.cell (h:NdM fs f l k i s s' T L) {x:Int} (h0:0≤x) (h1:x<f.locals.length) (hc:(cellsB f l).1.getD x.toNat 0≠-1):isOne ((cellsB f l).1.getD x.toNat 0) ((cellsB f l).2:Nat)∧f.locals.getD x.toNat 0=0:=by
 have hk:=h.fm.cells
 rcases hk.at_ x.toNat (by rw [hk.len];omega) with h2 | ⟨h2,h3,h4⟩
 ·exact absurd h2 hc
 ·exact ⟨⟨h2,h3⟩,h4⟩
theorem NdM.lk (h:NdM fs f l k i s s' T L) {x:Int} (h0:0≤x) (h1:x<f.locals.length):f.locals.getD x.toNat 0=0∨f.locals.getD x.toNat 0=1:=by
 rw [List.getD_eq_getElem?_getD,List.getElem?_eq_getElem (show x.toNat<f.locals.length by omega)]
 exact h.fm.loc _ (List.getElem_mem _)
end
theorem nexts_one {n:Nd} {m:Int} (h:isOne n.next m) (he:n.op=9→isOne n.els m):∀ x ∈ nextsOf n,isOne x m:=by
 intro x hx
 unfold nextsOf at hx
 split at hx
 ·cases hx
 split at hx
 ·next h9 =>
  simp at hx
  rcases hx with rfl | rfl
  ·exact h
  ·exact he h9.1
 ·simp at hx
  subst hx
  exact h
theorem nexts_no {n:Nd} {m:Int} (h:n.op=12∨n.op=14∨n.op=18):∀ x ∈ nextsOf n,isOne x m:=by
 intro x hx
 unfold nextsOf at hx
 rw [if_pos (by omega)] at hx
 cases hx
end Go.Proofs.Ytgekmjkfnhogkaa
