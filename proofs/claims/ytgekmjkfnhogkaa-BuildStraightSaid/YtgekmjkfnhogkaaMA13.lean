/-
  Texts of one seat, one behind the other: QKAll, QKAllW, QAllB, QOps, QPut, QHas.
-/
import Derived.Test.YtgekmjkfnhogkaaMA6
import Derived.Test.YtgekmjkfnhogkaaMA3

set_option linter.unusedVariables false
set_option linter.unusedSimpArgs false
set_option maxRecDepth 100000
set_option maxHeartbeats 51200000
namespace Go.Proofs.Ytgekmjkfnhogkaa.Q
open Go.ChangeShapes Go.WideShapes Go.ChangeAt Go.RowKit
theorem Try.info75:(Try.prog.info? 75).map (fun i=>(i.zero,i.size,i.bytes))=some (some (.slice none 0 0),1,24):=by kernel_rfl
theorem Try.info83:(Try.prog.info? 83).map (fun i=>(i.zero,i.size,i.bytes))=some (some (.slice none 0 0),1,24):=by kernel_rfl
theorem step_bools {w:World} {ops:Array Oper} {o:Oper} {a:Act} {K:Act→World→Prop} {Q:Exit→Act→World→Prop} {E:Prop} (hgd:o.guard=none) (s x:Operand)
  (ho:o.op=.call { callee:=.builtin .append,args:=#[s,x],argTypes:=#[76,76] }) (base:Nat)
  (v:Value) (n:Nat) (xs:List Value) (hs:a.eval s=v) (hown:w.ownsRow base 83 1 v n xs)
  (B:Nat) (A:Option Addr) (m c:Nat) (news:List Value) (hx:a.eval x=.slice A m c) (hr:Reads w B 1 A m news) (h1:∀ u ∈ news,u.oneCell'=true)
  (hbytes:(n+m)*24≤140737488355328) (hbase:base≤w.heap.size)
  (h:∀ v' w',w'.ownsRow base 83 1 v' (n+m) (xs ++ news)→w.grownBy w' v.ownBlock→(v'.ownBlock=v.ownBlock∨v'.ownBlock=some w.heap.size)→K (a.put o.dst v') w') :
  if Region.wanted o (yielded ops a.tmps)=true then Oper.wp Try.prog o a w K Q else E:=by
 obtain ⟨i0,hi,hz0,hz1,hz2⟩:=info_parts Try.info83
 exact step_append_any w hgd s x _ ho base 83 i0 (.slice none 0 0) 1 24 Try.underlying76 hi hz0 hz1 hz2 rfl (by decide) v n xs hs hown B A m c news hx hr h1 (by unfold maxLen;omega) hbytes hbase h
theorem step_stks {w:World} {ops:Array Oper} {o:Oper} {a:Act} {K:Act→World→Prop} {Q:Exit→Act→World→Prop} {E:Prop} (hgd:o.guard=none) (s x:Operand)
  (ho:o.op=.call { callee:=.builtin .append,args:=#[s,x],argTypes:=#[77,77] }) (base:Nat)
  (v:Value) (n:Nat) (xs:List Value) (hs:a.eval s=v) (hown:w.ownsRow base 75 1 v n xs)
  (B:Nat) (A:Option Addr) (m c:Nat) (news:List Value) (hx:a.eval x=.slice A m c) (hr:Reads w B 1 A m news) (h1:∀ u ∈ news,u.oneCell'=true)
  (hbytes:(n+m)*24≤140737488355328) (hbase:base≤w.heap.size)
  (h:∀ v' w',w'.ownsRow base 75 1 v' (n+m) (xs ++ news)→w.grownBy w' v.ownBlock→(v'.ownBlock=v.ownBlock∨v'.ownBlock=some w.heap.size)→K (a.put o.dst v') w') :
  if Region.wanted o (yielded ops a.tmps)=true then Oper.wp Try.prog o a w K Q else E:=by
 obtain ⟨i0,hi,hz0,hz1,hz2⟩:=info_parts Try.info75
 exact step_append_any w hgd s x _ ho base 75 i0 (.slice none 0 0) 1 24 Try.underlying77 hi hz0 hz1 hz2 rfl (by decide) v n xs hs hown B A m c news hx hr h1 (by unfold maxLen;omega) hbytes hbase h

theorem FnAt.kept {w w':World} {B:Nat} {l:List (Option Stk)} {rv sv:Value} {ex:Nat→Prop} (h:FnAt w B l rv sv) (hk:Kp w w' ex) (hb:∀ g cs,Blk w g 4 cs→¬ ex g) (hs:∀ g cs,Blk w g 38 cs→¬ ex g)
  (ho:∀ (v:Value) (q:Nat) (xs:List Value),w.ownsRow B 46 1 v q xs→∀ i,v.ownBlock=some i→¬ ex i):FnAt w' B l rv sv:=by
 obtain ⟨ra,sa,m,vs,h1,h2,h3,h4,h5,h6,h7,h8,h9,h10⟩:=h.at_
 refine ⟨ra,sa,m,vs,h1,h2,h3,h4,hk.blk h5 (hb _ _ h5),hk.blk h6 (hs _ _ h6),h7,h8,h9,fun j x hx=>?_⟩
 obtain ⟨a,q,k,e1,e2,e3⟩:=h10 j x hx
 exact ⟨a,q,k,e1,e2,hk.own e3 (ho _ _ _ e3)⟩
structure TJ (w:World) (tb kr ks:Nat) (rvs svs:List Value) (RA:Option Addr) (rc:Nat) (SA:Option Addr) (sc:Nat) (W:World):Prop where
 blk:Blk W tb 79 #[.slice RA kr rc,.slice SA ks sc]
 rr:W.ownsRow w.heap.size 83 1 (.slice RA kr rc) kr rvs
 ss:W.ownsRow w.heap.size 75 1 (.slice SA ks sc) ks svs
 below:Below w.heap.size w W
 tb_:w.heap.size≤tb
section
variable {w W w8 W':World} {tb kr ks rc sc:Nat} {rvs svs:List Value} {RA SA:Option Addr} {v8 rv sv:Value}
theorem TJ.on (h:TJ w tb kr ks rvs svs RA rc SA sc W) (hb:Below W.heap.size W W'):TJ w tb kr ks rvs svs RA rc SA sc W' :=
 ⟨h.blk.below hb h.blk.lt,own_kept h.rr (fun i hi=>hb.block i (own_lt h.rr hi).2),own_kept h.ss (fun i hi=>hb.block i (own_lt h.ss hi).2),h.below.trans (hb.mono h.below.size),h.tb_⟩
def ExT (tb:Nat) (v:Value) (i:Nat):Prop:=i=tb∨v.ownBlock=some i
theorem own_ty {base size n g:Nat} {e t:TypeId} {v:Value} {xs:List Value} {cs:Array Value} (h:W.ownsRow base e size v n xs) (hb:Blk W g t cs) (hne:e≠t):v.ownBlock≠some g:=own_blk_ne h hb hne
theorem own_ty2 {b1 b2 s1 s2 n1 n2:Nat} {e1 e2:TypeId} {v1 v2:Value} {x1 x2:List Value} (h1:W.ownsRow b1 e1 s1 v1 n1 x1) (h2:W.ownsRow b2 e2 s2 v2 n2 x2) (hne:e2≠e1):∀ i,v2.ownBlock=some i→v1.ownBlock≠some i:=by
 intro i hi e
 rcases h1.2 with ⟨rfl,_⟩ | ⟨g,cap,cur,rfl,_,hb,_⟩
 ·cases e
 ·obtain rfl:g=i:=by simpa [Value.ownBlock] using e
  exact own_blk_ne h2 (g:=g) (t:=e1) (cs:=cur) hb hne hi
theorem TJ.pushR (h:TJ w tb kr ks rvs svs RA rc SA sc W) (o:Obj) (hown:w8.ownsRow w.heap.size 83 1 v8 (kr+1) (rvs ++ [rv])) (hg:(W.alloc o).grownBy w8 (Value.slice RA kr rc).ownBlock) :
  ∃ RA8 c8,v8=.slice RA8 (kr+1) c8∧w8.cell? ⟨tb,0,none⟩=some (.slice RA kr rc)∧w8.cell? ⟨tb,1,none⟩=some (.slice SA ks sc)∧w8.frozen? ⟨tb,0,none⟩=false∧TJ w tb (kr+1) ks (rvs ++ [rv]) svs RA8 c8 SA sc (w8.setCell ⟨tb,0,none⟩ v8)∧Kp W (w8.setCell ⟨tb,0,none⟩ v8) (ExT tb (.slice RA kr rc)):=by
 obtain ⟨RA8,c8,rfl⟩:=own_slice hown
 have hk8:Kp W w8 (fun i=>(Value.slice RA kr rc).ownBlock=some i):=(Kp.of_below ((Below.refl _ _).alloc (Nat.le_refl _) o) _).trans (Kp.of_grown (ex:=fun i=>(Value.slice RA kr rc).ownBlock=some i) hg fun i hi=>hi) fun _ _ h=>h
 have hb8:Blk w8 tb 79 #[.slice RA kr rc,.slice SA ks sc]:=hk8.blk h.blk (own_ty h.rr h.blk (by decide))
 have hk9:Kp W (w8.setCell ⟨tb,0,none⟩ (.slice RA8 (kr+1) c8)) (ExT tb (.slice RA kr rc)):=(hk8.wider fun i _ hx=>.inr hx).trans (Kp.set (ex:=ExT tb (.slice RA kr rc)) w8 _ _ (.inl rfl)) fun _ _ h=>h
 have hs8:w8.ownsRow w.heap.size 75 1 (.slice SA ks sc) ks svs:=hk8.own h.ss (own_ty2 h.rr h.ss (by decide))
 refine ⟨RA8,c8,rfl,hb8.cell 0,hb8.cell 1,hb8.frozen 0,⟨hb8.set_ 0 _,own_far hown hb8 (by decide) 0 _,own_far hs8 hb8 (by decide) 0 _,?_,h.tb_⟩,hk9⟩
 exact h.below.trans (hk9.below h.below.size (by
  rintro i (rfl | hx)
  ·exact h.tb_
  ·exact (own_lt h.rr hx).1))
theorem TJ.pushS (h:TJ w tb kr ks rvs svs RA rc SA sc W) (o:Obj) (hown:w8.ownsRow w.heap.size 75 1 v8 (ks+1) (svs ++ [sv])) (hg:(W.alloc o).grownBy w8 (Value.slice SA ks sc).ownBlock) :
  ∃ SA8 c8,v8=.slice SA8 (ks+1) c8∧w8.cell? ⟨tb,0,none⟩=some (.slice RA kr rc)∧w8.cell? ⟨tb,1,none⟩=some (.slice SA ks sc)∧w8.frozen? ⟨tb,1,none⟩=false∧TJ w tb kr (ks+1) rvs (svs ++ [sv]) RA rc SA8 c8 (w8.setCell ⟨tb,1,none⟩ v8)∧Kp W (w8.setCell ⟨tb,1,none⟩ v8) (ExT tb (.slice SA ks sc)):=by
 obtain ⟨SA8,c8,rfl⟩:=own_slice hown
 have hk8:Kp W w8 (fun i=>(Value.slice SA ks sc).ownBlock=some i):=(Kp.of_below ((Below.refl _ _).alloc (Nat.le_refl _) o) _).trans (Kp.of_grown (ex:=fun i=>(Value.slice SA ks sc).ownBlock=some i) hg fun i hi=>hi) fun _ _ h=>h
 have hb8:Blk w8 tb 79 #[.slice RA kr rc,.slice SA ks sc]:=hk8.blk h.blk (own_ty h.ss h.blk (by decide))
 have hk9:Kp W (w8.setCell ⟨tb,1,none⟩ (.slice SA8 (ks+1) c8)) (ExT tb (.slice SA ks sc)):=(hk8.wider fun i _ hx=>.inr hx).trans (Kp.set (ex:=ExT tb (.slice SA ks sc)) w8 _ _ (.inl rfl)) fun _ _ h=>h
 have hr8:w8.ownsRow w.heap.size 83 1 (.slice RA kr rc) kr rvs:=hk8.own h.rr (own_ty2 h.ss h.rr (by decide))
 refine ⟨SA8,c8,rfl,hb8.cell 0,hb8.cell 1,hb8.frozen 1,⟨hb8.set_ 1 _,own_far hr8 hb8 (by decide) 1 _,own_far hown hb8 (by decide) 1 _,?_,h.tb_⟩,hk9⟩
 exact h.below.trans (hk9.below h.below.size (by
  rintro i (rfl | hx)
  ·exact h.tb_
  ·exact (own_lt h.ss hx).1))
theorem FnAt.past {B:Nat} {l:List (Option Stk)} {v:Value} {e:TypeId} {size n:Nat} {xs:List Value} {cs:Array Value} (h:FnAt W B l rv sv) (hk:Kp W W' (ExT tb v)) (hb:Blk W tb 79 cs) (ho:W.ownsRow w.heap.size e size v n xs) (he:e=83∨e=75):FnAt W' B l rv sv:=by
 refine h.kept hk (fun g cs' hg=>?_) (fun g cs' hg=>?_) (fun v' q xs' hv i hi=>?_)
 ·rintro (rfl | hx)
  ·exact Blk.ne_ hg hb (by decide) rfl
  ·exact own_ty ho hg (by rcases he with rfl | rfl <;> decide) hx
 ·rintro (rfl | hx)
  ·exact Blk.ne_ hg hb (by decide) rfl
  ·exact own_ty ho hg (by rcases he with rfl | rfl <;> decide) hx
 ·rintro (rfl | hx)
  ·exact own_ty hv hb (by decide) hi
  ·exact own_ty2 ho hv (by rcases he with rfl | rfl <;> decide) i hi hx
end
structure TI (w:World) (B tb:Nat) (rs:List Raw) (k:Nat) (ls:List (List (Option Stk))) (rvs svs:List Value) (RA:Option Addr) (rc:Nat) (SA:Option Addr) (sc:Nat) (W:World):Prop where
 tj:TJ w tb k k rvs svs RA rc SA sc W
 len:ls.length=k
 lr:rvs.length=k
 lsv:svs.length=k
 each:∀ (j:Nat) l,ls[j]?=some l→∃ rv sv,rvs[j]?=some rv∧svs[j]?=some sv∧FnAt W B l rv sv
 sols:∀ (j:Nat) f,j<k→(fns rs)[j]?=some f→∃ l,ls[j]?=some l∧Sol (fns rs) f l
def AllPost (w:World) (B n:Nat) (rs:List Raw) (e:Ending) (w':World):Prop:=Below w.heap.size w w' ∧
 ((e=.returned (.tuple #[.pointer none,.bool false])∧∃ f ∈ fns rs,¬ Fine (fns rs) f) ∨
  ∃ tb ls rvs svs RA rc SA sc,e=.returned (.tuple #[.pointer (some ⟨tb,0,none⟩),.bool true])∧TI w B tb rs n ls rvs svs RA rc SA sc w')
section
variable {w wr W6 W9 W10:World} {B tb n k rc sc rc2 sc2:Nat} {rs:List Raw} {r:Raw} {ls:List (List (Option Stk))} {l:List (Option Stk)} {rvs svs:List Value} {rv sv:Value} {RA SA RA2 SA2:Option Addr}
theorem TI.zero (h:Blk wr tb 79 #[.slice none 0 0,.slice none 0 0]) (hb:Below w.heap.size w wr) (ht:w.heap.size≤tb):TI w B tb rs 0 [] [] [] none 0 none 0 wr :=
 ⟨⟨h,own_none _ _ _ _,own_none _ _ _ _,hb,ht⟩,rfl,rfl,rfl,(fun j l h=>by simp at h),(fun j f h=>by omega)⟩
theorem TI.on {W':World} (h:TI w B tb rs k ls rvs svs RA rc SA sc wr) (hb:Below wr.heap.size wr W'):TI w B tb rs k ls rvs svs RA rc SA sc W' :=
 ⟨h.tj.on hb,h.len,h.lr,h.lsv,fun j l hl=>by obtain ⟨rv,sv,h1,h2,h3⟩:=h.each j l hl;exact ⟨rv,sv,h1,h2,h3.below hb⟩,h.sols⟩
theorem TI.next (h:TI w B tb rs k ls rvs svs RA rc SA sc W6) (hr:rs[k]?=some r) (hs:Sol (fns rs) r.fn l) (hf:FnAt W6 B l rv sv) (h9:TJ w tb (k+1) k (rvs ++ [rv]) svs RA2 rc2 SA sc W9) (k9:Kp W6 W9 (ExT tb (.slice RA k rc)))
  (h10:TJ w tb (k+1) (k+1) (rvs ++ [rv]) (svs ++ [sv]) RA2 rc2 SA2 sc2 W10) (k10:Kp W9 W10 (ExT tb (.slice SA k sc))):TI w B tb rs (k+1) (ls ++ [l]) (rvs ++ [rv]) (svs ++ [sv]) RA2 rc2 SA2 sc2 W10:=by
 have keep:∀ {l rv sv},FnAt W6 B l rv sv→FnAt W10 B l rv sv:=fun hh=>(hh.past k9 h.tj.blk h.tj.rr (.inl rfl)).past k10 h9.blk h9.ss (.inr rfl)
 refine ⟨h10,by simp [h.len],by simp [h.lr],by simp [h.lsv],fun j l' hl=>?_,fun j f hj hf'=>?_⟩
 ·rcases Nat.lt_or_ge j k with hjk | hjk
  ·rw [List.getElem?_append_left (by rw [h.len];exact hjk)] at hl
   obtain ⟨rv',sv',h1,h2,h3⟩:=h.each j l' hl
   exact ⟨rv',sv',by rw [List.getElem?_append_left (by rw [h.lr];exact hjk)];exact h1,by rw [List.getElem?_append_left (by rw [h.lsv];exact hjk)];exact h2,keep h3⟩
  ·rw [List.getElem?_append_right (by rw [h.len];exact hjk),h.len] at hl
   obtain ⟨hlt,hle⟩:=List.getElem?_eq_some_iff.1 hl
   have hj0:j=k:=by simp at hlt;omega
   subst hj0
   simp at hle
   subst hle
   exact ⟨rv,sv,by rw [List.getElem?_append_right (by rw [h.lr];exact Nat.le_refl _),h.lr];simp,by rw [List.getElem?_append_right (by rw [h.lsv];exact Nat.le_refl _),h.lsv];simp,keep hf⟩
 ·rcases Nat.lt_or_ge j k with hjk | hjk
  ·obtain ⟨l',h1,h2⟩:=h.sols j f hjk hf'
   exact ⟨l',by rw [List.getElem?_append_left (by rw [h.len];exact hjk)];exact h1,h2⟩
  ·obtain rfl:j=k:=by omega
   have hfr:f=r.fn:=by
    unfold fns at hf';rw [List.getElem?_map,hr] at hf';simpa using hf'.symm
   subst hfr
   exact ⟨l,by rw [List.getElem?_append_right (by rw [h.len];exact Nat.le_refl _),h.len];simp,hs⟩
end
theorem walkAll_any (B:Nat) (A:Option Addr) (n c:Nat) (rs:List Raw) (w:World) (h:RdP w B A n rs) (hB:B≤w.heap.size) (hok:okP (fns rs)=true) (hcl:∀ r ∈ rs,r.fn.code.length≤256) (href:∀ r ∈ rs,∀ i ∈ r.fn.code,insRef (fns rs) r.fn i=true) :
  Calls Try.prog 31 #[.slice A n c] w (AllPost w B n rs):=by
 have H:=Lib.hid h
 have HOK:=Lib.hid hok
 have HCL:=Lib.hid hcl
 have HREF:=Lib.hid href
 have hn:n≤255:=by have:=(okP_iff.1 hok).2.1;rw [length_fns,h.len] at this;exact this
 have HB0:Hid (Below w.heap.size w (w.alloc (.cells #[.slice none 0 0,.slice none 0 0] 79))):=Lib.hid ((Below.refl _ _).alloc (Nat.le_refl _) _)
 have HT0:Hid (TI w B w.heap.size rs 0 [] [] [] none 0 none 0 (w.alloc (.cells #[.slice none 0 0,.slice none 0 0] 79))):=Lib.hid (TI.zero (Blk.new w _ _) HB0.out (Nat.le_refl _))
 clear h hok hcl href
 go_enter Try.func31,Try.ntmps31
 go_wp2
 go_loopw [12] (fun i wr=>∃ (k:Nat) (ls:List (List (Option Stk))) (rvs svs:List Value) (RA:Option Addr) (rc:Nat) (SA:Option Addr) (sc:Nat),k≤n∧i=.int .i64 k∧Hid (TI w B w.heap.size rs k ls rvs svs RA rc SA sc wr)) (fun i _=>n-(intOf i).toNat)
 case atStart=>exact ⟨0,[],[],[],none,0,none,0,Nat.zero_le _,rfl,HT0⟩
 case round =>
  clear HT0
  obtain ⟨k,ls,rvs,svs,RA,rc,SA,sc,hk,rfl,HT⟩:=hrel
  have hz:=HT.out.tj.below.size
  have htb:=HT.out.tj.blk.lt
  by_cases hlt:k<n
  ·obtain ⟨b,off,r,hA,hb,HX,HF,HW,x0,x1,x2,x3,x4⟩:=(H.out.below (HT.out.tj.below.mono hB)).fn hlt
   have hbr:b<wr.heap.size:=by omega
   have hmem:r ∈ rs:=List.mem_of_getElem? HX.out
   have hokf:okF r.fn=true:=(okP_iff.1 HOK.out).2.2 r.fn (List.mem_map.2 ⟨r,hmem,rfl⟩)
   have HB2:Hid (Below wr.heap.size wr ((wr.alloc (.cells #[.int .i64 r.fn.params,.slice r.lo r.fn.locals.length r.lc,.bool r.fn.result,.int .i64 r.fn.keep,.slice r.co r.fn.code.length r.cc] 41)).alloc (.cells #[.slice A n c,.int .i64 r.fn.params,.slice r.lo r.fn.locals.length r.lc,.bool r.fn.result,.int .i64 r.fn.keep,.slice r.co r.fn.code.length r.cc,.slice none 0 0,.slice none 0 0,.slice none 0 0] 138))):=Lib.hid (below_2 _ _ _ _ _)
   have hle2:B≤wr.heap.size:=by omega
   have hwk:Wk ((wr.alloc (.cells #[.int .i64 r.fn.params,.slice r.lo r.fn.locals.length r.lc,.bool r.fn.result,.int .i64 r.fn.keep,.slice r.co r.fn.code.length r.cc] 41)).alloc (.cells #[.slice A n c,.int .i64 r.fn.params,.slice r.lo r.fn.locals.length r.lc,.bool r.fn.result,.int .i64 r.fn.keep,.slice r.co r.fn.code.length r.cc,.slice none 0 0,.slice none 0 0,.slice none 0 0] 138)) B (wr.heap.size+1) A n c rs r (.slice none 0 0) (.slice none 0 0) (.slice none 0 0) :=
    ⟨blk_second _ _ _ _ _,(H.out.below (HT.out.tj.below.mono hB)).below (HB2.out.mono hle2),HF.out.below (HB2.out.mono hle2),HW.out,by simp;omega,HOK.out,hokf,by omega⟩
   have HC:=Lib.hid (walk_any B (wr.heap.size+1) n c r.fn.code.length A rs r _ hwk rfl (HCL.out r hmem) (HREF.out r hmem))
   rw [hA] at HC hwk HB2
   subst hA
   clear hwk hmem hokf
   go_wp2_with (go_at_call 60;refine HC.out.mono ?_;rintro e w6 ⟨ok,rfl,hkp,hcase⟩;have HKP:=Lib.hid hkp;have HCS:=Lib.hid hcase;clear hkp hcase;refine Hid.out ?_)
   have HB6:Hid (Below wr.heap.size wr w6):=Lib.hid (HB2.out.trans (HKP.out.below (by simp;omega) (by rintro i rfl;omega)))
   rcases HCS.out with ⟨rfl,hnf⟩ | ⟨rfl,l,rv,sv,wv,hsol,hwk,hfn⟩
   ·have HNF:Hid (∃ f ∈ fns rs,¬ Fine (fns rs) f):=Lib.hid ⟨r.fn,List.mem_map.2 ⟨r,List.mem_of_getElem? HX.out,rfl⟩,hnf⟩
    clear hnf x0 x1 x2 x3 x4
    refine Lib.hid ?_
    go_wp2
    go_ret2
    exact ⟨HT.out.tj.below.trans (HB6.out.mono hz),.inl ⟨rfl,HNF.out⟩⟩
   ·obtain ⟨ra,sa,m,vs,hrv,hsv,_⟩:=hfn.at_
    subst hrv hsv
    have HT6:=Lib.hid (HT.out.on HB6.out)
    have HSOL:=Lib.hid hsol
    have HFN:=Lib.hid hfn
    have HWK:=Lib.hid hwk
    have e6:w6.cell? ⟨wr.heap.size+1,6,none⟩=some (.slice (some ⟨ra,0,none⟩) m m):=hwk.cells.2.2.2.2.2.2.1
    have e7:w6.cell? ⟨wr.heap.size+1,7,none⟩=some (.slice (some ⟨sa,0,none⟩) m m):=hwk.cells.2.2.2.2.2.2.2.1
    have t0:w6.cell? ⟨w.heap.size,0,none⟩=some (.slice RA k rc):=HT6.out.tj.blk.cell 0
    have t0a:∀ o:Obj,(w6.alloc o).cell? ⟨w.heap.size,0,none⟩=some (.slice RA k rc):=fun o=>(HT6.out.tj.blk.alloc o).cell 0
    have hz6:wr.heap.size+1<w6.heap.size:=hwk.blk.lt
    clear hsol hfn hwk x0 x1 x2 x3 x4 HCS
    refine Lib.hid ?_
    go_wp2
    have HOA:=Lib.hid (own_al HT6.out.tj.rr (.cells #[(.slice (some ⟨ra,0,none⟩) m m)] 83))
    have HRd:=Lib.hid (one_reads w6 83 [(.slice (some ⟨ra,0,none⟩) m m)] 1 rfl)
    have HRV:Hid (∀ u ∈ [Value.slice (some ⟨ra,0,none⟩) m m],u.oneCell'=true):=Lib.hid (fun u hu=>by simp at hu;subst hu;rfl)
    have HSV:Hid (∀ u ∈ [Value.slice (some ⟨sa,0,none⟩) m m],u.oneCell'=true):=Lib.hid (fun u hu=>by simp at hu;subst hu;rfl)
    go_region_law (refine step_bools rfl _ _ rfl w.heap.size (.slice RA k rc) k rvs rfl HOA.out (w6.heap.size+1) (some ⟨w6.heap.size,0,none⟩) 1 1 [(.slice (some ⟨ra,0,none⟩) m m)] rfl HRd.out HRV.out (by omega) (by simp;omega) ?_;intro v' w8 hown hgr hor;obtain ⟨RA2,rc2,rfl,l8,l9,f8,ht8,hk8⟩:=HT6.out.tj.pushR _ hown (grown_of_drew hgr);have HT8:=Lib.hid ht8;have HK8:=Lib.hid hk8;clear hown hgr hor ht8 hk8)
    all_goals
     go_wp2
     obtain ⟨W9,hW9⟩:∃ W9,W9=w8.setCell ⟨w.heap.size,0,none⟩ (.slice RA2 (k+1) rc2):=⟨_,rfl⟩
     have HT9:Hid (TJ w w.heap.size (k+1) k (rvs ++ [(.slice (some ⟨ra,0,none⟩) m m)]) svs RA2 rc2 SA sc W9):=Lib.hid (by rw [hW9];exact HT8.out)
     have HK9:Hid (Kp w6 W9 (ExT w.heap.size (.slice RA k rc))):=Lib.hid (by rw [hW9];exact HK8.out)
     have hbg:Blk W9 (wr.heap.size+1) 138 (WkC (some ⟨b,off,none⟩) n c r (.slice (some ⟨ra,0,none⟩) m m) (.slice (some ⟨sa,0,none⟩) m m) wv):=HK9.out.blk HWK.out.blk (by
      rintro (hx | hx)
      ·omega
      ·exact own_ty HT6.out.tj.rr HWK.out.blk (by decide) hx)
     have g7:W9.cell? ⟨wr.heap.size+1,7,none⟩=some (.slice (some ⟨sa,0,none⟩) m m):=hbg.cell 7
     have t1:W9.cell? ⟨w.heap.size,1,none⟩=some (.slice SA k sc):=HT9.out.blk.cell 1
     have t1a:∀ o:Obj,(W9.alloc o).cell? ⟨w.heap.size,1,none⟩=some (.slice SA k sc):=fun o=>(HT9.out.blk.alloc o).cell 1
     have hz9:w6.heap.size≤W9.heap.size:=HK9.out.size
     have HOS:=Lib.hid (own_al HT9.out.ss (.cells #[(.slice (some ⟨sa,0,none⟩) m m)] 75))
     have HRs:=Lib.hid (one_reads W9 75 [(.slice (some ⟨sa,0,none⟩) m m)] 1 rfl)
     rw [← hW9]
     clear hW9 hbg l8 l9 f8 e6 e7 t0 t0a
     go_region_law (refine step_stks rfl _ _ rfl w.heap.size (.slice SA k sc) k svs rfl HOS.out (W9.heap.size+1) (some ⟨W9.heap.size,0,none⟩) 1 1 [(.slice (some ⟨sa,0,none⟩) m m)] rfl HRs.out HSV.out (by omega) (by simp;omega) ?_;intro v' w10 hown hgr hor;obtain ⟨SA2,sc2,rfl,l10,l11,f10,ht10,hk10⟩:=HT9.out.pushS _ hown (grown_of_drew hgr);have HT10:=Lib.hid ht10;have HK10:=Lib.hid hk10;clear hown hgr hor ht10 hk10)
     all_goals
      have HTN:=Lib.hid (HT6.out.next HX.out HSOL.out HFN.out HT9.out HK9.out HT10.out HK10.out)
      go_wp2
      go_roundw
      case rel=>exact ⟨k+1,ls ++ [l],rvs ++ [(.slice (some ⟨ra,0,none⟩) m m)],svs ++ [(.slice (some ⟨sa,0,none⟩) m m)],RA2,rc2,SA2,sc2,by omega,by go_num,HTN⟩
      case measure=>simp [intOf];omega
  ·obtain rfl:n=k:=by omega
   clear hlt hk
   go_wp2
   go_ret2
   exact ⟨HT.out.tj.below,.inr ⟨_,ls,rvs,svs,RA,rc,SA,sc,rfl,HT.out⟩⟩
theorem bnd_any (B:Nat) (r:Raw) (w:World) (h:RdF w B r) (hw:WfF r.fn) (hB:B≤w.heap.size) :
  Calls Try.prog 57 #[.agg #[.int .i64 r.fn.params,.slice r.lo r.fn.locals.length r.lc,.bool r.fn.result,.int .i64 r.fn.keep,.slice r.co r.fn.code.length r.cc]] w fun e w'=>e=.returned (.bool (bndF r.fn))∧Below w.heap.size w w':=by
 obtain ⟨p,HP⟩:∃ p,Hid (p=r.fn.params):=⟨_,rfl⟩
 obtain ⟨nl,HNL⟩:∃ p,Hid (p=r.fn.locals.length):=⟨_,rfl⟩
 obtain ⟨nc,HNC⟩:∃ p,Hid (p=r.fn.code.length):=⟨_,rfl⟩
 have hb:bndF r.fn=(decide (p≤4) && decide (nl≤16) && decide (nc≤256)):=by unfold bndF;rw [HP.out,HNL.out,HNC.out]
 have h1:=hw.ll
 have h2:=hw.cl
 rw [← HNL.out] at h1
 rw [← HNC.out] at h2
 rw [hb,← HP.out,← HNL.out,← HNC.out]
 clear hb h hw
 have HB:∀ o:Obj,Hid (Below w.heap.size w (w.alloc o)):=fun o=>(Below.refl _ _).alloc (Nat.le_refl _) o
 by_cases c1:p≤4
 ·by_cases c2:nl≤16
  ·by_cases c3:nc≤256
   ·rw [decide_eq_true c1,decide_eq_true c2,decide_eq_true c3]
    have g3:decide ((nc:Int)≤256)=true:=by simp;omega
    go_enter Try.func57,Try.ntmps57
    go_wp2
    go_ret
    exact ⟨rfl,(HB _).out⟩
   ·rw [decide_eq_true c1,decide_eq_true c2,decide_eq_false c3]
    have g3:decide ((nc:Int)≤256)=false:=by simp;omega
    go_enter Try.func57,Try.ntmps57
    go_wp2
    go_ret
    exact ⟨rfl,(HB _).out⟩
  ·rw [decide_eq_true c1,decide_eq_false c2]
   have g2:decide ((nl:Int)≤16)=false:=by simp;omega
   go_enter Try.func57,Try.ntmps57
   go_wp2
   go_ret
   exact ⟨rfl,(HB _).out⟩
 ·rw [decide_eq_false c1]
  have g1:decide (p≤4)=false:=by simpa using c1
  go_enter Try.func57,Try.ntmps57
  go_wp2
  go_ret
  exact ⟨rfl,(HB _).out⟩

theorem all_bnd (B:Nat) (A:Option Addr) (n c:Nat) (rs:List Raw) (w:World) (h:RdP w B A n rs) (hB:B≤w.heap.size) :
  Calls Try.prog 56 #[.slice A n c,.func (.func 57) #[] #[]] w fun e w'=>e=.returned (.bool ((fns rs).all bndF))∧Below w.heap.size w w':=by
 have H:=Lib.hid h
 have hsz:=h.sz
 clear h
 go_enter Try.func56,Try.ntmps56
 go_wp2
 go_loopw [9] (fun i wr=>∃ k:Nat,k≤n∧i=.int .i64 k∧Hid (((fns rs).take k).all bndF=true)∧Hid (Below w.heap.size w wr)) (fun i _=>n-(intOf i).toNat)
 case atStart=>exact ⟨0,Nat.zero_le _,rfl,rfl,Below.refl _ _⟩
 case round =>
  obtain ⟨k,hk,rfl,HT,HB⟩:=hrel
  by_cases hlt:k<n
  ·obtain ⟨b,off,r,rfl,hb,HX,HF,HW,x0,x1,x2,x3,x4⟩:=(H.out.below (HB.out.mono hB)).fn hlt
   have hz:=HB.out.size
   have HFN:Hid ((fns rs)[k]?=some r.fn):=Lib.hid (by unfold fns;rw [List.getElem?_map,HX.out];rfl)
   have HB2:Hid (Below w.heap.size w (wr.alloc (.cells #[.int .i64 r.fn.params,.slice r.lo r.fn.locals.length r.lc,.bool r.fn.result,.int .i64 r.fn.keep,.slice r.co r.fn.code.length r.cc] 41))):=HB.out.alloc hz _
   have HF2:Hid (RdF (wr.alloc (.cells #[.int .i64 r.fn.params,.slice r.lo r.fn.locals.length r.lc,.bool r.fn.result,.int .i64 r.fn.keep,.slice r.co r.fn.code.length r.cc] 41)) B r):=HF.out.keep fun p hp=>World.cell?_alloc_lt wr _ p (by omega)
   cases hp:bndF r.fn with
   | true =>
    have HT1:Hid (((fns rs).take (k+1)).all bndF=true):=Lib.hid (by rw [List.take_add_one,HFN.out,List.all_append,HT.out];simp [hp])
    have HP:=Lib.hid hp
    clear hp
    go_wp2_with (go_at_call 57;refine (bnd_any B r _ HF2.out HW.out (by simp;omega)).mono ?_;rintro e w2 ⟨rfl,hb2⟩;rw [HP.out];refine Hid.out ?_)
    have HB3:=Lib.hid (HB2.out.trans (hb2.mono (by simp;omega)))
    clear hb2
    refine Lib.hid ?_
    go_wp2
    go_roundw
    case rel=>exact ⟨k+1,by omega,by go_num,HT1,HB3⟩
    case measure=>simp [intOf];omega
   | false =>
    have HA:Hid ((fns rs).all bndF=false):=Lib.hid (by
     rw [List.all_eq_false]
     exact ⟨r.fn,List.mem_of_getElem? HFN.out,by simp [hp]⟩)
    have HP:=Lib.hid hp
    clear hp
    go_wp2_with (go_at_call 57;refine (bnd_any B r _ HF2.out HW.out (by simp;omega)).mono ?_;rintro e w2 ⟨rfl,hb2⟩;rw [HP.out];refine Hid.out ?_)
    have HB3:=Lib.hid (HB2.out.trans (hb2.mono (by simp;omega)))
    clear hb2
    refine Lib.hid ?_
    go_wp2
    go_ret
    exact ⟨by rw [HA.out];rfl,HB3.out⟩
  ·obtain rfl:n=k:=by omega
   clear hlt hk
   have HA:Hid ((fns rs).all bndF=true):=Lib.hid (by
    have h:=HT.out
    rw [List.take_of_length_le (by rw [length_fns,H.out.len];omega)] at h
    exact h)
   go_wp2
   go_ret
   exact ⟨by rw [HA.out];rfl,HB.out⟩

theorem bounded_any (B:Nat) (A:Option Addr) (n c:Nat) (rs:List Raw) (w:World) (h:RdP w B A n rs) (hB:B≤w.heap.size) :
  Calls Try.prog 29 #[.agg #[.slice A n c]] w fun e w'=>e=.returned (.bool (bnd (fns rs)))∧Below w.heap.size w w':=by
 have hl:=h.len
 have hsz:=h.sz
 have hb:bnd (fns rs)=(decide (n≤16) && (fns rs).all bndF):=by unfold bnd;rw [length_fns,hl]
 rw [hb]
 have H:=Lib.hid (h.alloc hB (.cells #[.slice A n c] 24))
 have HB:∀ o:Obj,Hid (Below w.heap.size w (w.alloc o)):=fun o=>(Below.refl _ _).alloc (Nat.le_refl _) o
 clear hb h hl
 by_cases c1:n≤16
 ·rw [decide_eq_true c1]
  go_enter Try.func29,Try.ntmps29
  go_wp2_with (go_at_call 56;refine (all_bnd B A n c rs _ H.out (by simp;omega)).mono ?_;rintro e w2 ⟨rfl,hb2⟩;refine Hid.out ?_)
  have HB2:=Lib.hid ((HB _).out.trans (hb2.mono (by simp)))
  clear hb2
  refine Lib.hid ?_
  go_wp2
  go_ret
  exact ⟨rfl,HB2.out⟩
 ·rw [decide_eq_false c1]
  have g1:decide ((n:Int)≤16)=false:=by simp;omega
  go_enter Try.func29,Try.ntmps29
  go_wp2
  go_ret
  exact ⟨rfl,(HB _).out⟩
theorem isKind_any (k:Int) (w:World) :
  Calls Try.prog 89 #[.int .u8 k] w fun e w'=>e=.returned (.bool (kindB k))∧w=w':=by
 by_cases h0:k=0
 ·subst h0
  go_enter Try.func89,Try.ntmps89
  go_wp2
  go_ret
  exact ⟨rfl,rfl⟩
 ·have g0:(k == 0)=false:=by simpa using h0
  by_cases h1:k=1
  ·subst h1
   clear g0 h0
   go_enter Try.func89,Try.ntmps89
   go_wp2
   go_ret
   exact ⟨rfl,rfl⟩
  ·have g1:(k == 1)=false:=by simpa using h1
   have hk:kindB k=false:=by simp [kindB,h0,h1]
   have HK:=Lib.hid hk
   clear hk h0 h1
   rw [HK.out]
   go_enter Try.func89,Try.ntmps89
   go_wp2
   go_ret
   exact ⟨rfl,rfl⟩
theorem isOp_any (k:Int) (w:World) :
  Calls Try.prog 98 #[.int .u8 k] w fun e w'=>e=.returned (.bool (opB k))∧w=w':=by
 by_cases h0:1≤k
 ·by_cases h1:k≤32
  ·have hk:opB k=true:=by simp [opB,h0,h1]
   rw [hk]
   clear hk
   go_enter Try.func98,Try.ntmps98
   go_wp2
   go_ret
   exact ⟨rfl,rfl⟩
  ·have hk:opB k=false:=by simp [opB,h0,h1]
   rw [hk]
   clear hk
   have g1:decide (k≤32)=false:=by simpa using h1
   go_enter Try.func98,Try.ntmps98
   go_wp2
   go_ret
   exact ⟨rfl,rfl⟩
 ·have hk:opB k=false:=by simp [opB,h0]
  rw [hk]
  clear hk
  have g1:decide (1≤k)=false:=by simpa using h0
  go_enter Try.func98,Try.ntmps98
  go_wp2
  go_ret
  exact ⟨rfl,rfl⟩
theorem argSize_any (k:Int) (w:World) :
  Calls Try.prog 74 #[.int .u8 k] w fun e w'=>e=.returned (.int .i64 (argW k:Nat))∧w=w':=by
 by_cases hs:k=2∨k=3∨k=4∨k=21∨k=22∨k=23∨k=25
 ·rcases hs with rfl | rfl | rfl | rfl | rfl | rfl | rfl
  all_goals
   go_enter Try.func74,Try.ntmps74
   go_wp2
   go_ret
   exact ⟨rfl,rfl⟩
 ·have hw:argW k=0:=by
   unfold argW
   rw [if_neg (by omega),if_neg (by omega)]
  have g2:(k == 2)=false:=by simp;omega
  have g3:(k == 3)=false:=by simp;omega
  have g4:(k == 4)=false:=by simp;omega
  have g5:(k == 21)=false:=by simp;omega
  have g6:(k == 22)=false:=by simp;omega
  have g7:(k == 23)=false:=by simp;omega
  have g8:(k == 25)=false:=by simp;omega
  rw [hw]
  clear hw hs
  go_enter Try.func74,Try.ntmps74
  go_wp2
  go_ret
  exact ⟨rfl,rfl⟩
theorem immSize_any (k:Int) (w:World) :
  Calls Try.prog 75 #[.int .u8 k] w fun e w'=>e=.returned (.int .i64 (immW k:Nat))∧w=w':=by
 by_cases hs:k=1
 ·subst hs
  go_enter Try.func75,Try.ntmps75
  go_wp2
  go_ret
  exact ⟨rfl,rfl⟩
 ·have hw:immW k=0:=by
   unfold immW
   rw [if_neg hs]
  have g2:(k == 1)=false:=by simp;omega
  rw [hw]
  clear hw hs
  go_enter Try.func75,Try.ntmps75
  go_wp2
  go_ret
  exact ⟨rfl,rfl⟩
def widthD (op:Int):Int:=if opB op then ((argW op+immW op:Nat):Int) else -1
theorem width_any (k:Int) (w:World) :
  Calls Try.prog 38 #[.int .u8 k] w fun e w'=>e=.returned (.int .i64 (widthD k))∧w=w':=by
 by_cases ho:opB k=true
 ·have hb:=opB_iff.1 ho
  obtain ⟨h0,h1⟩:=hb
  have g0:decide (k<1)=false:=by simp;omega
  have g1:decide (32<k)=false:=by simp;omega
  by_cases hs:k=1∨k=2∨k=3∨k=4∨k=21∨k=22∨k=23∨k=25
  ·clear g0 g1 h0 h1 ho
   rcases hs with rfl | rfl | rfl | rfl | rfl | rfl | rfl | rfl
   all_goals
    go_enter Try.func38,Try.ntmps38
    go_wp2
    go_ret
    exact ⟨rfl,rfl⟩
  ·have hw:widthD k=0:=by
    unfold widthD argW immW
    rw [if_pos ho,if_neg (by omega),if_neg (by omega),if_neg (by omega)];rfl
   have g2:(k == 2)=false:=by simp;omega
   have g3:(k == 3)=false:=by simp;omega
   have g4:(k == 4)=false:=by simp;omega
   have g5:(k == 21)=false:=by simp;omega
   have g6:(k == 22)=false:=by simp;omega
   have g7:(k == 23)=false:=by simp;omega
   have g8:(k == 25)=false:=by simp;omega
   have g9:(k == 1)=false:=by simp;omega
   rw [hw]
   clear hw hs ho
   go_enter Try.func38,Try.ntmps38
   go_wp2
   go_ret
   exact ⟨rfl,rfl⟩
 ·have hn:¬ (1≤k∧k≤32):=fun h=>ho (opB_iff.2 h)
  have hw:widthD k=-1:=by unfold widthD;rw [if_neg ho]
  rw [hw]
  clear hw ho
  by_cases h0:k<1
  ·go_enter Try.func38,Try.ntmps38
   go_wp2
   go_ret
   exact ⟨rfl,rfl⟩
  ·have g0:decide (k<1)=false:=by simp;omega
   have h1:32<k:=by omega
   go_enter Try.func38,Try.ntmps38
   go_wp2
   go_ret
   exact ⟨rfl,rfl⟩
theorem pow_256 (k:Nat):(2:Int) ^ (8*k)=256 ^ k:=by rw [Int.pow_mul];rfl
theorem pow_pos256 (k:Nat):(0:Int)<256 ^ k:=Int.pow_pos (by omega)
theorem fit_div {n:Nat} {v:Int} (h:0≤v):fitB n v=(v / 2 ^ (8*n) == 0):=by
 unfold fitB
 rw [pow_256]
 have hp:=pow_pos256 n
 generalize (256:Int) ^ n=q at hp ⊢
 rw [Bool.eq_iff_iff]
 simp only [decide_eq_true_eq,beq_iff_eq]
 constructor
 ·intro ⟨_,h2⟩
  exact Int.ediv_eq_zero_of_lt h h2
 ·intro h2
  refine ⟨h,?_⟩
  have:=Int.lt_ediv_add_one_mul_self v hp
  rw [h2] at this
  omega

theorem fits_any (v:Int) (n:Nat) (w:World) (h0:0≤v) (h1:v≤18446744073709551615) (hn:n≤8) :
  Calls Try.prog 71 #[.int .u64 v,.int .i64 n] w fun e w'=>e=.returned (.bool (fitB n v))∧w=w':=by
 rw [fit_div h0]
 go_enter Try.func71,Try.ntmps71
 go_wp2
 go_ret
 exact ⟨rfl,rfl⟩
theorem flagByte_any (b:Bool) (w:World) :
  Calls Try.prog 73 #[.bool b] w fun e w'=>e=.returned (.int .u8 (if b then 1 else 0))∧w=w':=by
 cases b
 all_goals
  go_enter Try.func73,Try.ntmps73
  go_wp2
  go_ret
  exact ⟨rfl,rfl⟩
theorem own_alloc' {w:World} {base size n:Nat} {e:TypeId} {v:Value} {xs:List Value} (h:w.ownsRow base e size v n xs) (o:Obj):(w.alloc o).ownsRow base e size v n xs:=h.alloc o
theorem blk_own {w w':World} {base size n p:Nat} {e t:TypeId} {v:Value} {xs:List Value} {cs:Array Value} (hb:Blk w p t cs) (h:w.ownsRow base e size v n xs) (hg:w.grownBy w' v.ownBlock) (hne:e≠t):Blk w' p t cs :=
 hb.grown hg fun e'=>own_blk_ne h hb hne e'.symm
def Grew (w:World) (v:Value) (w':World) (v':Value):Prop:=w.grownBy w' v.ownBlock∧(v'.ownBlock=v.ownBlock∨∃ g,v'.ownBlock=some g∧w.heap.size≤g)
theorem Grew.refl (w:World) (v:Value):Grew w v w v:=⟨World.grownBy.refl w _,.inl rfl⟩
theorem Grew.trans {w w1 w2:World} {v v1 v2:Value} (h:Grew w v w1 v1) (k:Grew w1 v1 w2 v2):Grew w v w2 v2:=by
 have hs:=h.1.size
 refine ⟨⟨k.1.os.trans h.1.os,k.1.tape.trans h.1.tape,k.1.output.trans h.1.output,Nat.le_trans hs k.1.size,fun i hi hn=>(k.1.block i (by omega) ?_).trans (h.1.block i hi hn)⟩,?_⟩
 ·rcases h.2 with h2 | ⟨g,h2,h3⟩
  ·rw [h2];exact hn
  ·rw [h2];intro e;injection e with e;omega
 ·rcases k.2 with k2 | ⟨g,k2,k3⟩
  ·rcases h.2 with h2 | ⟨g,h2,h3⟩
   ·exact .inl (k2.trans h2)
   ·exact .inr ⟨g,k2.trans h2,h3⟩
  ·exact .inr ⟨g,k2,by omega⟩
theorem Grew.app {w w':World} {v v':Value} {o:Obj} (hg:(w.alloc o).grownBy w' v.ownBlock) (ho:v'.ownBlock=v.ownBlock∨v'.ownBlock=some (w.alloc o).heap.size):Grew w v w' v':=by
 have hs:=hg.size
 simp at hs
 refine ⟨⟨hg.os,hg.tape,hg.output,by omega,fun i hi hn=>(hg.block i (by simp;omega) hn).trans (Below.heap_alloc w o i hi)⟩,?_⟩
 rcases ho with ho | ho
 ·exact .inl ho
 ·exact .inr ⟨_,ho,by simp⟩
theorem Grew.alloc {w w':World} {v v':Value} (h:Grew w v w' v') (o:Obj):Grew w v (w'.alloc o) v':=⟨only_alloc h.1 o,h.2⟩
theorem Grew.below {w w':World} {v v':Value} (h:Grew w v w' v') {w2:World} (hb:Below w'.heap.size w' w2):Grew w v w2 v':=h.trans ⟨only_of_below hb _,.inl rfl⟩
theorem Grew.drew {w w':World} {v v':Value} (h:Grew w v w' v'):Grew w v w'.drew v':=⟨only_drew h.1,h.2⟩
theorem Grew.blk {w w':World} {base size n q:Nat} {e t:TypeId} {v v':Value} {xs:List Value} {cs:Array Value} (h:Grew w v w' v') (hb:Blk w q t cs) (ho:w.ownsRow base e size v n xs) (hne:e≠t):Blk w' q t cs:=blk_own hb ho h.1 hne
theorem Grew.toBelow {w w':World} {base size n:Nat} {e:TypeId} {v v':Value} {xs:List Value} (h:Grew w v w' v') (ho:w.ownsRow base e size v n xs) (hb:base≤w.heap.size):Below base w w' :=
 (Below.refl base w).grown h.1 hb fun i hi=>(own_block_le ho hi).1
def PutW (w:World) (base:Nat) (v:Value) (l:List Int) (e:Ending) (w':World):Prop :=
 ∃ A c,e=.returned (.slice A l.length c)∧w'.ownsRow base 5 1 (.slice A l.length c) l.length (u8c l)∧Below base w w'∧Grew w v w' (.slice A l.length c)

theorem put_any (base:Nat) (A0:Option Addr) (m c0:Nat) (l:List Int) (v:Int) (n:Nat) (w:World) (h:w.ownsRow base 5 1 (.slice A0 m c0) m (u8c l)) (hm:l.length=m) (h0:0≤v) (h1:v≤18446744073709551615) (hn:n≤8)
  (hb:base≤w.heap.size) (hr:m≤4294967296) :
  Calls Try.prog 54 #[.slice A0 m c0,.int .u64 v,.int .i64 n] w (PutW w base (.slice A0 m c0) (l ++ le n v)):=by
 have H:=Lib.hid h
 have HM:=Lib.hid hm
 clear h hm
 go_enter Try.func54,Try.ntmps54
 go_wp2
 go_loopw [0,9] (fun s i wr=>∃ (k:Nat) (A:Option Addr) (c:Nat),k≤n∧i=.int .i64 k∧s=.slice A (m+k) c∧Hid (wr.ownsRow base 5 1 (.slice A (m+k) c) (m+k) (u8c (l ++ le k v)))∧Hid (Grew w (.slice A0 m c0) wr (.slice A (m+k) c))) (fun _ i _=>n-(intOf i).toNat)
 case atStart=>exact ⟨0,A0,c0,Nat.zero_le _,rfl,rfl,(by show w.ownsRow _ _ _ _ _ _;simpa [le] using H.out),Grew.refl _ _⟩
 case round =>
  obtain ⟨k,A,c,hk,rfl,rfl,HO,HB⟩:=hrel
  have hz:=HB.out.1.size
  by_cases hlt:k<n
  ·have HRd:=Lib.hid (one_reads wr 5 [.int .u8 (v / 2 ^ (8*k) % 256)] 1 rfl)
   have HOne:Hid (∀ u ∈ [Value.int .u8 (v / 2 ^ (8*k) % 256)],u.oneCell'=true):=Lib.hid (u8c_one [v / 2 ^ (8*k) % 256])
   have HOa:=Lib.hid (own_alloc' HO.out (.cells #[.int .u8 (v / 2 ^ (8*k) % 256)] 5))
   go_wp2_with (at_builtin;refine app_byte rfl _ _ rfl base (.slice A (m+k) c) (m+k) _ rfl HOa.out (wr.heap.size+1) (some ⟨wr.heap.size,0,none⟩) 1 1 [.int .u8 (v / 2 ^ (8*k) % 256)] rfl HRd.out HOne.out (by omega) (by simp;omega) ?_;intro v' w3 hown hgr hor;refine Hid.out ?_)
   obtain ⟨A3,c3,rfl⟩:=own_slice hown
   have HO3:Hid (w3.ownsRow base 5 1 (.slice A3 (m+(k+1)) c3) (m+(k+1)) (u8c (l ++ le (k+1) v))):=by
    rw [le_snoc,← pow_256,← List.append_assoc,u8c_append]
    exact hown
   have HB3:Hid (Grew w (.slice A0 m c0) w3 (.slice A3 (m+(k+1)) c3)):=HB.out.trans (Grew.app hgr hor)
   clear hown hgr hor
   refine Lib.hid ?_
   go_wp2
   go_roundw
   case rel=>exact ⟨k+1,A3,c3,by omega,by go_num,rfl,HO3,HB3⟩
   case measure=>simp [intOf];omega
  ·obtain rfl:n=k:=by omega
   clear hlt hk
   go_wp2
   go_ret
   have hl:(l ++ le n v).length=m+n:=by rw [List.length_append,HM.out,length_le]
   refine ⟨A,c,by rw [hl];rfl,by rw [hl];exact HO.out,HB.out.toBelow H.out hb,by rw [hl];exact HB.out⟩
theorem isOp_yes (k:Int) (w:World) (h:opB k=true):Calls Try.prog 98 #[.int .u8 k] w fun e w'=>e=.returned (.bool true)∧w'=w:=(isOp_any k w).mono fun _ _ ⟨h1,h2⟩=>⟨by rw [h1,h],h2.symm⟩
theorem isOp_no (k:Int) (w:World) (h:opB k=false):Calls Try.prog 98 #[.int .u8 k] w fun e w'=>e=.returned (.bool false)∧w'=w:=(isOp_any k w).mono fun _ _ ⟨h1,h2⟩=>⟨by rw [h1,h],h2.symm⟩
theorem fits_yes (v:Int) (n:Nat) (w:World) (h0:0≤v) (h1:v≤18446744073709551615) (hn:n≤8) (h:fitB n v=true):Calls Try.prog 71 #[.int .u64 v,.int .i64 n] w fun e w'=>e=.returned (.bool true)∧w'=w:=(fits_any v n w h0 h1 hn).mono fun _ _ ⟨h1,h2⟩=>⟨by rw [h1,h],h2.symm⟩
theorem fits_no (v:Int) (n:Nat) (w:World) (h0:0≤v) (h1:v≤18446744073709551615) (hn:n≤8) (h:fitB n v=false):Calls Try.prog 71 #[.int .u64 v,.int .i64 n] w fun e w'=>e=.returned (.bool false)∧w'=w:=(fits_any v n w h0 h1 hn).mono fun _ _ ⟨h1,h2⟩=>⟨by rw [h1,h],h2.symm⟩
theorem argSize_q (k:Int) (w:World):Calls Try.prog 74 #[.int .u8 k] w fun e w'=>e=.returned (.int .i64 (argW k:Nat))∧w'=w:=(argSize_any k w).mono fun _ _ ⟨h1,h2⟩=>⟨h1,h2.symm⟩
theorem immSize_q (k:Int) (w:World):Calls Try.prog 75 #[.int .u8 k] w fun e w'=>e=.returned (.int .i64 (immW k:Nat))∧w'=w:=(immSize_any k w).mono fun _ _ ⟨h1,h2⟩=>⟨h1,h2.symm⟩
def asW (v:Int):Int:=if 0≤v then v else v+18446744073709551616
theorem asW_bd {v:Int} (h0:-9223372036854775808≤v) (h1:v≤9223372036854775807):0≤asW v∧asW v≤18446744073709551615:=by unfold asW;split <;> omega
theorem fit_asW {n:Nat} {v:Int} (h0:-9223372036854775808≤v) (h1:v≤9223372036854775807) (hn:n≤2):fitB n (asW v)=fitB n v:=by
 have hp:(256:Int) ^ n≤65536:=by
  obtain h | h | h:n=0∨n=1∨n=2:=by omega
  all_goals rw [h];decide
 unfold fitB asW
 split
 ·rfl
 ·rw [decide_eq_false (by omega),decide_eq_false (by omega)]

theorem okI_any (i:Ins) (w:World) (hw:WfI i) :
  Calls Try.prog 91 #[.agg #[.int .u8 i.op,.int .i64 i.arg,.int .u64 i.imm]] w fun e w'=>e=.returned (.bool (okI i))∧Below w.heap.size w w':=by
 obtain ⟨o0,o1,a0,a1,m0,m1⟩:=hw
 obtain ⟨op,arg,imm⟩:=i
 simp only at *
 have hb:=asW_bd a0 a1
 obtain ⟨b0,b1⟩:=hb
 have hwr:IntKind.u64.wrap arg=asW arg:=by rw [IntKind.wrap_u64];unfold asW;split <;> omega
 obtain ⟨aw,HAW⟩:∃ aw,Hid (aw=asW arg):=⟨_,rfl⟩
 rw [← HAW.out] at hwr b0 b1
 have hAB:∀ o:Obj,Hid (Below w.heap.size w (w.alloc o)):=fun o=>(Below.refl _ _).alloc (Nat.le_refl _) o
 unfold okI
 simp only
 cases ho:opB op with
 | false =>
  have HO:=Lib.hid ho
  clear ho
  go_enter Try.func91,Try.ntmps91
  go_wp2
  go_quiet ((go_at_call 98;exact Calls.quiet_of_same (isOp_no _ _ HO.out)))
  go_wp2
  go_ret
  exact ⟨rfl,below_drewN (hAB _).out _⟩
 | true =>
  have HO:=Lib.hid ho
  clear ho
  cases ha:fitB (argW op) arg with
  | false =>
   have HA:Hid (fitB (argW op) aw=false):=Lib.hid (by rw [HAW.out,fit_asW a0 a1 (argW_le op),ha])
   clear ha
   go_enter Try.func91,Try.ntmps91
   go_wp2
   go_quiet ((first
    | (go_at_call 98;exact Calls.quiet_of_same (isOp_yes _ _ HO.out))
    | (go_at_call 74;exact Calls.quiet_of_same (argSize_q _ _))
    | (go_at_call 71;exact Calls.quiet_of_same (fits_no aw _ _ b0 b1 (Nat.le_trans (argW_le op) (by omega)) HA.out))))
   go_wp2
   go_ret
   exact ⟨rfl,below_drewN (hAB _).out _⟩
  | true =>
   have HA:Hid (fitB (argW op) aw=true):=Lib.hid (by rw [HAW.out,fit_asW a0 a1 (argW_le op),ha])
   clear ha
   cases hm:fitB (immW op) imm with
   | false =>
    have HM:=Lib.hid hm
    clear hm
    go_enter Try.func91,Try.ntmps91
    go_wp2
    go_quiet ((first
     | (go_at_call 98;exact Calls.quiet_of_same (isOp_yes _ _ HO.out))
     | (go_at_call 74;exact Calls.quiet_of_same (argSize_q _ _))
     | (go_at_call 75;exact Calls.quiet_of_same (immSize_q _ _))
     | (go_at_call 71;with_reducible exact Calls.quiet_of_same (fits_yes aw (argW op) _ b0 b1 (Nat.le_trans (argW_le op) (by omega)) HA.out))
     | (go_at_call 71;with_reducible exact Calls.quiet_of_same (fits_no imm (immW op) _ m0 m1 (immW_le op) HM.out))))
    go_wp2
    go_ret
    exact ⟨rfl,below_drewN (hAB _).out _⟩
   | true =>
    have HM:=Lib.hid hm
    clear hm
    go_enter Try.func91,Try.ntmps91
    go_wp2
    go_quiet ((first
     | (go_at_call 98;exact Calls.quiet_of_same (isOp_yes _ _ HO.out))
     | (go_at_call 74;exact Calls.quiet_of_same (argSize_q _ _))
     | (go_at_call 75;exact Calls.quiet_of_same (immSize_q _ _))
     | (go_at_call 71;with_reducible exact Calls.quiet_of_same (fits_yes aw (argW op) _ b0 b1 (Nat.le_trans (argW_le op) (by omega)) HA.out))
     | (go_at_call 71;with_reducible exact Calls.quiet_of_same (fits_yes imm (immW op) _ m0 m1 (immW_le op) HM.out))))
    go_wp2
    go_ret
    exact ⟨rfl,below_drewN (hAB _).out _⟩

theorem allK_any (B:Nat) (A:Option Addr) (n c:Nat) (ks:List Int) (w:World) (h:Reads w B 1 A n (u8c ks)) (hl:ks.length=n) (hn:n≤140737488351232) :
  Calls Try.prog 88 #[.slice A n c,.func (.func 89) #[] #[]] w fun e w'=>e=.returned (.bool (ks.all kindB))∧w'=w:=by
 have H:=Lib.hid h
 have HL:=Lib.hid hl
 clear h hl
 go_enter Try.func88,Try.ntmps88
 go_wp2
 go_loop [9] (fun i=>∃ k:Nat,k≤n∧i=.int .i64 k∧Hid ((ks.take k).all kindB=true)) (fun i=>n-(intOf i).toNat)
 case atStart=>exact ⟨0,Nat.zero_le _,rfl,rfl⟩
 case round =>
  obtain ⟨k,hk,rfl,HT⟩:=hrel
  by_cases hlt:k<n
  ·obtain ⟨b,off,x,rfl,hb,HX,x0⟩:=H.out.byte hlt
   cases hp:kindB x with
   | true =>
    have HT1:Hid ((ks.take (k+1)).all kindB=true):=Lib.hid (by rw [List.take_add_one,HX.out,List.all_append,HT.out];simp [hp])
    have HP:=Lib.hid hp
    clear hp
    go_wp2_with (go_at_call 89;refine (isKind_any x _).mono ?_;rintro e w2 ⟨rfl,rfl⟩;rw [HP.out])
    go_round
    case rel=>exact ⟨k+1,by omega,by go_num,HT1⟩
    case measure=>simp [intOf];omega
   | false =>
    have HA:Hid (ks.all kindB=false):=Lib.hid (by
     rw [List.all_eq_false]
     exact ⟨x,List.mem_of_getElem? HX.out,by simp [hp]⟩)
    have HP:=Lib.hid hp
    clear hp
    go_wp2_with (go_at_call 89;refine (isKind_any x _).mono ?_;rintro e w2 ⟨rfl,rfl⟩;rw [HP.out])
    go_ret
    exact ⟨by rw [HA.out];rfl,rfl⟩
  ·obtain rfl:n=k:=by omega
   clear hlt hk
   have HA:Hid (ks.all kindB=true):=Lib.hid (by
    have h:=HT.out
    rw [List.take_of_length_le (by rw [HL.out];omega)] at h
    exact h)
   go_wp2
   go_ret
   exact ⟨by rw [HA.out];rfl,rfl⟩

theorem allI_any (B:Nat) (A:Option Addr) (n c:Nat) (is:List Ins) (w:World) (h:Reads w B 3 A n (insc is)) (hl:is.length=n) (hn:n≤140737488351232) (hw:∀ i ∈ is,WfI i) (hB:B≤w.heap.size) :
  Calls Try.prog 90 #[.slice A n c,.func (.func 91) #[] #[]] w fun e w'=>e=.returned (.bool (is.all okI))∧Below w.heap.size w w':=by
 have H:=Lib.hid h
 have HL:=Lib.hid hl
 have HW:=Lib.hid hw
 clear h hl hw
 go_enter Try.func90,Try.ntmps90
 go_wp2
 go_loopw [9] (fun i wr=>∃ k:Nat,k≤n∧i=.int .i64 k∧Hid ((is.take k).all okI=true)∧Hid (Below w.heap.size w wr)) (fun i _=>n-(intOf i).toNat)
 case atStart=>exact ⟨0,Nat.zero_le _,rfl,rfl,Below.refl _ _⟩
 case round =>
  obtain ⟨k,hk,rfl,HT,HB⟩:=hrel
  by_cases hlt:k<n
  ·obtain ⟨b,off,x,rfl,hb,HX,x0,x1,x2⟩:=(H.out.below (HB.out.mono hB)).ins hlt
   have hz:=HB.out.size
   have HB2:Hid (Below w.heap.size w (wr.alloc (.cells #[.int .u8 x.op,.int .i64 x.arg,.int .u64 x.imm] 52))):=HB.out.alloc hz _
   have HWX:=Lib.hid (HW.out x (List.mem_of_getElem? HX.out))
   cases hp:okI x with
   | true =>
    have HT1:Hid ((is.take (k+1)).all okI=true):=Lib.hid (by rw [List.take_add_one,HX.out,List.all_append,HT.out];simp [hp])
    have HP:=Lib.hid hp
    clear hp
    go_wp2_with (go_at_call 91;refine (okI_any x _ HWX.out).mono ?_;rintro e w2 ⟨rfl,hb2⟩;rw [HP.out];refine Hid.out ?_)
    have HB3:=Lib.hid (HB2.out.trans (hb2.mono (by simp;omega)))
    clear hb2
    refine Lib.hid ?_
    go_wp2
    go_roundw
    case rel=>exact ⟨k+1,by omega,by go_num,HT1,HB3⟩
    case measure=>simp [intOf];omega
   | false =>
    have HA:Hid (is.all okI=false):=Lib.hid (by
     rw [List.all_eq_false]
     exact ⟨x,List.mem_of_getElem? HX.out,by simp [hp]⟩)
    have HP:=Lib.hid hp
    clear hp
    go_wp2_with (go_at_call 91;refine (okI_any x _ HWX.out).mono ?_;rintro e w2 ⟨rfl,hb2⟩;rw [HP.out];refine Hid.out ?_)
    have HB3:=Lib.hid (HB2.out.trans (hb2.mono (by simp;omega)))
    clear hb2
    refine Lib.hid ?_
    go_wp2
    go_ret
    exact ⟨by rw [HA.out];rfl,HB3.out⟩
  ·obtain rfl:n=k:=by omega
   clear hlt hk
   have HA:Hid (is.all okI=true):=Lib.hid (by
    have h:=HT.out
    rw [List.take_of_length_le (by rw [HL.out];omega)] at h
    exact h)
   go_wp2
   go_ret
   exact ⟨by rw [HA.out];rfl,HB.out⟩
end Go.Proofs.Ytgekmjkfnhogkaa.Q
