/-
  Texts of one seat, one behind the other: QKTak, QKWs, QKTakB, QKSl.
-/
import Derived.StillTailTactics
import Derived.RegionTactic
import Derived.Deep.RegionLaw
import Derived.Lib.AppendZerosOnto
import Derived.Lib.AppendZeros
import Derived.Lib.SliceRun
import Derived.Test.YtgekmjkfnhogkaaMA3
import Derived.Test.YtgekmjkfnhogkaaMA1

set_option linter.unusedVariables false
set_option linter.unusedSimpArgs false
set_option maxRecDepth 100000
set_option maxHeartbeats 51200000
namespace Go.Proofs.Ytgekmjkfnhogkaa.Q
open Go.ChangeShapes Go.WideShapes Go.ChangeAt Go.RowKit
def WkC (A:Option Addr) (n c:Nat) (r:Raw) (rv sv wv:Value):Array Value :=
 #[.slice A n c,.int .i64 r.fn.params,.slice r.lo r.fn.locals.length r.lc,.bool r.fn.result,.int .i64 r.fn.keep,.slice r.co r.fn.code.length r.cc,rv,sv,wv]
structure Wk (w:World) (B g:Nat) (A:Option Addr) (n c:Nat) (rs:List Raw) (r:Raw) (rv sv wv:Value):Prop where
 blk:Blk w g 138 (WkC A n c r rv sv wv)
 prog:RdP w B A n rs
 fn:RdF w B r
 wf:WfF r.fn
 le:B≤w.heap.size
 ok:okP (fns rs)=true
 okf:okF r.fn=true
 bg:B≤g
section
variable {w w':World} {B g n c:Nat} {A:Option Addr} {rs:List Raw} {r:Raw} {rv sv wv:Value}
theorem Wk.below (h:Wk w B g A n c rs r rv sv wv) (hb:Below w.heap.size w w'):Wk w' B g A n c rs r rv sv wv :=
 ⟨h.blk.below hb h.blk.lt,h.prog.below (hb.mono h.le),h.fn.below (hb.mono h.le),h.wf,by have:=hb.size;have:=h.le;omega,h.ok,h.okf,h.bg⟩
theorem Wk.alloc (h:Wk w B g A n c rs r rv sv wv) (o:Obj):Wk (w.alloc o) B g A n c rs r rv sv wv:=h.below ((Below.refl _ _).alloc (Nat.le_refl _) o)
theorem Wk.cells (h:Wk w B g A n c rs r rv sv wv):w.cell? ⟨g,0,none⟩=some (.slice A n c)∧w.cell? ⟨g,1,none⟩=some (.int .i64 r.fn.params)∧w.cell? ⟨g,2,none⟩=some (.slice r.lo r.fn.locals.length r.lc) ∧
  w.cell? ⟨g,3,none⟩=some (.bool r.fn.result)∧w.cell? ⟨g,4,none⟩=some (.int .i64 r.fn.keep)∧w.cell? ⟨g,5,none⟩=some (.slice r.co r.fn.code.length r.cc)∧w.cell? ⟨g,6,none⟩=some rv∧w.cell? ⟨g,7,none⟩=some sv∧w.cell? ⟨g,8,none⟩=some wv :=
 ⟨h.blk.cell 0,h.blk.cell 1,h.blk.cell 2,h.blk.cell 3,h.blk.cell 4,h.blk.cell 5,h.blk.cell 6,h.blk.cell 7,h.blk.cell 8⟩
end
theorem newK_at {w W:World} (l:List Int) (m:Nat) (hm:m=l.length) (hl:m≤100) (hb:Below w.heap.size w W):NewK w l (.returned (.slice (some ⟨W.heap.size,0,none⟩) m m)) (W.alloc (.cells (u8c l).toArray 46)):=by
 refine ⟨_,m,_,rfl,hm,⟨by rw [length_u8c];omega,.inr ⟨W.heap.size,m,(u8c l).toArray,rfl,hb.size,heap_alloc_new _ _,Nat.le_refl _,by unfold maxLen;omega,by simp [length_u8c];omega,?_⟩⟩,hb.alloc hb.size _⟩
 rw [List.take_of_length_le (by simp [length_u8c];omega)]
theorem rdK_at {w W:World} (l:List Int) (m:Nat) (hm:m=l.length) (hl:m≤100) (hb:Below w.heap.size w W):RdK w l (.returned (.slice (some ⟨W.heap.size,0,none⟩) m m)) (W.alloc (.cells (u8c l).toArray 46)):=(newK_at l m hm hl hb).rdK
theorem rdK_nil {w W:World} (hb:Below w.heap.size w W):RdK w [] (.returned (.slice none 0 0)) W:=⟨none,0,0,rfl,rfl,Nat.le_refl _,Reads.none_,hb⟩
theorem topOf_any (B:Nat) (A:Option Addr) (n c:Nat) (s:Stk) (w:World) (h:Reads w B 1 A n (u8c s)) (hn:n≤100000) :
  Calls Try.prog 100 #[.slice A n c] w fun e w'=>e=.returned (.int .u8 (topK s))∧w=w':=by
 have hl:s.length=n:=by have:=h.1;rw [length_u8c] at this;omega
 rcases Nat.eq_zero_or_pos n with rfl | hp
 ·have hs:s=[]:=List.eq_nil_of_length_eq_zero hl
  subst hs
  clear h hl
  go_enter Try.func100,Try.ntmps100
  go_wp2
  go_ret
  exact ⟨rfl,rfl⟩
 ·obtain ⟨k,rfl⟩:∃ k,n=k+1:=⟨n-1,by omega⟩
  obtain ⟨b,off,x,rfl,hb,HX,x0⟩:=h.byte (k:=k) (by omega)
  have HT:Hid (topK s=x):=Lib.hid (by
   unfold topK
   rw [List.getLast?_eq_getElem?,hl,Nat.add_sub_cancel,HX.out];rfl)
  rw [HT.out]
  have g0:((k:Int)+1 == 0)=false:=by simp;omega
  have hk1:((k:Int)+1)-1=(k:Int):=by omega
  have h0:(0:Int)≤(k:Int):=by omega
  have h1:(k:Int)<(k:Int)+1:=by omega
  clear h hl hp
  go_enter Try.func100,Try.ntmps100
  go_wp2
  go_ret
  exact ⟨rfl,rfl⟩
theorem resultOf_any (r:Raw) (w:World) :
  Calls Try.prog 104 #[.agg #[.int .i64 r.fn.params,.slice r.lo r.fn.locals.length r.lc,.bool r.fn.result,.int .i64 r.fn.keep,.slice r.co r.fn.code.length r.cc]] w (NewK w (resOf r.fn)):=by
 have HB:∀ o:Obj,Hid (Below w.heap.size w (w.alloc o)):=fun o=>(Below.refl _ _).alloc (Nat.le_refl _) o
 unfold resOf
 cases hr:r.fn.result with
 | false =>
  clear hr
  obtain ⟨⟨p,ls,fl,kp,is⟩,lo,lc,co,cc⟩:=r
  go_enter Try.func104,Try.ntmps104
  go_wp2
  go_ret
  exact ⟨none,0,0,rfl,rfl,own_none _ _ _ _,(HB _).out⟩
 | true =>
  clear hr
  obtain ⟨⟨p,ls,fl,kp,is⟩,lo,lc,co,cc⟩:=r
  go_enter Try.func104,Try.ntmps104
  go_wp2
  go_ret
  have h:=newK_at [0] 1 rfl (by omega) (HB (.cells #[.int .i64 p,.slice lo ls.length lc,.bool true,.int .i64 kp,.slice co is.length cc] 41)).out
  rw [World.size_alloc] at h
  exact h
def intc (l:List Nat):List Value:=l.map fun x:Nat=>Value.int .i64 (x:Int)
def NewI (w:World) (l:List Nat) (e:Ending) (w':World):Prop :=
 ∃ A m,e=.returned (.slice A m m)∧m=l.length∧Reads w' w'.heap.size 1 A m (intc l)∧(∀ ad,A=some ad→w.heap.size≤ad.block)∧Below w.heap.size w w'
theorem newI_at {w W:World} (l:List Nat) (m:Nat) (hm:m=l.length) (hb:Below w.heap.size w W):NewI w l (.returned (.slice (some ⟨W.heap.size,0,none⟩) m m)) (W.alloc (.cells (intc l).toArray 3)) :=
 ⟨_,m,rfl,hm,reads_blk (Blk.new W 3 (intc l).toArray) (by simp [intc];omega),(fun ad h=>by injection h with h;subst h;exact hb.size),hb.alloc hb.size _⟩
theorem succ_any (a:Nat) (i:Ins) (w:World) (ha:a≤100000) (h0:0≤i.arg) :
  Calls Try.prog 97 #[.int .i64 a,.agg #[.int .u8 i.op,.int .i64 i.arg,.int .u64 i.imm]] w (NewI w (succK a i)):=by
 have HB:∀ o:Obj,Hid (Below w.heap.size w (w.alloc o)):=fun o=>(Below.refl _ _).alloc (Nat.le_refl _) o
 obtain ⟨op,arg,imm⟩:=i
 simp only at h0 ⊢
 obtain ⟨t,rfl⟩:∃ t:Nat,arg=(t:Int):=⟨arg.toNat,by omega⟩
 unfold succK
 simp only [Int.toNat_natCast]
 by_cases c1:op=21
 ·rw [if_pos c1]
  subst c1
  go_enter Try.func97,Try.ntmps97
  go_wp2
  go_ret
  have h:=newI_at [t] 1 rfl (HB (.cells #[.int .u8 21,.int .i64 t,.int .u64 imm] 52)).out
  rw [World.size_alloc] at h
  exact h
 rw [if_neg c1]
 have g1:(op == 21)=false:=by simpa using c1
 by_cases c2:op=22
 ·rw [if_pos c2]
  subst c2
  clear c1 g1
  go_enter Try.func97,Try.ntmps97
  go_wp2
  go_ret
  have h:=newI_at [a+1,t] 2 rfl (HB (.cells #[.int .u8 22,.int .i64 t,.int .u64 imm] 52)).out
  rw [World.size_alloc] at h
  exact h
 rw [if_neg c2]
 have g2:(op == 22)=false:=by simpa using c2
 by_cases c3:op=24∨op=26∨op=30
 ·rw [if_pos c3]
  clear c1 c2 g1 g2
  rcases c3 with rfl | rfl | rfl
  all_goals
   go_enter Try.func97,Try.ntmps97
   go_wp2
   go_ret
   exact ⟨none,0,rfl,rfl,Reads.none_,(fun ad h=>by cases h),(HB _).out⟩
 rw [if_neg c3]
 have g3:(op == 24)=false:=by simp;omega
 have g4:(op == 26)=false:=by simp;omega
 have g5:(op == 30)=false:=by simp;omega
 clear c1 c2 c3
 go_enter Try.func97,Try.ntmps97
 go_wp2
 go_ret
 have h:=newI_at [a+1] 1 rfl (HB (.cells #[.int .u8 op,.int .i64 t,.int .u64 imm] 52)).out
 rw [World.size_alloc] at h
 exact h
structure Kp (w w':World) (ex:Nat→Prop):Prop where
 os:w'.os=w.os
 tape:w'.tape=w.tape
 output:w'.output=w.output
 size:w.heap.size≤w'.heap.size
 block:∀ i,i<w.heap.size→¬ ex i→w'.heap[i]?=w.heap[i]?
section
variable {w w' w1 w2:World} {ex ex':Nat→Prop} {B:Nat}
theorem Kp.refl (w:World) (ex:Nat→Prop):Kp w w ex:=⟨rfl,rfl,rfl,Nat.le_refl _,fun _ _ _=>rfl⟩
theorem Kp.trans (h:Kp w w1 ex) (k:Kp w1 w2 ex') (he:∀ i,i<w.heap.size→ex' i→ex i):Kp w w2 ex :=
 ⟨k.os.trans h.os,k.tape.trans h.tape,k.output.trans h.output,Nat.le_trans h.size k.size,fun i hi hn=>(k.block i (Nat.lt_of_lt_of_le hi h.size) fun hx=>hn (he i hi hx)).trans (h.block i hi hn)⟩
theorem Kp.of_below (h:Below w.heap.size w w') (ex:Nat→Prop):Kp w w' ex:=⟨h.os,h.tape,h.output,h.size,fun i hi _=>h.block i hi⟩
theorem Kp.of_grown {row:Option Nat} (h:w.grownBy w' row) (he:∀ i,row=some i→ex i):Kp w w' ex:=⟨h.os,h.tape,h.output,h.size,fun i hi hn=>h.block i hi fun e=>hn (he i e.symm)⟩
theorem Kp.set (w:World) (p:Addr) (v:Value) (hp:ex p.block):Kp w (w.setCell p v) ex :=
 ⟨rfl,rfl,rfl,by simp [World.setCell],fun i hi hn=>Below.heap_setCell w p v i (by rintro rfl;exact hn hp)⟩
theorem Kp.below (h:Kp w w' ex) (hB:B≤w.heap.size) (he:∀ i,ex i→B≤i):Below B w w' :=
 ⟨h.os,h.tape,h.output,h.size,fun i hi=>h.block i (by omega) fun hx=>by have:=he i hx;omega⟩
theorem Kp.wider (h:Kp w w' ex) (he:∀ i,i<w.heap.size→ex i→ex' i):Kp w w' ex':=⟨h.os,h.tape,h.output,h.size,fun i hi hn=>h.block i hi fun hx=>hn (he i hi hx)⟩
theorem Kp.drew (h:Kp w w' ex):Kp w w'.drew ex:=⟨h.os,h.tape,h.output,h.size,h.block⟩
theorem Kp.own {base size n:Nat} {e:TypeId} {v:Value} {xs:List Value} (h:Kp w w' ex) (ho:w.ownsRow base e size v n xs) (hn:∀ i,v.ownBlock=some i→¬ ex i):w'.ownsRow base e size v n xs :=
 own_kept ho fun i hi=>h.block i (own_lt ho hi).2 (hn i hi)
theorem Kp.blk {g:Nat} {t:TypeId} {cs:Array Value} (h:Kp w w' ex) (hb:Blk w g t cs) (hn:¬ ex g):Blk w' g t cs:=(h.block g hb.lt hn).trans hb
end
def reachC (l:List (Option Stk)):List Value:=l.map fun x=>.bool x.isSome
def Ex (g ra sa:Nat) (wv:Value) (i:Nat):Prop:=i=g∨i=ra∨i=sa∨wv.ownBlock=some i
structure WS (w:World) (B g ra sa:Nat) (A:Option Addr) (n c:Nat) (rs:List Raw) (r:Raw) (m:Nat) (l:List (Option Stk)) (wl:List Nat) (vs:List Value) (WA:Option Addr) (wk wcap:Nat):Prop where
 wkr:Wk w B g A n c rs r (.slice (some ⟨ra,0,none⟩) m m) (.slice (some ⟨sa,0,none⟩) m m) (.slice WA wk wcap)
 len:l.length=m
 clen:r.fn.code.length=m
 small:m≤256
 reached:Blk w ra 4 (reachC l).toArray
 stacks:Blk w sa 38 vs.toArray
 vlen:vs.length=m
 vat:∀ (j:Nat) x,l[j]?=some x→∃ a q k,vs[j]?=some (.slice a q k)∧q=(x.getD []).length∧w.ownsRow B 46 1 (.slice a q k) q (u8c (x.getD []))
 wlen:wl.length=wk
 wait:w.ownsRow B 3 1 (.slice WA wk wcap) wk (intc wl)
 bra:B≤ra
 bsa:B≤sa
section
variable {w w' w2 w8:World} {B g ra sa n c m wk wcap b:Nat} {A WA:Option Addr} {rs:List Raw} {r:Raw} {l:List (Option Stk)} {wl:List Nat} {vs:List Value} {s:Stk} {ex:Nat→Prop}
theorem kind_ne {base size q:Nat} {v:Value} {xs:List Value} (h:WS w B g ra sa A n c rs r m l wl vs WA wk wcap) (ho:w.ownsRow base 46 size v q xs):∀ i,v.ownBlock=some i→¬ Ex g ra sa (.slice WA wk wcap) i:=by
 rintro i hi (rfl | rfl | rfl | hx)
 ·exact own_blk_ne ho h.wkr.blk (by decide) hi
 ·exact own_blk_ne ho h.reached (by decide) hi
 ·exact own_blk_ne ho h.stacks (by decide) hi
 ·rcases h.wait.2 with ⟨he,_⟩ | ⟨g',cap,cur,he,_,hb,_⟩
  ·rw [he] at hx;cases hx
  ·rw [he] at hx
   obtain rfl:g'=i:=by simpa [Value.ownBlock] using hx
   exact own_blk_ne ho (g:=g') (t:=3) (cs:=cur) hb (by decide) hi
theorem ex_ge (h:WS w B g ra sa A n c rs r m l wl vs WA wk wcap):∀ i,Ex g ra sa (.slice WA wk wcap) i→B≤i:=by
 rintro i (rfl | rfl | rfl | hx)
 ·exact h.wkr.bg
 ·exact h.bra
 ·exact h.bsa
 ·exact (own_lt h.wait hx).1
theorem WS.kept (h:WS w B g ra sa A n c rs r m l wl vs WA wk wcap) (hk:Kp w w' ex) (hn:∀ i,ex i→B≤i) (hg:¬ ex g) (hr:¬ ex ra) (hs:¬ ex sa) (hwv:∀ i,(Value.slice WA wk wcap).ownBlock=some i→¬ ex i)
  (hkd:∀ (v:Value) (q:Nat) (xs:List Value),w.ownsRow B 46 1 v q xs→∀ i,v.ownBlock=some i→¬ ex i):WS w' B g ra sa A n c rs r m l wl vs WA wk wcap:=by
 have hB:=hk.below h.wkr.le hn
 refine ⟨⟨hk.blk h.wkr.blk hg,h.wkr.prog.below hB,h.wkr.fn.below hB,h.wkr.wf,by have:=hk.size;have:=h.wkr.le;omega,h.wkr.ok,h.wkr.okf,h.wkr.bg⟩,h.len,h.clen,h.small,hk.blk h.reached hr,hk.blk h.stacks hs,h.vlen,fun j x hx=>?_,h.wlen,hk.own h.wait hwv,h.bra,h.bsa⟩
 obtain ⟨a,q,k,h1,h2,h3⟩:=h.vat j x hx
 exact ⟨a,q,k,h1,h2,hk.own h3 (hkd _ _ _ h3)⟩
theorem WS.below (h:WS w B g ra sa A n c rs r m l wl vs WA wk wcap) (hb:Below w.heap.size w w'):WS w' B g ra sa A n c rs r m l wl vs WA wk wcap :=
 h.kept (ex:=fun _=>False) (Kp.of_below hb _) (fun _ h=>h.elim) (fun h=>h) (fun h=>h) (fun h=>h) (fun _ _ h=>h) (fun _ _ _ _ _ _ h=>h)
theorem WS.put {A2:Option Addr} {c2 q:Nat} (h:WS w B g ra sa A n c rs r m l wl vs WA wk wcap) (hb:l[b]?=some none) (hb2:Below w.heap.size (w.setCell ⟨ra,b,none⟩ (.bool true)) w2) (hq:q=s.length) (ho:w2.ownsRow w.heap.size 46 1 (.slice A2 q c2) q (u8c s)) :
  WS (w2.setCell ⟨sa,b,none⟩ (.slice A2 q c2)) B g ra sa A n c rs r m (l.set b (some s)) wl (vs.set b (.slice A2 q c2)) WA wk wcap∧Kp w (w2.setCell ⟨sa,b,none⟩ (.slice A2 q c2)) (fun i=>i=ra∨i=sa):=by
 have hle:=h.wkr.le
 have hsz:(w.setCell ⟨ra,b,none⟩ (.bool true)).heap.size=w.heap.size:=by simp [World.setCell]
 have hk1:Kp w (w.setCell ⟨ra,b,none⟩ (.bool true)) (fun i=>i=ra∨i=sa):=Kp.set w _ _ (.inl rfl)
 have hk2:Kp (w.setCell ⟨ra,b,none⟩ (.bool true)) w2 (fun i=>i=ra∨i=sa):=Kp.of_below (by rw [hsz];exact hb2) _
 have hk12:Kp w w2 (fun i=>i=ra∨i=sa):=hk1.trans hk2 fun _ _ h=>h
 have hk3:Kp w2 (w2.setCell ⟨sa,b,none⟩ (.slice A2 q c2)) (fun i=>i=sa):=Kp.set w2 _ _ rfl
 have hk:Kp w (w2.setCell ⟨sa,b,none⟩ (.slice A2 q c2)) (fun i=>i=ra∨i=sa):=hk12.trans hk3 fun _ _ h=>.inr h
 have hrs:ra≠sa:=Blk.ne_ h.reached h.stacks (by decide)
 have hrg:ra≠g:=Blk.ne_ h.reached h.wkr.blk (by decide)
 have hsg:sa≠g:=Blk.ne_ h.stacks h.wkr.blk (by decide)
 have hB:Below B w (w2.setCell ⟨sa,b,none⟩ (.slice A2 q c2)):=hk.below hle (by rintro i (rfl | rfl);exact h.bra;exact h.bsa)
 have hst2:Blk w2 sa 38 vs.toArray:=hk2.blk ((Below.heap_setCell w ⟨ra,b,none⟩ _ sa (by simpa using hrs.symm)).trans h.stacks) |> fun f=>(hb2.block sa h.stacks.lt).trans ((Below.heap_setCell w ⟨ra,b,none⟩ _ sa (by simpa using hrs.symm)).trans h.stacks)
 have hre2:Blk w2 ra 4 ((reachC l).toArray.setIfInBounds b (.bool true)):=(hb2.block ra h.reached.lt).trans (h.reached.set_ b (.bool true))
 refine ⟨⟨⟨hk.blk h.wkr.blk (by rintro (rfl | rfl);exact hrg rfl;exact hsg rfl),h.wkr.prog.below hB,h.wkr.fn.below hB,h.wkr.wf,by have:=hk.size;omega,h.wkr.ok,h.wkr.okf,h.wkr.bg⟩,by rw [List.length_set];exact h.len,h.clen,h.small,?_,?_,by rw [List.length_set];exact h.vlen,fun j x hx=>?_,h.wlen,?_,h.bra,h.bsa⟩,hk⟩
 ·have:=hre2.far (p:=⟨sa,b,none⟩) hrs (.slice A2 q c2)
  have he:(reachC l).toArray.setIfInBounds b (.bool true)=(reachC (l.set b (some s))).toArray:=by
   unfold reachC
   rw [List.setIfInBounds_toArray,List.map_set];rfl
  rw [he] at this
  exact this
 ·have:=hst2.set_ b (.slice A2 q c2)
  rw [List.setIfInBounds_toArray] at this
  exact this
 ·rw [List.getElem?_set] at hx
  split at hx
  ·subst_vars
   split at hx
   ·simp at hx
    subst hx
    refine ⟨A2,_,c2,by rw [List.getElem?_set];simp [h.vlen,← h.len];omega,rfl,?_⟩
    exact own_far (own_more ho hle) hst2 (by decide) _ _
   ·cases hx
  ·rename_i hne
   obtain ⟨a,q',k',h1,h2,h3⟩:=h.vat j x hx
   refine ⟨a,q',k',by rw [List.getElem?_set_ne hne];exact h1,h2,hk.own h3 fun i hi hx=>?_⟩
   rcases hx with rfl | rfl
   ·exact own_blk_ne h3 h.reached (by decide) hi
   ·exact own_blk_ne h3 h.stacks (by decide) hi
 ·refine hk.own h.wait fun i hi hx=>?_
  rcases hx with rfl | rfl
  ·exact own_blk_ne h.wait h.reached (by decide) hi
  ·exact own_blk_ne h.wait h.stacks (by decide) hi
theorem WS.push {v8:Value} (h:WS w B g ra sa A n c rs r m l wl vs WA wk wcap) (o:Obj) (hown:w8.ownsRow B 3 1 v8 (wk+1) (intc wl ++ [.int .i64 (b:Int)])) (hg:(w.alloc o).grownBy w8 (Value.slice WA wk wcap).ownBlock) (hor:v8.ownBlock=(Value.slice WA wk wcap).ownBlock∨v8.ownBlock=some (w.alloc o).heap.size) :
  ∃ WA8 c8,v8=.slice WA8 (wk+1) c8∧w8.cell? ⟨g,8,none⟩=some (.slice WA wk wcap)∧w8.frozen? ⟨g,8,none⟩=false∧WS (w8.setCell ⟨g,8,none⟩ v8) B g ra sa A n c rs r m l (wl ++ [b]) vs WA8 (wk+1) c8∧Kp w (w8.setCell ⟨g,8,none⟩ v8) (Ex g ra sa (.slice WA wk wcap)) ∧
   (v8.ownBlock=(Value.slice WA wk wcap).ownBlock∨∃ j,v8.ownBlock=some j∧w.heap.size≤j):=by
 obtain ⟨WA8,c8,rfl⟩:=own_slice hown
 have hle:=h.wkr.le
 have hka:Kp w (w.alloc o) (Ex g ra sa (.slice WA wk wcap)):=Kp.of_below ((Below.refl _ _).alloc (Nat.le_refl _) o) _
 have hk8:Kp (w.alloc o) w8 (Ex g ra sa (.slice WA wk wcap)):=Kp.of_grown hg fun i hi=>.inr (.inr (.inr hi))
 have hk08:Kp w w8 (fun i=>(Value.slice WA wk wcap).ownBlock=some i):=(Kp.of_below ((Below.refl _ _).alloc (Nat.le_refl _) o) _).trans (Kp.of_grown (ex:=fun i=>(Value.slice WA wk wcap).ownBlock=some i) hg fun i hi=>hi) fun _ _ h=>h
 have hb8:Blk w8 g 138 (WkC A n c r (.slice (some ⟨ra,0,none⟩) m m) (.slice (some ⟨sa,0,none⟩) m m) (.slice WA wk wcap)):=hk08.blk h.wkr.blk fun hx=>own_blk_ne h.wait h.wkr.blk (by decide) hx
 have hrg:ra≠g:=Blk.ne_ h.reached h.wkr.blk (by decide)
 have hsg:sa≠g:=Blk.ne_ h.stacks h.wkr.blk (by decide)
 have hk9:Kp w8 (w8.setCell ⟨g,8,none⟩ (.slice WA8 (wk+1) c8)) (Ex g ra sa (.slice WA wk wcap)):=Kp.set w8 _ _ (.inl rfl)
 have hk:Kp w (w8.setCell ⟨g,8,none⟩ (.slice WA8 (wk+1) c8)) (Ex g ra sa (.slice WA wk wcap)):=(hka.trans hk8 fun _ _ h=>h).trans hk9 fun _ _ h=>h
 have hB:Below B w (w8.setCell ⟨g,8,none⟩ (.slice WA8 (wk+1) c8)):=hk.below hle (ex_ge h)
 refine ⟨WA8,c8,rfl,hb8.cell 8,hb8.frozen 8,⟨⟨hb8.set_ 8 _,h.wkr.prog.below hB,h.wkr.fn.below hB,h.wkr.wf,by have:=hk.size;omega,h.wkr.ok,h.wkr.okf,h.wkr.bg⟩,h.len,h.clen,h.small,?_,?_,h.vlen,fun j x hx=>?_,by rw [List.length_append,h.wlen];rfl,?_,h.bra,h.bsa⟩,hk,?_⟩
 ·exact (hk08.blk h.reached fun hx=>own_blk_ne h.wait h.reached (by decide) hx).far (p:=⟨g,8,none⟩) hrg _
 ·exact (hk08.blk h.stacks fun hx=>own_blk_ne h.wait h.stacks (by decide) hx).far (p:=⟨g,8,none⟩) hsg _
 ·obtain ⟨a,q,k,h1,h2,h3⟩:=h.vat j x hx
  exact ⟨a,q,k,h1,h2,hk.own h3 (kind_ne h h3)⟩
 ·have:=own_far hown hb8 (by decide) 8 (.slice WA8 (wk+1) c8)
  unfold intc at this ⊢
  rw [List.map_append]
  exact this
 ·rcases hor with hor | hor
  ·exact .inl hor
  ·exact .inr ⟨_,hor,by simp⟩
end
theorem insRef_loc {fs:List Fn} {f:Fn} {i:Ins} (h:insRef fs f i=true) (ho:i.op=2∨i.op=3):i.arg<f.locals.length:=by
 unfold insRef at h;rw [if_pos ho] at h;simpa using h
theorem insRef_fn {fs:List Fn} {f:Fn} {i:Ins} (h:insRef fs f i=true) (ho:i.op=23∨i.op=25):i.arg<fs.length:=by
 unfold insRef at h;rw [if_neg (by omega),if_neg (by omega),if_neg (by omega),if_pos ho] at h;simpa using h
theorem okF_par {f:Fn} (h:okF f=true):0≤f.params∧f.params≤f.locals.length∧f.locals.length≤255:=by
 obtain ⟨h1,_,h3,h4,_⟩:=okF_iff.1 h
 exact ⟨h3,h4,h1⟩
theorem pre_reads {w:World} {B n k:Nat} {A:Option Addr} {xs:List Int} (h:Reads w B 1 A n (u8c xs)) (hk:k≤n):Reads w B 1 A k (u8c (xs.take k)):=by
 refine ⟨by have:=h.1;rw [length_u8c] at this ⊢;rw [List.length_take];omega,fun hp=>?_⟩
 obtain ⟨ad,hA,hb,hc⟩:=h.2 (by omega)
 refine ⟨ad,hA,hb,fun j u hj=>hc j u ?_⟩
 unfold u8c at hj ⊢
 rw [List.map_take,List.getElem?_take] at hj
 split at hj
 ·exact hj
 ·cases hj

theorem takes_any (B g n c:Nat) (A:Option Addr) (rs:List Raw) (r:Raw) (rv sv wv:Value) (i:Ins) (top:Int) (w:World) (h:Wk w B g A n c rs r rv sv wv) (hin:insRef (fns rs) r.fn i=true) (h0:0≤i.arg) :
  Calls Try.prog 101 #[.pointer (some ⟨g,0,none⟩),.agg #[.int .u8 i.op,.int .i64 i.arg,.int .u64 i.imm],.int .u8 top] w (RdK w (takesK (fns rs) r.fn i top)):=by
 have hg:=h.blk.lt
 obtain ⟨d0,d1,d2,d3,d4,d5,d6,d7,d8⟩:=h.cells
 have HB:∀ o:Obj,Hid (Below w.heap.size w (w.alloc o)):=fun o=>(Below.refl _ _).alloc (Nat.le_refl _) o
 have H:=Lib.hid h
 have HIN:=Lib.hid hin
 have hle:=h.le
 clear h hin
 obtain ⟨op,arg,imm⟩:=i
 simp only at h0 ⊢
 obtain ⟨a,rfl⟩:∃ a:Nat,arg=(a:Int):=⟨arg.toNat,by omega⟩

 by_cases c3:op=3
 ·subst c3
  have hlt:=insRef_loc HIN.out (.inr rfl)
  simp only at hlt
  obtain ⟨b,off,x,hA,hb,HX,x0⟩:=H.out.fn.locals.byte (k:=a) (by omega)
  rw [show takesK (fns rs) r.fn ⟨3,(a:Int),imm⟩ top=[x] by simp [takesK,locK,List.getD_eq_getElem?_getD,HX.out]]
  rw [hA] at d2
  obtain ⟨nl,hnl⟩:∃ nl,nl=r.fn.locals.length:=⟨_,rfl⟩
  rw [← hnl] at d2 hlt
  have hlt':a<nl:=by omega
  have hbw:b<w.heap.size:=by omega
  clear hnl hlt d0 d1 d3 d4 d5 d6 d7 d8 HX
  go_enter Try.func101,Try.ntmps101
  go_wp2
  go_region
  all_goals
   go_wp2
   go_ret
   have hn:=rdK_at [x] 1 rfl (by omega) (HB (.cells #[.int .u8 3,.int .i64 (a:Int),.int .u64 imm] 52)).out.drew
   rw [show ((w.alloc (.cells #[.int .u8 3,.int .i64 (a:Int),.int .u64 imm] 52)).drew).heap.size=w.heap.size+1 by simp] at hn
   exact hn
 by_cases c5:op=5
 ·subst c5
  all_goals
   rw [show takesK (fns rs) r.fn ⟨_,(a:Int),imm⟩ top=[1] by simp [takesK]]
   clear d0 d1 d2 d3 d4 d5 d6 d7 d8
   go_enter Try.func101,Try.ntmps101
   go_wp2
   go_ret
   first
    | (have hn:=rdK_at [1] 1 rfl (by omega) (HB (.cells #[.int .u8 5,.int .i64 (a:Int),.int .u64 imm] 52)).out;rw [World.size_alloc] at hn;exact hn)
 by_cases c6:op=6
 ·subst c6
  all_goals
   rw [show takesK (fns rs) r.fn ⟨_,(a:Int),imm⟩ top=[1,0] by simp [takesK]]
   clear d0 d1 d2 d3 d4 d5 d6 d7 d8
   go_enter Try.func101,Try.ntmps101
   go_wp2
   go_ret
   first
    | (have hn:=rdK_at [1,0] 2 rfl (by omega) (HB (.cells #[.int .u8 6,.int .i64 (a:Int),.int .u64 imm] 52)).out;rw [World.size_alloc] at hn;exact hn)
 by_cases c22:op=22∨op=26∨op=29∨op=30
 ·rcases c22 with rfl | rfl | rfl | rfl
  all_goals
   rw [show takesK (fns rs) r.fn ⟨_,(a:Int),imm⟩ top=[0] by simp [takesK]]
   clear d0 d1 d2 d3 d4 d5 d6 d7 d8
   go_enter Try.func101,Try.ntmps101
   go_wp2
   go_ret
   first
    | (have hn:=rdK_at [0] 1 rfl (by omega) (HB (.cells #[.int .u8 22,.int .i64 (a:Int),.int .u64 imm] 52)).out;rw [World.size_alloc] at hn;exact hn)
    | (have hn:=rdK_at [0] 1 rfl (by omega) (HB (.cells #[.int .u8 26,.int .i64 (a:Int),.int .u64 imm] 52)).out;rw [World.size_alloc] at hn;exact hn)
    | (have hn:=rdK_at [0] 1 rfl (by omega) (HB (.cells #[.int .u8 29,.int .i64 (a:Int),.int .u64 imm] 52)).out;rw [World.size_alloc] at hn;exact hn)
    | (have hn:=rdK_at [0] 1 rfl (by omega) (HB (.cells #[.int .u8 30,.int .i64 (a:Int),.int .u64 imm] 52)).out;rw [World.size_alloc] at hn;exact hn)
 by_cases c23:op=23∨op=25
 ·have hlt:=insRef_fn HIN.out c23
  simp only at hlt
  have hlen:=H.out.prog.len
  rw [length_fns,hlen] at hlt
  obtain ⟨b,off,s,hA,hb,HS,HSF,HSW,x0,x1,x2,x3,x4⟩:=H.out.prog.fn (k:=a) (by omega)
  have HFN:Hid ((fns rs)[a]?=some s.fn):=Lib.hid (by unfold fns;rw [List.getElem?_map,HS.out];rfl)
  have hokf:=okF_par ((okP_iff.1 H.out.ok).2.2 s.fn (List.mem_of_getElem? HFN.out))
  have hcap:=HSF.out.cap
  obtain ⟨p,hp⟩:∃ p:Nat,s.fn.params=(p:Int):=⟨s.fn.params.toNat,by omega⟩
  rw [show takesK (fns rs) r.fn ⟨op,(a:Int),imm⟩ top=s.fn.locals.take p by
   unfold takesK parK
   simp only [Int.toNat_natCast,HFN.out,hp]
   rw [if_neg (by omega),if_neg (by omega),if_neg (by omega),if_neg (by omega),if_pos c23]]
  have HRD:Hid (∀ W,Below w.heap.size w W→RdK w (s.fn.locals.take p) (.returned (.slice s.lo p s.lc)) W):=Lib.hid fun W hW=>by
   have hz:=hW.size
   exact ⟨s.lo,p,s.lc,rfl,by rw [List.length_take];omega,by omega,pre_reads ((HSF.out.locals.below (hW.mono hle)).more (by omega)) (by omega),hW⟩
  rw [hp] at x0 hokf
  subst hA
  obtain ⟨nl,hnl⟩:∃ nl,nl=s.fn.locals.length:=⟨_,rfl⟩
  rw [← hnl] at x1 hcap hokf
  have hlt':a<n:=by omega
  have hbw:b<w.heap.size:=by omega
  have hpl:p≤s.lc:=by omega
  have hp0:(0:Int)≤(p:Int):=by omega
  have hlc:p≤255:=by omega
  clear hnl hlt hp hokf hcap hlen d1 d2 d3 d4 d5 d6 d7 d8 HFN HS HSW
  rcases c23 with rfl | rfl
  all_goals
   go_enter Try.func101,Try.ntmps101
   go_wp2
   go_region
   all_goals
    go_wp2
    go_ret
    exact HRD.out _ (((HB _).out.drew).alloc (by simp) _)
 by_cases c24:op=24
 ·subst c24
  rw [show takesK (fns rs) r.fn ⟨24,(a:Int),imm⟩ top=resOf r.fn by simp [takesK]]
  clear d0 d6 d7 d8
  go_enter Try.func101,Try.ntmps101
  go_wp2_with (go_at_call 104;refine (resultOf_any r _).mono ?_;rintro e w2 ⟨A2,m2,c2,rfl,hm2,ho2,hb2⟩;have HM2:=Lib.hid hm2;clear hm2;refine Hid.out ?_)
  have HB2:=Lib.hid ((HB (.cells #[.int .u8 24,.int .i64 (a:Int),.int .u64 imm] 52)).out.trans (hb2.mono (by simp)))
  have HO2:=Lib.hid ho2
  clear hb2 ho2
  refine Lib.hid ?_
  go_wp2
  go_ret
  exact ⟨A2,m2,c2,rfl,HM2.out,own_cap HO2.out,Reads.of_own HO2.out,HB2.out⟩
 by_cases c31:op=31∨op=32
 ·rcases c31 with rfl | rfl
  all_goals
   rw [show takesK (fns rs) r.fn ⟨_,(a:Int),imm⟩ top=[top] by simp [takesK]]
   clear d0 d1 d2 d3 d4 d5 d6 d7 d8
   go_enter Try.func101,Try.ntmps101
   go_wp2
   go_ret
   first
    | (have hn:=rdK_at [top] 1 rfl (by omega) (HB (.cells #[.int .u8 31,.int .i64 (a:Int),.int .u64 imm] 52)).out;rw [World.size_alloc] at hn;exact hn)
    | (have hn:=rdK_at [top] 1 rfl (by omega) (HB (.cells #[.int .u8 32,.int .i64 (a:Int),.int .u64 imm] 52)).out;rw [World.size_alloc] at hn;exact hn)
 have g3:(op == 3)=false:=by simp;omega
 have g5:(op == 5)=false:=by simp;omega
 have g6:(op == 6)=false:=by simp;omega
 have g22:(op == 22)=false:=by simp;omega
 have g26:(op == 26)=false:=by simp;omega
 have g29:(op == 29)=false:=by simp;omega
 have g30:(op == 30)=false:=by simp;omega
 have g23:(op == 23)=false:=by simp;omega
 have g25:(op == 25)=false:=by simp;omega
 have g24:(op == 24)=false:=by simp;omega
 have g31:(op == 31)=false:=by simp;omega
 have g32:(op == 32)=false:=by simp;omega
 by_cases c7:7≤op∧op≤20
 ·rw [show takesK (fns rs) r.fn ⟨op,(a:Int),imm⟩ top=[0,0] by
   unfold takesK
   simp only
   rw [if_neg (by omega),if_neg (by omega),if_neg (by omega),if_neg (by omega),if_neg (by omega),if_neg (by omega),if_neg (by omega),if_pos c7]]
  obtain ⟨l7,l20⟩:=c7
  clear c3 c5 c6 c22 c23 c24 c31 d0 d1 d2 d3 d4 d5 d6 d7 d8
  go_enter Try.func101,Try.ntmps101
  go_wp2
  go_ret
  have hn:=rdK_at [0,0] 2 rfl (by omega) (HB (.cells #[.int .u8 op,.int .i64 (a:Int),.int .u64 imm] 52)).out
  rw [World.size_alloc] at hn
  exact hn
 ·rw [show takesK (fns rs) r.fn ⟨op,(a:Int),imm⟩ top=[] by
   unfold takesK
   simp only
   rw [if_neg (by omega),if_neg (by omega),if_neg (by omega),if_neg (by omega),if_neg (by omega),if_neg (by omega),if_neg (by omega),if_neg c7]]
  by_cases l7:7≤op
  ·have l20:¬ op≤20:=fun hh=>c7 ⟨l7,hh⟩
   clear c3 c5 c6 c22 c23 c24 c31 c7 d0 d1 d2 d3 d4 d5 d6 d7 d8
   go_enter Try.func101,Try.ntmps101
   go_wp2
   go_ret
   exact rdK_nil (HB _).out
  ·clear c3 c5 c6 c22 c23 c24 c31 c7 d0 d1 d2 d3 d4 d5 d6 d7 d8
   go_enter Try.func101,Try.ntmps101
   go_wp2
   go_ret
   exact rdK_nil (HB _).out

theorem leaves_any (B g n c:Nat) (A:Option Addr) (rs:List Raw) (r:Raw) (rv sv wv:Value) (i:Ins) (top:Int) (w:World) (h:Wk w B g A n c rs r rv sv wv) (hin:insRef (fns rs) r.fn i=true) (h0:0≤i.arg) :
  Calls Try.prog 103 #[.pointer (some ⟨g,0,none⟩),.agg #[.int .u8 i.op,.int .i64 i.arg,.int .u64 i.imm],.int .u8 top] w (RdK w (leavesK (fns rs) r.fn i top)):=by
 have hg:=h.blk.lt
 obtain ⟨d0,d1,d2,d3,d4,d5,d6,d7,d8⟩:=h.cells
 have HB:∀ o:Obj,Hid (Below w.heap.size w (w.alloc o)):=fun o=>(Below.refl _ _).alloc (Nat.le_refl _) o
 have H:=Lib.hid h
 have HIN:=Lib.hid hin
 have hle:=h.le
 clear h hin
 obtain ⟨op,arg,imm⟩:=i
 simp only at h0 ⊢
 obtain ⟨a,rfl⟩:∃ a:Nat,arg=(a:Int):=⟨arg.toNat,by omega⟩

 by_cases c1:op=1∨op=28∨op=5
 ·rcases c1 with rfl | rfl | rfl
  all_goals
   rw [show leavesK (fns rs) r.fn ⟨_,(a:Int),imm⟩ top=[0] by simp [leavesK]]
   clear d0 d1 d2 d3 d4 d5 d6 d7 d8
   go_enter Try.func103,Try.ntmps103
   go_wp2
   go_ret
   first
    | (have hn:=rdK_at [0] 1 rfl (by omega) (HB (.cells #[.int .u8 1,.int .i64 (a:Int),.int .u64 imm] 52)).out;rw [World.size_alloc] at hn;exact hn)
    | (have hn:=rdK_at [0] 1 rfl (by omega) (HB (.cells #[.int .u8 28,.int .i64 (a:Int),.int .u64 imm] 52)).out;rw [World.size_alloc] at hn;exact hn)
    | (have hn:=rdK_at [0] 1 rfl (by omega) (HB (.cells #[.int .u8 5,.int .i64 (a:Int),.int .u64 imm] 52)).out;rw [World.size_alloc] at hn;exact hn)
 by_cases c2:op=2
 ·subst c2
  have hlt:=insRef_loc HIN.out (.inl rfl)
  simp only at hlt
  obtain ⟨b,off,x,hA,hb,HX,x0⟩:=H.out.fn.locals.byte (k:=a) (by omega)
  rw [show leavesK (fns rs) r.fn ⟨2,(a:Int),imm⟩ top=[x] by simp [leavesK,locK,List.getD_eq_getElem?_getD,HX.out]]
  rw [hA] at d2
  obtain ⟨nl,hnl⟩:∃ nl,nl=r.fn.locals.length:=⟨_,rfl⟩
  rw [← hnl] at d2 hlt
  have hlt':a<nl:=by omega
  have hbw:b<w.heap.size:=by omega
  clear hnl hlt d0 d1 d3 d4 d5 d6 d7 d8 HX
  go_enter Try.func103,Try.ntmps103
  go_wp2
  go_region
  all_goals
   go_wp2
   go_ret
   have hn:=rdK_at [x] 1 rfl (by omega) (HB (.cells #[.int .u8 2,.int .i64 (a:Int),.int .u64 imm] 52)).out.drew
   rw [show ((w.alloc (.cells #[.int .u8 2,.int .i64 (a:Int),.int .u64 imm] 52)).drew).heap.size=w.heap.size+1 by simp] at hn
   exact hn
 by_cases c4:op=4
 ·subst c4
  all_goals
   rw [show leavesK (fns rs) r.fn ⟨_,(a:Int),imm⟩ top=[1] by simp [leavesK]]
   clear d0 d1 d2 d3 d4 d5 d6 d7 d8
   go_enter Try.func103,Try.ntmps103
   go_wp2
   go_ret
   first
    | (have hn:=rdK_at [1] 1 rfl (by omega) (HB (.cells #[.int .u8 4,.int .i64 (a:Int),.int .u64 imm] 52)).out;rw [World.size_alloc] at hn;exact hn)
 by_cases c23:op=23
 ·subst c23
  have hlt:=insRef_fn HIN.out (.inl rfl)
  simp only at hlt
  have hlen:=H.out.prog.len
  rw [length_fns,hlen] at hlt
  obtain ⟨b,off,s,hA,hb,HS,HSF,HSW,x0,x1,x2,x3,x4⟩:=H.out.prog.fn (k:=a) (by omega)
  have HFN:Hid ((fns rs)[a]?=some s.fn):=Lib.hid (by unfold fns;rw [List.getElem?_map,HS.out];rfl)
  rw [show leavesK (fns rs) r.fn ⟨23,(a:Int),imm⟩ top=resOf s.fn by simp [leavesK,resK,HFN.out]]
  subst hA
  have hlt':a<n:=by omega
  have hbw:b<w.heap.size:=by omega
  clear hlt hlen d1 d2 d3 d4 d5 d6 d7 d8 HFN HS HSW
  go_enter Try.func103,Try.ntmps103
  go_wp2
  go_region_with (go_at_call 104;refine (resultOf_any s _).mono ?_;rintro e w2 ⟨A2,m2,c2,rfl,hm2,ho2,hb2⟩;have HB2:=Lib.hid (((HB (.cells #[.int .u8 23,.int .i64 (a:Int),.int .u64 imm] 52)).out.drew).trans (hb2.mono (by simp)));have HO2:=Lib.hid ho2;have HM2:=Lib.hid hm2;clear hb2 ho2 hm2)
  all_goals
   go_wp2
   go_ret
   exact ⟨A2,m2,c2,rfl,HM2.out,own_cap HO2.out,Reads.of_own HO2.out,HB2.out⟩
 by_cases c27:op=27
 ·subst c27
  all_goals
   rw [show leavesK (fns rs) r.fn ⟨_,(a:Int),imm⟩ top=[0,0] by simp [leavesK]]
   clear d0 d1 d2 d3 d4 d5 d6 d7 d8
   go_enter Try.func103,Try.ntmps103
   go_wp2
   go_ret
   first
    | (have hn:=rdK_at [0,0] 2 rfl (by omega) (HB (.cells #[.int .u8 27,.int .i64 (a:Int),.int .u64 imm] 52)).out;rw [World.size_alloc] at hn;exact hn)
 by_cases c32:op=32
 ·subst c32
  all_goals
   rw [show leavesK (fns rs) r.fn ⟨_,(a:Int),imm⟩ top=[top,top] by simp [leavesK]]
   clear d0 d1 d2 d3 d4 d5 d6 d7 d8
   go_enter Try.func103,Try.ntmps103
   go_wp2
   go_ret
   first
    | (have hn:=rdK_at [top,top] 2 rfl (by omega) (HB (.cells #[.int .u8 32,.int .i64 (a:Int),.int .u64 imm] 52)).out;rw [World.size_alloc] at hn;exact hn)
 have g1:(op == 1)=false:=by simp;omega
 have g28:(op == 28)=false:=by simp;omega
 have g5:(op == 5)=false:=by simp;omega
 have g2:(op == 2)=false:=by simp;omega
 have g4:(op == 4)=false:=by simp;omega
 have g23:(op == 23)=false:=by simp;omega
 have g27:(op == 27)=false:=by simp;omega
 have g32:(op == 32)=false:=by simp;omega
 by_cases c7:7≤op∧op≤20
 ·rw [show leavesK (fns rs) r.fn ⟨op,(a:Int),imm⟩ top=[0] by
   unfold leavesK
   simp only
   rw [if_neg (by omega),if_neg (by omega),if_neg (by omega),if_neg (by omega),if_neg (by omega),if_neg (by omega),if_pos c7]]
  obtain ⟨l7,l20⟩:=c7
  clear c1 c2 c4 c23 c27 c32 d0 d1 d2 d3 d4 d5 d6 d7 d8
  go_enter Try.func103,Try.ntmps103
  go_wp2
  go_ret
  have hn:=rdK_at [0] 1 rfl (by omega) (HB (.cells #[.int .u8 op,.int .i64 (a:Int),.int .u64 imm] 52)).out
  rw [World.size_alloc] at hn
  exact hn
 ·rw [show leavesK (fns rs) r.fn ⟨op,(a:Int),imm⟩ top=[] by
   unfold leavesK
   simp only
   rw [if_neg (by omega),if_neg (by omega),if_neg (by omega),if_neg (by omega),if_neg (by omega),if_neg (by omega),if_neg c7]]
  by_cases l7:7≤op
  ·have l20:¬ op≤20:=fun hh=>c7 ⟨l7,hh⟩
   clear c1 c2 c4 c23 c27 c32 c7 d0 d1 d2 d3 d4 d5 d6 d7 d8
   go_enter Try.func103,Try.ntmps103
   go_wp2
   go_ret
   exact rdK_nil (HB _).out
  ·clear c1 c2 c4 c23 c27 c32 c7 d0 d1 d2 d3 d4 d5 d6 d7 d8
   go_enter Try.func103,Try.ntmps103
   go_wp2
   go_ret
   exact rdK_nil (HB _).out
theorem take_eq_snoc {xs ys:List Int} {k:Nat} {x y:Int} (h:xs.take k=ys.take k) (hx:xs[k]?=some x) (hy:ys[k]?=some y) (he:x=y):xs.take (k+1)=ys.take (k+1):=by
 rw [List.take_add_one,List.take_add_one,h,hx,hy,he]
theorem equal_any (B B':Nat) (A A':Option Addr) (n m c d:Nat) (xs ys:List Int) (w:World) (hx:Reads w B 1 A n (u8c xs)) (hy:Reads w B' 1 A' m (u8c ys)) (hB:B≤w.heap.size) (hB':B'≤w.heap.size) (hn:n≤1048576) (hm:m≤1048576) :
  Calls Try.prog 94 #[.slice A n c,.slice A' m d] w fun e w'=>e=.returned (.bool (decide (xs=ys)))∧Below w.heap.size w w':=by
 have HN:Hid (xs.length=n):=Lib.hid (by have:=hx.1;rw [length_u8c] at this;omega)
 have HM:Hid (ys.length=m):=Lib.hid (by have:=hy.1;rw [length_u8c] at this;omega)
 have HX:=Lib.hid hx
 have HY:=Lib.hid hy
 clear hx hy
 obtain ⟨b,HBV⟩:∃ b,Hid (b=decide (xs=ys)):=⟨_,Lib.hid rfl⟩
 rw [← HBV.out]
 by_cases hne:n=m
 ·subst hne
  go_enter Try.func94,Try.ntmps94
  go_wp2
  go_loopw [13] (fun i wr=>∃ k:Nat,k≤n∧i=.int .i64 k∧Hid (xs.take k=ys.take k)∧Hid (Below w.heap.size w wr)) (fun i _=>n-(intOf i).toNat)
  case atStart=>exact ⟨0,Nat.zero_le _,rfl,Lib.hid rfl,Lib.hid (Below.refl _ _)⟩
  case round =>
   obtain ⟨k,hk,rfl,HT,HW⟩:=hrel
   by_cases hlt:k<n
   ·obtain ⟨b1,o1,x,hA1,hb1,HX1,x0⟩:=(HX.out.below (HW.out.mono hB)).byte hlt
    obtain ⟨b2,o2,y,hA2,hb2,HY1,y0⟩:=(HY.out.below (HW.out.mono hB')).byte hlt
    subst hA1 hA2
    have hz:=HW.out.size
    have hbr1:b1<wr.heap.size:=by omega
    have hbr2:b2<wr.heap.size:=by omega
    by_cases he:x=y
    ·have HT1:=Lib.hid (take_eq_snoc HT.out HX1.out HY1.out he)
     subst he
     have g:(x != x)=false:=by simp
     go_wp2
     go_quiet (fail)
     go_wp2
     go_roundw
     case rel=>exact ⟨k+1,by omega,by go_num,HT1,Lib.hid (below_drewN HW.out _)⟩
     case measure=>simp [intOf];omega
    ·have g:(x != y)=true:=by simpa using he
     have HA:Hid (b=false):=Lib.hid (by
      rw [HBV.out]
      have h1:=HX1.out
      have h2:=HY1.out
      simp only [decide_eq_false_iff_not]
      rintro rfl
      rw [h1] at h2
      exact he (by injection h2))
     clear he
     go_wp2
     go_quiet (fail)
     go_wp2
     go_ret
     exact ⟨by rw [HA.out];rfl,below_drewN HW.out _⟩
   ·obtain rfl:n=k:=by omega
    clear hlt hk
    have HA:Hid (b=true):=Lib.hid (by
     have h:=HT.out
     rw [List.take_of_length_le (by rw [HN.out];omega),List.take_of_length_le (by rw [HM.out];omega)] at h
     rw [HBV.out,h];simp)
    go_wp2
    go_ret
    exact ⟨by rw [HA.out];rfl,HW.out⟩
 ·have HA:Hid (b=false):=Lib.hid (by
   rw [HBV.out]
   simp only [decide_eq_false_iff_not]
   rintro rfl
   exact hne (HN.out.symm.trans HM.out))
  go_enter Try.func94,Try.ntmps94
  go_wp2
  go_ret
  exact ⟨by rw [HA.out];rfl,Below.refl _ _⟩
theorem own_lit0 (w:World) (base:Nat) (hb:base≤w.heap.size):(w.alloc (.cells #[] 46)).ownsRow base 46 1 (.slice (some ⟨w.heap.size,0,none⟩) 0 0) 0 [] :=
 w.ownsRow_made #[] 0 hb (by unfold maxLen;omega) rfl
theorem clone_any (B n:Nat) (v:Value) (xs:List Int) (w:World) (h:w.ownsRow B 46 1 v n (u8c xs)) (hn:n≤1048576) :
  Calls Try.prog 95 #[v] w (NewK w xs):=by
 have hl:xs.length=n:=by have:=h.1;rw [length_u8c] at this;omega
 have H:=Lib.hid h
 have q:∀ (W:World) (a:Option Addr) (n c n' c':Nat),(binOp .eql 38 (.slice a n c) (.slice none n' c')).run Try.prog W=.ok (.bool a.isNone) W:=fun W a n c n' c'=>Lib.run_eql_slice_nil W _ _ a n c n' c' Try.underlying38
 rcases h.2 with ⟨rfl,h0⟩ | ⟨g,cap,cur,rfl,hg,hh,hnc,_⟩
 ·have hxs:xs=[]:=List.eq_nil_of_length_eq_zero (by omega)
  subst hxs
  clear h
  go_enter Try.func95,Try.ntmps95
  go_wp2
  go_ret
  exact ⟨none,0,0,rfl,rfl,own_none _ _ _ _,Below.refl _ _⟩
 ·clear h
  have HL:=Lib.hid hl
  have HO:=Lib.hid (own_lit0 w w.heap.size (Nat.le_refl _))
  have HR:=Lib.hid ((Reads.of_own H.out).alloc (Nat.le_refl _) (.cells #[] 46))
  clear hh hl
  go_enter Try.func95,Try.ntmps95
  go_wp2_with (at_builtin;refine app_kind rfl _ _ rfl w.heap.size (.slice (some ⟨w.heap.size,0,none⟩) 0 0) 0 [] rfl HO.out w.heap.size (some ⟨g,0,none⟩) n cap (u8c xs) rfl HR.out (u8c_one _) (by omega) (by simp) ?_;intro v1 w1 hown1 hgr1 _;refine Hid.out ?_)
  rw [Nat.zero_add,List.nil_append] at hown1
  obtain ⟨A1,c1,rfl⟩:=own_slice hown1
  have HO1:=Lib.hid hown1
  have HB1:Hid (Below w.heap.size w w1):=Lib.hid (((Below.refl _ _).alloc (Nat.le_refl _) _).grown hgr1 (by simp) fun i hi=>(own_block_le HO.out hi).1)
  clear hown1 hgr1
  refine Lib.hid ?_
  go_wp2
  go_ret
  exact ⟨A1,n,c1,rfl,HL.out.symm,HO1.out,HB1.out⟩
def RoomK (w:World) (e:Ending) (w':World):Prop:=∃ A c,e=.returned (.slice A 0 c)∧w'.ownsRow w.heap.size 46 1 (.slice A 0 c) 0 []∧Below w.heap.size w w'
theorem grow_any (n:Nat) (w:World) (hn:n≤1048576) :
  Calls Try.prog 105 #[.slice none 0 0,.int .i64 n] w (RoomK w):=by
 rcases Nat.eq_zero_or_pos n with rfl | hp
 ·go_enter Try.func105,Try.ntmps105
  go_wp2
  go_ret
  exact ⟨none,0,rfl,own_none _ _ _ _,Below.refl _ _⟩
 ·obtain ⟨i0,hi,hz0,hz1,hz2⟩:=info_parts Try.info46
  have hrun:∀ ty,∃ (G:Nat) (cur:Array Value),(Builtin.append_ #[38,3] ty #[.slice none 0 0,.int .i64 (n:Int)]).run Try.prog w=.ok (.slice (some ⟨w.heap.size,0,none⟩) n G) (w.drew.alloc (.cells cur 46))∧cur.size=G∧n≤G∧G≤maxLen:=fun ty=>by
   have h:=Lib.run_append_grow_zeros w 38 3 ty 46 i0 (.int .u8 0) .i64 .i64 Try.underlying38 Try.underlying3 hi hz0 none 0 0 [] (run_firstCells_none w.drew i0.size 0 0 0) n hp (by omega) (by omega) (by omega) (by rw [hz2];omega) (growslice_fits (by omega) (by rw [hz2];omega))
   rw [Nat.zero_add] at h
   refine ⟨_,_,h,?_,grownCap_ge w _ _ _,grownCap_le_maxLen w _ _ _ (by unfold maxLen;omega)⟩
   have:=grownCap_ge w n 0 46
   simp only [Builtin.zeroCells,Array.size_append,Array.size_map,Array.size_range]
   have hzc:(Value.int IntKind.u8 0).cells.size=1:=rfl
   rw [hzc]
   simp
   omega
  obtain ⟨G,cur,hr,hcs,hG,hGm⟩:=hrun 38
  have HO:Hid ((w.drew.alloc (.cells cur 46)).ownsRow w.heap.size 46 1 (.slice (some ⟨w.heap.size,0,none⟩) 0 G) 0 []):=Lib.hid (w.drew.ownsRow_made cur G (Nat.le_refl _) hGm (by omega))
  have hG2:G≤9223372036854775807:=by unfold maxLen at hGm;omega
  have HRN:=Lib.hid hr
  clear hr hrun hi hz0 hz1 hz2 hcs hGm
  go_enter Try.func105,Try.ntmps105
  go_wp2_with (at_builtin;refine Lib.wpList_append_run _ rfl _ _ _ _ rfl _ _ rfl rfl _ _ HRN.out ?_)
  go_ret
  exact ⟨_,_,rfl,HO.out,(Below.refl _ _).drew.alloc (Nat.le_refl _) _⟩
def CatI (n1 n2 m:Nat) (s i:Value):Prop:=(i=.int .i64 0∧s=.int .i64 0)∨(i=.int .i64 1∧s=.int .i64 n1)∨(i=.int .i64 2∧s=.int .i64 m)
def CatJ (w:World) (g n1 m:Nat) (xs ys:List Int) (s i:Value) (wr:World):Prop :=
 ∃ A c k j zs,s=.slice A k c∧i=.int .i64 j∧Hid (wr.ownsRow w.heap.size 46 1 (.slice A k c) k (u8c zs))∧Hid (Below w.heap.size w wr)∧((j=(0:Int)∧zs=[]∧k=0)∨(j=1∧zs=xs∧k=n1)∨(j=2∧zs=xs ++ ys∧k=m))
theorem concat_any (g:Nat) (A1 A2:Option Addr) (n1 n2 c1 c2:Nat) (xs ys:List Int) (w:World) (h:Blk w g 38 #[.slice A1 n1 c1,.slice A2 n2 c2]) (h1:Reads w w.heap.size 1 A1 n1 (u8c xs)) (h2:Reads w w.heap.size 1 A2 n2 (u8c ys)) (hn1:n1≤100000) (hn2:n2≤100000) :
  Calls Try.prog 102 #[.slice (some ⟨g,0,none⟩) 2 2] w (NewK w (xs ++ ys)):=by
 have l1:xs.length=n1:=by have:=h1.1;rw [length_u8c] at this;omega
 have l2:ys.length=n2:=by have:=h2.1;rw [length_u8c] at this;omega
 obtain ⟨m,HM⟩:∃ m,Hid (m=n1+n2):=⟨_,Lib.hid rfl⟩
 have hm:m≤200000:=by rw [HM.out];omega
 have HL:Hid ((xs ++ ys).length=m):=Lib.hid (by rw [List.length_append,HM.out,l1,l2])
 have hg:=h.lt
 have x0:w.cell? ⟨g,0,none⟩=some (.slice A1 n1 c1):=h.cell 0
 have x1:w.cell? ⟨g,1,none⟩=some (.slice A2 n2 c2):=h.cell 1
 have H:=Lib.hid h
 have H1:=Lib.hid h1
 have H2:=Lib.hid h2
 clear h h1 h2 l1 l2
 go_enter Try.func102,Try.ntmps102
 go_wp2
 go_loop [3,11] (fun s i=>CatI n1 n2 m s i) (fun _ i=>2-(intOf i).toNat)
 case atStart=>exact .inl ⟨rfl,rfl⟩
 case round =>
  rcases hrel with ⟨rfl,rfl⟩ | ⟨rfl,rfl⟩ | ⟨rfl,rfl⟩
  ·go_wp2
   go_round
   case rel=>exact .inr (.inl ⟨rfl,rfl⟩)
   case measure=>simp [intOf]
  ·go_wp2
   go_round
   case rel=>exact .inr (.inr ⟨rfl,by rw [HM.out];go_num⟩)
   case measure=>simp [intOf]
  ·clear x0 x1
   go_wp2_with (go_at_call 105;refine (grow_any m _ (by omega)).mono ?_;rintro e w2 ⟨A,c,rfl,ho2,hb2⟩;refine Hid.out ?_)
   have HO2:=Lib.hid ho2
   have HB2:=Lib.hid hb2
   clear ho2 hb2
   refine Lib.hid ?_
   go_wp2
   go_loopw [6,27] (fun s i wr=>CatJ w g n1 m xs ys s i wr) (fun _ i _=>2-(intOf i).toNat)
   case atStart=>exact ⟨A,c,0,0,[],rfl,rfl,HO2,HB2,.inl ⟨rfl,rfl,rfl⟩⟩
   case round =>
    clear HO2 HB2
    obtain ⟨A,c,k,j,zs,rfl,rfl,HO,HB,hc⟩:=hrel
    have hz:=HB.out.size
    have hX:=H.out.below HB.out hg
    have x0:wr.cell? ⟨g,0,none⟩=some (.slice A1 n1 c1):=hX.cell 0
    have x1:wr.cell? ⟨g,1,none⟩=some (.slice A2 n2 c2):=hX.cell 1
    have HR1:=Lib.hid (H1.out.below HB.out)
    have HR2:=Lib.hid (H2.out.below HB.out)
    clear hX
    rcases hc with ⟨rfl,rfl,rfl⟩ | ⟨rfl,rfl,rfl⟩ | ⟨rfl,rfl,rfl⟩
    ·go_wp2_with (at_builtin;refine app_kind rfl _ _ rfl w.heap.size (.slice A 0 c) 0 [] rfl HO.out w.heap.size A1 n1 c1 (u8c xs) rfl HR1.out (u8c_one _) (by omega) (by omega) ?_;intro v1 w1 hown1 hgr1 _;refine Hid.out ?_)
     rw [Nat.zero_add,List.nil_append] at hown1
     obtain ⟨A',c',rfl⟩:=own_slice hown1
     have HO1:=Lib.hid hown1
     have HB1:Hid (Below w.heap.size w w1):=Lib.hid (HB.out.grown hgr1 hz fun i hi=>(own_block_le HO.out hi).1)
     clear hown1 hgr1 x0 x1
     refine Lib.hid ?_
     go_wp2
     go_roundw
     case rel=>exact ⟨A',c',n1,1,xs,rfl,rfl,HO1,HB1,.inr (.inl ⟨rfl,rfl,rfl⟩)⟩
     case measure=>simp [intOf]
    ·have hkm:k+n2=m:=HM.out.symm
     go_wp2_with (at_builtin;refine app_kind rfl _ _ rfl w.heap.size (.slice A k c) k (u8c zs) rfl HO.out w.heap.size A2 n2 c2 (u8c ys) rfl HR2.out (u8c_one _) (by omega) (by omega) ?_;intro v1 w1 hown1 hgr1 _;refine Hid.out ?_)
     rw [← u8c_append,hkm] at hown1
     obtain ⟨A',c',rfl⟩:=own_slice hown1
     have HO1:=Lib.hid hown1
     have HB1:Hid (Below w.heap.size w w1):=Lib.hid (HB.out.grown hgr1 hz fun i hi=>(own_block_le HO.out hi).1)
     clear hown1 hgr1 x0 x1 hkm
     refine Lib.hid ?_
     go_wp2
     go_roundw
     case rel=>exact ⟨A',c',m,2,zs ++ ys,rfl,rfl,HO1,HB1,.inr (.inr ⟨rfl,rfl,rfl⟩)⟩
     case measure=>simp [intOf]
    ·clear x0 x1
     go_wp2
     go_ret
     exact ⟨A,k,c,rfl,HL.out.symm,HO.out,HB.out⟩
end Go.Proofs.Ytgekmjkfnhogkaa.Q
