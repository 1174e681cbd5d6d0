/-
  Texts of one seat, one behind the other: FMem, FPm, FPush, FSet, FAll, FStep.
-/
import Derived.Deep.CutBlock
import Derived.Deep.DeepCutAuto
import Derived.Deep.RegionLaw
import Derived.StillTailTactics
import Derived.Deep.LoopGhost
import Derived.Deep.OwnRows
import Derived.Deep.RegionHeldLaw
import Derived.Test.YtgekmjkfnhogkaaMA2

set_option linter.unusedVariables false
set_option linter.unusedSimpArgs false
set_option maxRecDepth 100000
set_option maxHeartbeats 51200000
namespace Go.Proofs.Ytgekmjkfnhogkaa
open Go.ChangeShapes Go.WideShapes Go.ChangeAt Go.RowKit
def evW (l:List (Int × Int)):List Value:=l.flatMap fun e=>[.int .i64 e.1,.int .u64 e.2]
theorem evW_append (a b:List (Int × Int)):evW (a ++ b)=evW a ++ evW b:=by simp [evW]
theorem evW_one (k v:Int):evW [(k,v)]=[.int .i64 k,.int .u64 v]:=rfl
def wsA (m:Nat) (f:Nat→Int):Array Value:=((List.range m).map fun i=>Value.int .u64 (f i)).toArray
def updI (f:Nat→Int) (i:Nat) (v:Int):Nat→Int:=fun k=>if k=i then v else f k
theorem wsA_at (f:Nat→Int) {m i:Nat} (h:i<m):(wsA m f)[i]?=some (.int .u64 (f i)):=by
 unfold wsA
 rw [List.getElem?_toArray,List.getElem?_map,List.getElem?_range h]
 rfl
theorem wsA_set (f:Nat→Int) (m i:Nat) (v:Int):(wsA m f).setIfInBounds i (.int .u64 v)=wsA m (updI f i v):=by
 unfold wsA
 rw [List.setIfInBounds_toArray]
 congr 1
 apply List.ext_getElem?
 intro k
 rw [List.getElem?_set,List.getElem?_map,List.getElem?_map,List.length_map,List.length_range]
 by_cases hk:k<m
 ·rw [List.getElem?_range hk]
  by_cases e:i=k
  ·subst e;simp [hk,updI]
  ·have:¬ k=i:=fun h=>e h.symm
   simp [e,this,updI]
 ·rw [List.getElem?_eq_none (by simp;omega)]
  by_cases e:i=k
  ·subst e;simp [hk]
  ·simp [e]
structure One where
 at_:Int
 ends:Bool
 ret:Int
 pl:Nat→Int
 evs:List (Int × Int)
 steps:Int
structure Wh where
 rb:Nat
 fb:Nat
 pb:Nat
 fc:Nat
 m:Nat
 fo:Option Addr
 nF:Nat
 cF:Nat
 rg:Option Addr
 ta:Option Addr
 tn:Nat
 tc:Nat
 ca:Option Addr
 cn:Nat
 cc:Nat
def Wh.fr (h:Wh) (s:One):List Value:=[.int .i64 0,.int .i64 s.at_,.int .i64 0,.slice (some ⟨h.pb,0,none⟩) h.m h.m,.slice h.ca h.cn h.cc,.slice none 0 0,.bool s.ends,.int .u64 s.ret,.slice none 0 0]
def Wh.bx (h:Wh) (s:One) (ev:Value):Array Value:=#[.slice h.fo h.nF h.cF,.bool false,.slice h.rg 16 16,.slice (some ⟨h.fb,0,none⟩) 1 h.fc,.slice none 0 0,.slice h.ta h.tn h.tc,ev,.int .i64 0,.int .u64 0,.int .i64 s.steps,.int .i64 1,.int .i64 0,.int .i64 0]
structure RunI (W:World) (h:Wh) (s:One) (ev:Value) (w:World):Prop where
 box:Blk w h.rb 62 (h.bx s ev)
 row:w.ownsRow W.heap.size 117 9 (.slice (some ⟨h.fb,0,none⟩) 1 h.fc) 1 (h.fr s)
 pls:Blk w h.pb 49 (wsA h.m s.pl)
 evs:w.ownsRow W.heap.size 65 2 ev s.evs.length (evW s.evs)
 below:Below W.heap.size W w
 hr:W.heap.size≤h.rb
 hp:W.heap.size≤h.pb
section
variable {W w w':World} {h:Wh} {s:One} {ev:Value}
theorem RunI.on (r:RunI W h s ev w) (hb:Below w.heap.size w w'):RunI W h s ev w' :=
 ⟨r.box.below hb r.box.lt,own_kept r.row fun g hg=>hb.block g (own_block_le r.row hg).2,r.pls.below hb r.pls.lt,own_kept r.evs fun g hg=>hb.block g (own_block_le r.evs hg).2,r.below.trans (hb.mono r.below.size),r.hr,r.hp⟩
theorem RunI.dn (r:RunI W h s ev w) (n:Nat):RunI W h s ev (w.drewN n):=r.on (below_drewN (Below.refl _ _) n)
theorem RunI.cells (r:RunI W h s ev w) :
  w.cell? ⟨h.rb,0,none⟩=some (.slice h.fo h.nF h.cF)∧w.cell? ⟨h.rb,1,none⟩=some (.bool false)∧w.cell? ⟨h.rb,3,none⟩=some (.slice (some ⟨h.fb,0,none⟩) 1 h.fc)∧w.cell? ⟨h.rb,6,none⟩=some ev∧w.cell? ⟨h.rb,7,none⟩=some (.int .i64 0)∧w.cell? ⟨h.rb,8,none⟩=some (.int .u64 0)∧w.cell? ⟨h.rb,9,none⟩=some (.int .i64 s.steps) ∧
  w.cell? ⟨h.fb,0,none⟩=some (.int .i64 0)∧w.cell? ⟨h.fb,1,none⟩=some (.int .i64 s.at_)∧w.cell? ⟨h.fb,2,none⟩=some (.int .i64 0)∧w.cell? ⟨h.fb,3,none⟩=some (.slice (some ⟨h.pb,0,none⟩) h.m h.m)∧w.cell? ⟨h.fb,4,none⟩=some (.slice h.ca h.cn h.cc)∧w.cell? ⟨h.fb,5,none⟩=some (.slice none 0 0)∧w.cell? ⟨h.fb,6,none⟩=some (.bool s.ends)∧w.cell? ⟨h.fb,7,none⟩=some (.int .u64 s.ret)∧w.cell? ⟨h.fb,8,none⟩=some (.slice none 0 0) :=
 ⟨r.box.cell 0,r.box.cell 1,r.box.cell 3,r.box.cell 6,r.box.cell 7,r.box.cell 8,r.box.cell 9,r.row.cellAt 0 (by decide),r.row.cellAt 1 (by decide),r.row.cellAt 2 (by decide),r.row.cellAt 3 (by decide),r.row.cellAt 4 (by decide),r.row.cellAt 5 (by decide),r.row.cellAt 6 (by decide),r.row.cellAt 7 (by decide),r.row.cellAt 8 (by decide)⟩
theorem RunI.place (r:RunI W h s ev w) {p:Nat} (hp:p<h.m):w.cell? ⟨h.pb,p,none⟩=some (.int .u64 (s.pl p)):=by rw [r.pls.cell,wsA_at _ hp]
theorem RunI.ne (r:RunI W h s ev w):h.rb≠h.fb∧h.rb≠h.pb∧h.fb≠h.pb∧W.heap.size≤h.fb:=by
 refine ⟨fun e=>?_,Blk.ne_ r.box r.pls (by decide),fun e=>?_,(own_block_le r.row rfl).1⟩
 ·exact own_blk_ne r.row r.box (by decide) (by rw [e];rfl)
 ·exact own_blk_ne r.row r.pls (by decide) (by rw [← e];rfl)
theorem RunI.setP (r:RunI W h s ev w) (p:Nat) (v:Int):RunI W h { s with pl:=updI s.pl p v } ev (w.setCell ⟨h.pb,p,none⟩ (.int .u64 v)):=by
 obtain ⟨n1,n2,n3,n4⟩:=r.ne
 have hp:=r.hp
 have h1:=r.pls.set_ p (.int .u64 v)
 rw [wsA_set] at h1
 exact ⟨r.box.far (p:=⟨h.pb,p,none⟩) n2 _,own_far r.row r.pls (by decide) _ _,h1,own_far r.evs r.pls (by decide) _ _,r.below.setCell (p:=⟨h.pb,p,none⟩) (by show W.heap.size≤h.pb;exact hp) _,r.hr,r.hp⟩
theorem RunI.setF (r:RunI W h s ev w) {s':One} (k:Nat) (u:Value) (hs:h.fr s'=(h.fr s).set k u) (he:s'.evs=s.evs) (hp:s'.pl=s.pl) (ht:s'.steps=s.steps):RunI W h s' ev (w.setCell ⟨h.fb,k,none⟩ u):=by
 obtain ⟨n1,n2,n3,n4⟩:=r.ne
 have h1:=(r.row.stored k u).1
 rw [← hs] at h1
 have hb:h.bx s' ev=h.bx s ev:=by unfold Wh.bx;rw [ht]
 refine ⟨by rw [hb];exact r.box.far (p:=⟨h.fb,k,none⟩) n1 _,h1,by rw [hp];exact r.pls.far (p:=⟨h.fb,k,none⟩) n3.symm _,?_,r.below.setCell (p:=⟨h.fb,k,none⟩) (by show W.heap.size≤h.fb;exact n4) _,r.hr,r.hp⟩
 rw [he]
 refine own_kept r.evs fun g hg=>Below.heap_setCell w ⟨h.fb,k,none⟩ u g fun e=>?_
 obtain ⟨cap,cur,hh⟩:∃ cap cur,w.heap[h.fb]?=some (.cells cur 117 (0,cap)):=by
  rcases r.row.2 with ⟨h',_⟩ | ⟨g',cap',cur,h',_,hg',_⟩
  ·simp at h'
  ·simp at h'
   exact ⟨0,cur,by rw [h'.1];exact hg'⟩
 have hbk:Blk w h.fb 117 cur:=by
  rcases r.row.2 with ⟨h',_⟩ | ⟨g',cap',cur',h',_,hg',_⟩
  ·simp at h'
  ·simp at h'
   have h2:=hg'
   rw [← h'.1,hh] at h2
   injection h2 with h2
   injection h2 with h3 h4 h5
   unfold Blk
   rw [hh,h5]
 exact own_blk_ne r.evs hbk (by decide) (by rw [hg,e])
theorem RunI.setR (r:RunI W h s ev w) {s':One} (k:Nat) (u:Value) (hs:h.bx s' ev=(h.bx s ev).setIfInBounds k u) (hf:h.fr s'=h.fr s) (he:s'.evs=s.evs) (hp:s'.pl=s.pl):RunI W h s' ev (w.setCell ⟨h.rb,k,none⟩ u):=by
 have hr:=r.hr
 have h1:=r.box.set_ k u
 rw [← hs] at h1
 obtain ⟨n1,n2,n3,n4⟩:=r.ne
 exact ⟨h1,by rw [hf];exact own_far r.row r.box (by decide) _ _,by rw [hp];exact r.pls.far (p:=⟨h.rb,k,none⟩) n2.symm _,by rw [he];exact own_far r.evs r.box (by decide) _ _,r.below.setCell (p:=⟨h.rb,k,none⟩) (by show W.heap.size≤h.rb;exact hr) _,r.hr,r.hp⟩
theorem RunI.event (r:RunI W h s ev w) {o:Obj} {k v:Int} {ev':Value} (hown:w'.ownsRow W.heap.size 65 2 ev' (s.evs.length+1) (evW s.evs ++ [.int .i64 k,.int .u64 v])) (hg:(w.alloc o).grownBy w' ev.ownBlock) :
  w'.frozen? ⟨h.rb,6,none⟩=false∧(∃ y,w'.cell? ⟨h.rb,6,none⟩=some y)∧Hid (RunI W h { s with evs:=s.evs ++ [(k,v)] } ev' (w'.setCell ⟨h.rb,6,none⟩ ev')):=by
 have ho:=own_alloc r.evs o
 have hbx:=blk_grown (r.box.alloc o) ho hg (by decide)
 have hpl:=blk_grown (r.pls.alloc o) ho hg (by decide)
 have hrw:=own_grown ho (own_alloc r.row o) hg (by decide)
 have hz:=r.below.size
 have hr:=r.hr
 obtain ⟨n1,n2,n3,n4⟩:=r.ne
 have hbl:Below W.heap.size W w':=(r.below.alloc hz o).grown hg (by simp;omega) fun g he=>by have:=(own_block_le ho he).1;omega
 refine ⟨hbx.frozen 6,⟨_,hbx.cell 6⟩,Lib.hid ⟨hbx.set_ 6 ev',own_far hrw hbx (by decide) _ _,hpl.far (p:=⟨h.rb,6,none⟩) n2.symm _,?_,hbl.setCell (p:=⟨h.rb,6,none⟩) (by show W.heap.size≤h.rb;exact hr) _,r.hr,r.hp⟩⟩
 have h1:=own_far hown hbx (by decide) 6 ev'
 show World.ownsRow _ _ _ _ _ (s.evs ++ [(k,v)]).length (evW (s.evs ++ [(k,v)]))
 rw [evW_append,evW_one,List.length_append]
 exact h1
end
theorem rget_any {W w:World} {h:Wh} {s:One} {ev:Value} (r:RunI W h s ev w) (p:Nat) (hp:p<h.m) (hm:h.m≤1024) :
  Calls Try.prog 46 #[.pointer (some ⟨h.rb,0,none⟩),.int .i64 p] w fun e w'=>e=.returned (.int .u64 (s.pl p))∧∃ q,w'=w.drewN q:=by
 obtain ⟨a0,a1,a3,a6,a7,a8,a9,f0,f1,f2,f3,f4,f5,f6,f7,f8⟩:=r.cells
 have pp:=r.place hp
 go_enter Try.func46,Try.ntmps46
 go_wp2
 go_quiet (fail)
 go_wp2
 go_ret
 exact ⟨rfl,_,rfl⟩
theorem rset_any {W w:World} {h:Wh} {s:One} {ev:Value} (r:RunI W h s ev w) (p:Nat) (v:Int) (hp:p<h.m) (hm:h.m≤1024) :
  Calls Try.prog 45 #[.pointer (some ⟨h.rb,0,none⟩),.int .i64 p,.int .u64 v] w fun e w'=>e=.returned (.tuple #[])∧RunI W h { s with pl:=updI s.pl p v } ev w':=by
 obtain ⟨a0,a1,a3,a6,a7,a8,a9,f0,f1,f2,f3,f4,f5,f6,f7,f8⟩:=r.cells
 have pp:=r.place hp
 have fz:w.frozen? ⟨h.pb,p,none⟩=false:=r.pls.frozen p
 have g0:decide ((p:Int)<0)=false:=decide_eq_false (by omega)
 have HR:=Lib.hid r
 clear r
 go_enter Try.func45,Try.ntmps45
 go_wp2
 go_region
 all_goals
  go_wp2
  first | go_end0 | go_ret
  first
   | exact ⟨rfl,(HR.out.setP p v).dn 1⟩
   | exact ⟨rfl,(HR.out.dn 1).setP p v⟩
theorem rnext_none {W w:World} {h:Wh} {s:One} {ev:Value} (r:RunI W h s ev w) (y:Int) :
  Calls Try.prog 69 #[.pointer (some ⟨h.rb,0,none⟩),.int .i64 y] w fun e w'=>e=.returned (.bool false)∧∃ q,w'=w.drewN q:=by
 obtain ⟨a0,a1,a3,a6,a7,a8,a9,f0,f1,f2,f3,f4,f5,f6,f7,f8⟩:=r.cells
 go_enter Try.func69,Try.ntmps69
 go_wp2
 go_quiet (fail)
 go_wp2
 go_ret
 exact ⟨rfl,_,rfl⟩
theorem info_fr:(Try.prog.info? 117).map (fun i=>(i.zero,i.size,i.bytes))=some (some (.agg #[.int .i64 0,.int .i64 0,.int .i64 0,.slice none 0 0,.slice none 0 0,.slice none 0 0,.bool false,.int .u64 0,.slice none 0 0]),9,136):=by kernel_rfl
theorem info_w64:(Try.prog.info? 49).map (fun i=>(i.zero,i.size,i.bytes))=some (some (.int .u64 0),1,8):=by kernel_rfl
theorem step_frame {w:World} {ops:Array Oper} {o:Oper} {a:Act} {K:Act→World→Prop} {Q:Exit→Act→World→Prop} {E:Prop} (hgd:o.guard=none) (s x:Operand)
  (ho:o.op=.call { callee:=.builtin .append,args:=#[s,x],argTypes:=#[55,55] }) (base:Nat)
  (v:Value) (n:Nat) (xs:List Value) (hs:a.eval s=v) (hown:w.ownsRow base 117 9 v n xs)
  (B:Nat) (A:Option Addr) (m c:Nat) (news:List Value) (hx:a.eval x=.slice A m c) (hr:Reads w B 9 A m news) (h1:∀ u ∈ news,u.oneCell'=true)
  (hbytes:(n+m)*136≤140737488355328) (hbase:base≤w.heap.size)
  (h:∀ v' w',w'.ownsRow base 117 9 v' (n+m) (xs ++ news)→w.grownBy w' v.ownBlock→(v'.ownBlock=v.ownBlock∨v'.ownBlock=some w.heap.size)→K (a.put o.dst v') w') :
  if Region.wanted o (yielded ops a.tmps)=true then Oper.wp Try.prog o a w K Q else E:=by
 obtain ⟨i0,hi,hz0,hz1,hz2⟩:=info_parts info_fr
 exact step_append_any w hgd s x _ ho base 117 i0 (.agg #[.int .i64 0,.int .i64 0,.int .i64 0,.slice none 0 0,.slice none 0 0,.slice none 0 0,.bool false,.int .u64 0,.slice none 0 0]) 9 136 Try.underlying55 hi hz0 hz1 hz2 rfl (by decide) v n xs hs hown B A m c news hx hr h1 (by unfold maxLen;omega) hbytes hbase h
theorem made_ws (m:Nat):madeCells #[.int .u64 0] m=wsA m fun _=>0:=by
 apply Array.ext_getElem?
 intro i
 by_cases h:i<m
 ·rw [wsA_at _ h]
  simp [madeCells,h,Nat.mod_one]
 ·rw [Array.getElem?_eq_none (by simp [madeCells];omega),Array.getElem?_eq_none (by simp [wsA];omega)]
def frK (entry:Int) (pb m:Nat) (ca:Option Addr) (cn cc:Nat):List Value:=[.int .i64 0,.int .i64 entry,.int .i64 0,.slice (some ⟨pb,0,none⟩) m m,.slice ca cn cc,.slice none 0 0,.bool false,.int .u64 0,.slice none 0 0]
theorem frK_one (entry:Int) (pb m:Nat) (ca:Option Addr) (cn cc:Nat):∀ u ∈ frK entry pb m ca cn cc,u.oneCell'=true:=by
 unfold frK
 simp [Value.oneCell']
def bx0 (fo:Option Addr) (nF cF:Nat) (rg ta:Option Addr) (tn tc:Nat):Array Value:=#[.slice fo nF cF,.bool false,.slice rg 16 16,.slice none 0 0,.slice none 0 0,.slice ta tn tc,.slice none 0 0,.int .i64 0,.int .u64 0,.int .i64 0,.int .i64 0,.int .i64 0,.int .i64 0]
structure PsI (W:World) (h:Wh) (s:One) (q:Nat) (gv:Array Value) (w:World):Prop where
 box:Blk w h.rb 62 ((h.bx s (.slice none 0 0)).setIfInBounds 10 (.int .i64 0))
 row:w.ownsRow W.heap.size 117 9 (.slice (some ⟨h.fb,0,none⟩) 1 h.fc) 1 (h.fr s)
 pls:Blk w h.pb 49 (wsA h.m s.pl)
 evs:s.evs=[]
 below:Below W.heap.size W w
 hr:W.heap.size≤h.rb
 hp:W.heap.size≤h.pb
 gr:Blk w q 45 gv
theorem PsI.dn {W w:World} {h:Wh} {s:One} {q:Nat} {gv:Array Value} (r:PsI W h s q gv w) (n:Nat):PsI W h s q gv (w.drewN n):=⟨r.box,r.row,r.pls,r.evs,r.below.trans (below_drewN (Below.refl _ _) n),r.hr,r.hp,r.gr⟩
theorem PsI.run {W w:World} {h:Wh} {s:One} {q:Nat} {gv:Array Value} (r:PsI W h s q gv w):RunI W h s (.slice none 0 0) (w.setCell ⟨h.rb,10,none⟩ (.int .i64 1)):=by
 have h1:=r.box.set_ 10 (.int .i64 1)
 have hr:=r.hr
 refine ⟨?_,own_far r.row r.box (by decide) _ _,r.pls.far (p:=⟨h.rb,10,none⟩) (Blk.ne_ r.box r.pls (by decide)).symm _,?_,r.below.setCell (p:=⟨h.rb,10,none⟩) (by show W.heap.size≤h.rb;exact hr) _,r.hr,r.hp⟩
 ·exact h1
 ·rw [r.evs]
  exact own_none _ _ _ _
theorem push_mem {W X w8:World} {fo rg ta ca:Option Addr} {rb nF cF tn tc pb m cn cc q:Nat} {gv:Array Value} {v8:Value} {entry:Int} (hbk:Blk X rb 62 (bx0 fo nF cF rg ta tn tc)) (hbl:Below W.heap.size W X) (hrb:W.heap.size≤rb) (hpl:Blk X pb 49 (madeCells #[.int .u64 0] m)) (hpb:W.heap.size≤pb) (hq:Blk X q 45 gv)
  (hown:w8.ownsRow W.heap.size 117 9 v8 (0+1) ([] ++ frK entry pb m ca cn cc)) (hg:X.grownBy w8 (Value.slice none 0 0).ownBlock) :
  ∃ fb fc,v8=.slice (some ⟨fb,0,none⟩) 1 fc∧w8.frozen? ⟨rb,3,none⟩=false∧(∃ y,w8.cell? ⟨rb,3,none⟩=some y)∧Blk w8 q 45 gv∧Hid (PsI W ⟨rb,fb,pb,fc,m,fo,nF,cF,rg,ta,tn,tc,ca,cn,cc⟩ ⟨entry,false,0,fun _=>0,[],0⟩ q gv (w8.setCell ⟨rb,3,none⟩ v8)):=by
 rw [Nat.zero_add,List.nil_append] at hown
 have hn:X.ownsRow W.heap.size 117 9 (.slice none 0 0) 0 []:=own_none _ _ _ _
 have b8:=blk_grown hbk hn hg (by decide)
 have p8:=blk_grown hpl hn hg (by decide)
 have q8:=blk_grown hq hn hg (by decide)
 have hz:=hbl.size
 have l8:Below W.heap.size W w8:=hbl.grown hg hz fun g he=>by cases he
 have ho:=hown
 rcases hown.2 with ⟨_,h'⟩ | ⟨g,cap,cur,hv,hgc,hr⟩
 ·simp [frK] at h'
 ·subst hv
  refine ⟨g,cap,rfl,b8.frozen 3,⟨_,b8.cell 3⟩,q8,Lib.hid ⟨b8.set_ 3 _,own_far ho b8 (by decide) _ _,?_,rfl,l8.setCell (p:=⟨rb,3,none⟩) (by show W.heap.size≤rb;exact hrb) _,hrb,hpb,q8.far (p:=⟨rb,3,none⟩) (Blk.ne_ b8 q8 (by decide)).symm _⟩⟩
  rw [made_ws] at p8
  exact p8.far (p:=⟨rb,3,none⟩) (Blk.ne_ b8 p8 (by decide)).symm _
abbrev ldF:Op:=Op.load 55 (Operand.tmp 22)
theorem push_zero {W w:World} {fo rg ta:Option Addr} {rb nF cF tn tc:Nat} (B cN:Nat) (rs:List RG) (r0:RG) (hbk:Blk w rb 62 (bx0 fo nF cF rg ta tn tc)) (hbl:Below W.heap.size W w) (hrb:W.heap.size≤rb) (hG:RdP W B fo nF rs) (hB:B≤W.heap.size) (hnF:0<nF) (h0:rs[0]?=some r0) (hp:r0.gr.params.length=0) (hcn:r0.gr.cells=cN) (hcm:cN≤1024) (hkm:r0.gr.kinds.length≤1024) :
  Calls Try.prog 23 #[.pointer (some ⟨rb,0,none⟩),.int .i64 0,.slice none 0 0,.int .i64 0] w fun e w'=>e=.returned (.tuple #[])∧∃ (fb pb fc:Nat) (ca:Option Addr) (cn cc:Nat),RunI W ⟨rb,fb,pb,fc,r0.gr.kinds.length,fo,nF,cF,rg,ta,tn,tc,ca,cn,cc⟩ ⟨r0.gr.entry,false,0,fun _=>0,[],0⟩ (.slice none 0 0) w':=by
 obtain ⟨m,hm⟩:∃ m,m=r0.gr.kinds.length:=⟨_,rfl⟩
 obtain ⟨bf,off,rg2,rfl,hbf,HX,HRG,HWG,x0,x1,x2,x3,x4,x5,x6,x7⟩:=((hG.below (hbl.mono hB)).gr (k:=0) hnF)
 obtain rfl:r0=rg2:=by
  have h:=HX.out
  rw [h0] at h
  injection h
 rw [hp] at x0
 rw [← hm] at x1 hkm ⊢
 rw [hcn] at x2
 simp only [Nat.zero_mul,Nat.add_zero] at x0 x1 x2 x3 x4 x5 x6 x7
 clear hp hm hcn h0 hG HX HRG HWG
 have b0:w.cell? ⟨rb,0,none⟩=some (.slice (some ⟨bf,off,none⟩) nF cF):=hbk.cell 0
 have hbr:=hbk.lt
 have hz:=hbl.size
 have hg1:=Blk.new w 45 #[.slice r0.po 0 r0.pc,.slice r0.ko m r0.kc,.int .i64 cN,.slice r0.io r0.gr.init.length r0.ic,.bool r0.gr.result,.int .i64 r0.gr.keep,.slice r0.no r0.gr.nodes.length r0.nc,.int .i64 r0.gr.entry]
 have hbk1:=hbk.alloc (.cells #[.slice r0.po 0 r0.pc,.slice r0.ko m r0.kc,.int .i64 cN,.slice r0.io r0.gr.init.length r0.ic,.bool r0.gr.result,.int .i64 r0.gr.keep,.slice r0.no r0.gr.nodes.length r0.nc,.int .i64 r0.gr.entry] 45)
 have hbl1:Below W.heap.size W (w.alloc (.cells #[.slice r0.po 0 r0.pc,.slice r0.ko m r0.kc,.int .i64 cN,.slice r0.io r0.gr.init.length r0.ic,.bool r0.gr.result,.int .i64 r0.gr.keep,.slice r0.no r0.gr.nodes.length r0.nc,.int .i64 r0.gr.entry] 45)):=hbl.alloc (by omega) _
 have hw1z:(w.alloc (.cells #[.slice r0.po 0 r0.pc,.slice r0.ko m r0.kc,.int .i64 cN,.slice r0.io r0.gr.init.length r0.ic,.bool r0.gr.result,.int .i64 r0.gr.keep,.slice r0.no r0.gr.nodes.length r0.nc,.int .i64 r0.gr.entry] 45)).heap.size=w.heap.size+1:=by simp
 obtain ⟨W1,hW1⟩:∃ x,x=w.alloc (.cells #[.slice r0.po 0 r0.pc,.slice r0.ko m r0.kc,.int .i64 cN,.slice r0.io r0.gr.init.length r0.ic,.bool r0.gr.result,.int .i64 r0.gr.keep,.slice r0.no r0.gr.nodes.length r0.nc,.int .i64 r0.gr.entry] 45):=⟨_,rfl⟩
 rw [← hW1] at hg1 hbk1 hbl1 hw1z
 obtain ⟨q,hq⟩:∃ q,q=w.heap.size:=⟨_,rfl⟩
 rw [← hq] at hg1 hw1z hz hbr
 have HW1Z:=Lib.hid hw1z
 have hqW:W.heap.size≤q:=hz
 have hqz:q<W1.heap.size:=by omega
 have hWz:W.heap.size≤W1.heap.size:=by omega
 have HBK1:=Lib.hid hbk1
 have HG1:=Lib.hid hg1
 have HBL1:=Lib.hid hbl1
 have HNQ:Hid (¬ q=rb):=Lib.hid (Blk.ne_ HG1.out HBK1.out (by decide))
 have HX2:Hid (∀ o1 o2 o3:Obj,Blk (((W1.alloc o1).alloc o2).alloc o3).drew rb 62 (bx0 (some ⟨bf,off,none⟩) nF cF rg ta tn tc)∧Below W.heap.size W (((W1.alloc o1).alloc o2).alloc o3).drew∧Blk (((W1.alloc o1).alloc o2).alloc o3).drew q 45 #[.slice r0.po 0 r0.pc,.slice r0.ko m r0.kc,.int .i64 cN,.slice r0.io r0.gr.init.length r0.ic,.bool r0.gr.result,.int .i64 r0.gr.keep,.slice r0.no r0.gr.nodes.length r0.nc,.int .i64 r0.gr.entry]):=Lib.hid fun o1 o2 o3=>⟨((HBK1.out.alloc o1).alloc o2).alloc o3,(((HBL1.out.alloc hWz o1).alloc (by simp;omega) o2).alloc (by simp;omega) o3).drew,((HG1.out.alloc o1).alloc o2).alloc o3⟩
 have HRA:Hid (∀ (o1 o2:Obj) (fr:{l:List Value // l.length=9}),Reads (((W1.alloc o1).alloc o2).alloc (.cells fr.1.toArray 117)).drew (W1.heap.size+1+1+1) 9 (some ⟨W1.heap.size+1+1,0,none⟩) 1 fr.1):=Lib.hid fun o1 o2 fr=>by
  have h:=one_reads ((W1.alloc o1).alloc o2) 117 fr.1 9 fr.2
  rw [show ((W1.alloc o1).alloc o2).heap.size=W1.heap.size+1+1 by simp] at h
  exact h
 have HPL:Hid (∀ (o o3:Obj),Blk (((W1.alloc (.cells (madeCells #[.int .u64 0] m) 49)).alloc o).alloc o3).drew W1.heap.size 49 (madeCells #[.int .u64 0] m)∧Blk (((W1.alloc o).alloc (.cells (madeCells #[.int .u64 0] m) 49)).alloc o3).drew (W1.heap.size+1) 49 (madeCells #[.int .u64 0] m)):=Lib.hid fun o o3=>⟨((Blk.new W1 _ _).alloc o).alloc o3,by
  have h:=(Blk.new (W1.alloc o) 49 (madeCells #[.int .u64 0] m)).alloc o3
  rw [show (W1.alloc o).heap.size=W1.heap.size+1 by simp] at h
  exact h⟩
 have hmk:∀ n:Nat,n≤1024→∀ W:World,(Instr.makeSlice 48 (.int .i64 n) (.int .i64 n)).run Try.prog W=.ok (.slice (some ⟨W.heap.size,0,none⟩) n n) (W.alloc (.cells (madeCells #[.int .u64 0] n) 49)):=fun n hn W=>run_make_row' _ _ _ 8 Try.underlying48 info_w64 rfl .i64 .i64 n (by omega) (by omega) W
 have hm1:=hmk m hkm
 have hm2:=hmk cN hcm
 clear hmk hbk hbl hg1 hbk1 hbl1 hw1z
 go_enter Try.func23,Try.ntmps23
 go_upto_region 1 with fail
 rw [← hW1,← hq]
 clear hW1 x0 x1 x2 x3 x4 x5 x6 x7 b0
 have HQ:=Lib.hid hq
 clear hq
 go_cut [8] (fun s8 wx=>s8=.pointer (some ⟨q,0,none⟩)∧∃ (fb pb fc:Nat) (ca:Option Addr) (cn cc:Nat),Hid (PsI W ⟨rb,fb,pb,fc,m,some ⟨bf,off,none⟩,nF,cF,rg,ta,tn,tc,ca,cn,cc⟩ ⟨r0.gr.entry,false,0,fun _=>0,[],0⟩ q #[.slice r0.po 0 r0.pc,.slice r0.ko m r0.kc,.int .i64 cN,.slice r0.io r0.gr.init.length r0.ic,.bool r0.gr.result,.int .i64 r0.gr.keep,.slice r0.no r0.gr.nodes.length r0.nc,.int .i64 r0.gr.entry] wx))
 case first =>
  have c3:W1.cell? ⟨rb,3,none⟩=some (.slice none 0 0):=HBK1.out.cell 3
  have c3a:∀ o,(W1.alloc o).cell? ⟨rb,3,none⟩=some (.slice none 0 0):=fun o=>(HBK1.out.alloc o).cell 3
  have c3b:∀ o u,((W1.alloc o).alloc u).cell? ⟨rb,3,none⟩=some (.slice none 0 0):=fun o u=>((HBK1.out.alloc o).alloc u).cell 3
  have c3c:∀ o u v,(((W1.alloc o).alloc u).alloc v).cell? ⟨rb,3,none⟩=some (.slice none 0 0):=fun o u v=>(((HBK1.out.alloc o).alloc u).alloc v).cell 3
  have d1:W1.cell? ⟨q,1,none⟩=some (.slice r0.ko m r0.kc):=HG1.out.cell 1
  have d2:W1.cell? ⟨q,2,none⟩=some (.int .i64 cN):=HG1.out.cell 2
  have d7:W1.cell? ⟨q,7,none⟩=some (.int .i64 r0.gr.entry):=HG1.out.cell 7
  have d1a:∀ o,(W1.alloc o).cell? ⟨q,1,none⟩=some (.slice r0.ko m r0.kc):=fun o=>(HG1.out.alloc o).cell 1
  have d2a:∀ o,(W1.alloc o).cell? ⟨q,2,none⟩=some (.int .i64 cN):=fun o=>(HG1.out.alloc o).cell 2
  have d7a:∀ o,(W1.alloc o).cell? ⟨q,7,none⟩=some (.int .i64 r0.gr.entry):=fun o=>(HG1.out.alloc o).cell 7
  have d7b:∀ o u,((W1.alloc o).alloc u).cell? ⟨q,7,none⟩=some (.int .i64 r0.gr.entry):=fun o u=>((HG1.out.alloc o).alloc u).cell 7
  have nqr:¬ q=rb:=HNQ.out
  have nrq:¬ rb=q:=fun e=>HNQ.out e.symm
  have hqd:¬ q=W1.heap.size:=by omega
  have hqe:¬ q=W1.heap.size+1:=by omega
  have hqf:¬ q=W1.heap.size+1+1:=by omega
  rw [show Op.load 55 (Operand.tmp 22)=ldF from rfl]
  go_region_held_law (fun X=>X.cell? ⟨q,1,none⟩=some (.slice r0.ko m r0.kc)∧X.cell? ⟨q,2,none⟩=some (.int .i64 cN)∧X.cell? ⟨q,7,none⟩=some (.int .i64 r0.gr.entry)) (first | (refine ⟨?_,?_,?_⟩ <;> assumption) | go_keep) (first
   | (refine step_frame rfl _ _ rfl W.heap.size (.slice none 0 0) 0 [] rfl (own_none _ _ _ _) (W1.heap.size+1+1+1) (some ⟨W1.heap.size+1+1,0,none⟩) 1 1 (frK r0.gr.entry (W1.heap.size) m (some ⟨W1.heap.size+1,0,none⟩) cN cN) rfl (HRA.out _ _ ⟨_,rfl⟩) (frK_one _ _ _ _ _ _) (by omega) (by simp;omega) ?_;intro v8 w8 hown hgr hor;obtain ⟨fb,fc,rfl,e8,⟨y8,hy8⟩,hq8,HP8⟩:=push_mem (HX2.out _ _ _).1 (HX2.out _ _ _).2.1 hrb ((HPL.out _ _).1) (by omega) (HX2.out _ _ _).2.2 hown hgr;have E1:w8.cell? ⟨q,1,none⟩=some (.slice r0.ko m r0.kc):=hq8.cell 1;have E2:w8.cell? ⟨q,2,none⟩=some (.int .i64 cN):=hq8.cell 2;have E7:w8.cell? ⟨q,7,none⟩=some (.int .i64 r0.gr.entry):=hq8.cell 7;clear hq8;clear hown hgr hor)
   | (refine step_frame rfl _ _ rfl W.heap.size (.slice none 0 0) 0 [] rfl (own_none _ _ _ _) (W1.heap.size+1+1+1) (some ⟨W1.heap.size+1+1,0,none⟩) 1 1 (frK r0.gr.entry (W1.heap.size+1) m (some ⟨W1.heap.size,0,none⟩) cN cN) rfl (HRA.out _ _ ⟨_,rfl⟩) (frK_one _ _ _ _ _ _) (by omega) (by simp;omega) ?_;intro v8 w8 hown hgr hor;obtain ⟨fb,fc,rfl,e8,⟨y8,hy8⟩,hq8,HP8⟩:=push_mem (HX2.out _ _ _).1 (HX2.out _ _ _).2.1 hrb ((HPL.out _ _).2) (by omega) (HX2.out _ _ _).2.2 hown hgr;have E1:w8.cell? ⟨q,1,none⟩=some (.slice r0.ko m r0.kc):=hq8.cell 1;have E2:w8.cell? ⟨q,2,none⟩=some (.int .i64 cN):=hq8.cell 2;have E7:w8.cell? ⟨q,7,none⟩=some (.int .i64 r0.gr.entry):=hq8.cell 7;clear hq8;clear hown hgr hor))
  all_goals
   clear c3 c3a c3b c3c d1 d2 d7 d1a d2a d7a d7b
   go_wp2_with fail
   go_meet
   exact ⟨rfl,_,_,_,_,_,_,HP8⟩
 case rest =>
  obtain ⟨rfl,fb,pb,fc,ca,cn,cc,HP⟩:=hcut
  clear HX2 HRA HPL hm1 hm2 HBK1 HG1 HBL1
  have b3:wc.cell? ⟨rb,3,none⟩=some (.slice (some ⟨fb,0,none⟩) 1 fc):=HP.out.box.cell 3
  have b10:wc.cell? ⟨rb,10,none⟩=some (.int .i64 0):=HP.out.box.cell 10
  go_wp2_with fail
  go_quiet (fail)
  have HP2:=Lib.hid (HP.out.dn nq)
  obtain ⟨w2,hw2⟩:∃ x,x=wc.drewN nq:=⟨_,rfl⟩
  rw [← hw2] at HP2 ⊢
  clear hw2 HP b3 b10
  have b3:w2.cell? ⟨rb,3,none⟩=some (.slice (some ⟨fb,0,none⟩) 1 fc):=HP2.out.box.cell 3
  have z10:w2.frozen? ⟨rb,10,none⟩=false:=HP2.out.box.frozen 10
  have b10:w2.cell? ⟨rb,10,none⟩=some (.int .i64 0):=HP2.out.box.cell 10
  have g0:w2.cell? ⟨q,0,none⟩=some (.slice r0.po 0 r0.pc):=HP2.out.gr.cell 0
  have HR3:=Lib.hid HP2.out.run
  have HG3:Hid (Blk (w2.setCell ⟨rb,10,none⟩ (.int .i64 1)) q 45 #[.slice r0.po 0 r0.pc,.slice r0.ko m r0.kc,.int .i64 cN,.slice r0.io r0.gr.init.length r0.ic,.bool r0.gr.result,.int .i64 r0.gr.keep,.slice r0.no r0.gr.nodes.length r0.nc,.int .i64 r0.gr.entry]):=Lib.hid (HP2.out.gr.far (p:=⟨rb,10,none⟩) HNQ.out _)
  obtain ⟨w3,hw3⟩:∃ x,x=w2.setCell ⟨rb,10,none⟩ (.int .i64 1):=⟨_,rfl⟩
  simp only at HR3
  rw [← hw3] at HR3 HG3
  go_upto_region 4 with fail
  rw [← hw3]
  clear hw3 b3 b10 z10 g0 HP2
  have g0:w3.cell? ⟨q,0,none⟩=some (.slice r0.po 0 r0.pc):=HG3.out.cell 0
  go_wp2_with fail
  go_loopw [61] (fun s wr=>s=.int .i64 0∧wr=w3) (fun _ _=>1)
  case atStart=>exact ⟨rfl,rfl⟩
  case round =>
   obtain ⟨rfl,rfl⟩:=hrel
   go_wp2
   first | go_end0 | go_ret | (refine bodyPost_ret (v:=.tuple #[]) (by simp [results,Try.func23]) rfl ?_)
   exact ⟨rfl,fb,pb,fc,ca,cn,cc,HR3.out⟩
structure FinI (W:World) (rb:Nat) (kind:Int) (evs:List (Int × Int)) (ev:Value) (w:World):Prop where
 kind:w.cell? ⟨rb,7,none⟩=some (.int .i64 kind)
 val:w.cell? ⟨rb,8,none⟩=some (.int .u64 0)
 evc:w.cell? ⟨rb,6,none⟩=some ev
 evs:w.ownsRow W.heap.size 65 2 ev evs.length (evW evs)
 below:Below W.heap.size W w
theorem settle_one {W w:World} {h:Wh} {s:One} {ev:Value} (r:RunI W h s ev w) (he:s.ends=true) :
  Calls Try.prog 51 #[.pointer (some ⟨h.rb,0,none⟩)] w fun e w'=>e=.returned (.tuple #[])∧FinI W h.rb 1 s.evs ev w':=by
 have HR:=Lib.hid r
 have HE:=Lib.hid he
 have HNE:=Lib.hid r.ne
 clear r he
 go_enter Try.func51,Try.ntmps51
 go_wp2
 go_loopw [26] (fun s wr=>wr=w) (fun _ _=>1)
 case atStart=>rfl
 case round =>
  rw [hrel]
  clear hrel
  obtain ⟨a0,a1,a3,a6,a7,a8,a9,f0,f1,f2,f3,f4,f5,f6,f7,f8⟩:=HR.out.cells
  rw [HE.out] at f6
  go_wp2
  go_quiet (fail)
  obtain ⟨w1,hw1⟩:∃ w1,w1=w.drewN nq:=⟨_,rfl⟩
  have HR1:Hid (RunI W h s ev w1):=Lib.hid (by rw [hw1];exact HR.out.dn nq)
  rw [← hw1]
  clear hw1 a0 a1 a3 a6 a7 a8 a9 f0 f1 f2 f3 f4 f5 f6 f7 f8
  have HNX:=Lib.hid (rnext_none HR1.out 1)
  go_upto_region 2 with (go_at_call 69;refine HNX.out.mono ?_;rintro e w2 ⟨rfl,q,hq⟩;have HR2:Hid (RunI W h s ev w2):=Lib.hid (by rw [hq];exact HR1.out.dn q);clear hq)
  clear HNX HR1
  go_cut [2] (fun s2 wx=>∃ b:Nat,s2=.pointer (some ⟨b,0,none⟩)∧Hid (RunI W h s ev wx))
  case first =>
   obtain ⟨a0,a1,a3,a6,a7,a8,a9,f0,f1,f2,f3,f4,f5,f6,f7,f8⟩:=HR2.out.cells
   have hrb:h.rb<w2.heap.size:=HR2.out.box.lt
   have hfb:h.fb<w2.heap.size:=(own_block_le HR2.out.row rfl).2
   go_region
   all_goals
    go_wp2_with fail
    go_meet
    exact ⟨_,rfl,Lib.hid (HR2.out.on (by
     have hb:Below w2.heap.size w2 w2:=Below.refl _ _
     first
      | exact (hb.alloc (Nat.le_refl _) _).drew
      | exact ((((((((((hb.alloc (Nat.le_refl _) _).setCell (p:=⟨w2.heap.size,0,none⟩) (Nat.le_refl _) _).setCell (p:=⟨w2.heap.size,1,none⟩) (Nat.le_refl _) _).setCell (p:=⟨w2.heap.size,2,none⟩) (Nat.le_refl _) _).setCell (p:=⟨w2.heap.size,3,none⟩) (Nat.le_refl _) _).setCell (p:=⟨w2.heap.size,4,none⟩) (Nat.le_refl _) _).setCell (p:=⟨w2.heap.size,5,none⟩) (Nat.le_refl _) _).setCell (p:=⟨w2.heap.size,6,none⟩) (Nat.le_refl _) _).setCell (p:=⟨w2.heap.size,7,none⟩) (Nat.le_refl _) _).setCell (p:=⟨w2.heap.size,8,none⟩) (Nat.le_refl _) _).drew))⟩
  case rest =>
   obtain ⟨b,rfl,HR3⟩:=hcut
   obtain ⟨a0,a1,a3,a6,a7,a8,a9,f0,f1,f2,f3,f4,f5,f6,f7,f8⟩:=HR3.out.cells
   have z3:wc.frozen? ⟨h.rb,3,none⟩=false:=HR3.out.box.frozen 3
   have z7:wc.frozen? ⟨h.rb,7,none⟩=false:=HR3.out.box.frozen 7
   have z8:wc.frozen? ⟨h.rb,8,none⟩=false:=HR3.out.box.frozen 8
   go_wp2
   go_region
   all_goals
    obtain ⟨w4,hw4⟩:∃ w4,w4=wc.setCell ⟨h.rb,3,none⟩ (.slice (some ⟨h.fb,0,none⟩) 0 h.fc):=⟨_,rfl⟩
    have hbk:Blk w4 h.rb 62 ((h.bx s ev).setIfInBounds 3 (.slice (some ⟨h.fb,0,none⟩) 0 h.fc)):=by rw [hw4];exact HR3.out.box.set_ 3 _
    have hev:w4.ownsRow W.heap.size 65 2 ev s.evs.length (evW s.evs):=by rw [hw4];exact own_far HR3.out.evs HR3.out.box (by decide) _ _
    have hbl:Below W.heap.size W w4:=by rw [hw4];exact HR3.out.below.setCell (p:=⟨h.rb,3,none⟩) HR3.out.hr _
    have HBK:=Lib.hid hbk
    have HEV:=Lib.hid hev
    have HBL:=Lib.hid hbl
    rw [← hw4]
    have b3:w4.cell? ⟨h.rb,3,none⟩=some (.slice (some ⟨h.fb,0,none⟩) 0 h.fc):=hbk.cell 3
    have b7:w4.cell? ⟨h.rb,7,none⟩=some (.int .i64 0):=hbk.cell 7
    have b8:w4.cell? ⟨h.rb,8,none⟩=some (.int .u64 0):=hbk.cell 8
    have y3:w4.frozen? ⟨h.rb,3,none⟩=false:=hbk.frozen 3
    have y7:w4.frozen? ⟨h.rb,7,none⟩=false:=hbk.frozen 7
    have y8:w4.frozen? ⟨h.rb,8,none⟩=false:=hbk.frozen 8
    have hfin:FinI W h.rb 1 s.evs ev ((w4.drew.setCell ⟨h.rb,7,none⟩ (.int .i64 1)).setCell ⟨h.rb,8,none⟩ (.int .u64 0)):=by
     have h1:=(hbk.drew.set_ 7 (.int .i64 1)).set_ 8 (.int .u64 0)
     have hr:=HR3.out.hr
     exact ⟨h1.cell 7,h1.cell 8,h1.cell 6,own_far (own_far (w:=w4.drew) hev hbk.drew (by decide) _ _) (hbk.drew.set_ 7 _) (by decide) _ _,(hbl.drew.setCell (p:=⟨h.rb,7,none⟩) hr _).setCell (p:=⟨h.rb,8,none⟩) hr _⟩
    have HFIN:=Lib.hid hfin
    clear hw4 hbk hev hbl hfin a0 a1 a3 a6 a7 a8 a9 f0 f1 f2 f3 f4 f5 f6 f7 f8 z3 z7 z8
    go_wp2
    first | go_end0 | go_ret | (refine bodyPost_ret (v:=.tuple #[]) (by simp [results,Try.func51]) rfl ?_)
    exact ⟨rfl,HFIN.out⟩
theorem all_line {W:World} {fo:Option Addr} {nF cF:Nat} (cN k fuel:Nat) (rs:List RG) (r0:RG) (stt:Nat→One) (hG:RdP W W.heap.size fo nF rs) (hnF:0<nF) (h0:rs[0]?=some r0) (hp:r0.gr.params.length=0) (hcn:r0.gr.cells=cN) (hcm:cN≤1024) (hkm:r0.gr.kinds.length≤1024)
  (hst0:stt 0=⟨r0.gr.entry,false,0,fun _=>0,[],0⟩) (hsteps:∀ i,(stt i).steps=i) (hfuel:k<fuel) (hf2:fuel≤1048576)
  (HS:∀ i,i<k→∀ (h:Wh) (ev:Value) (w:World),h.fo=fo→h.nF=nF→h.m=r0.gr.kinds.length→RunI W h (stt i) ev w→Calls Try.prog 24 #[.pointer (some ⟨h.rb,0,none⟩)] w fun e w'=>e=.returned (.tuple #[])∧∃ ev',RunI W h (stt (i+1)) ev' w')
  (HL:∀ (h:Wh) (ev:Value) (w:World),h.fo=fo→h.nF=nF→h.m=r0.gr.kinds.length→RunI W h (stt k) ev w→Calls Try.prog 24 #[.pointer (some ⟨h.rb,0,none⟩)] w fun e w'=>e=.returned (.tuple #[])∧FinI W h.rb 1 (stt k).evs ev w') :
  Calls Try.prog 12 #[.agg #[.slice fo nF cF],.bool false,.slice none 0 0,.int .i64 fuel] W fun e w'=>∃ (rb:Nat) (ev:Value),e=.returned (.pointer (some ⟨rb,0,none⟩))∧FinI W rb 1 (stt k).evs ev w':=by
 obtain ⟨m,hm⟩:∃ m,m=r0.gr.kinds.length:=⟨_,rfl⟩
 rw [← hm] at HS HL
 have HS:=Lib.hid HS
 have HL:=Lib.hid HL
 have HST0:=Lib.hid hst0
 have HSTP:=Lib.hid hsteps
 have HM:=Lib.hid hm
 have hg1:=Blk.new W 29 #[.slice fo nF cF]
 have hbl1:Below W.heap.size W (W.alloc (.cells #[.slice fo nF cF] 29)):=(Below.refl _ _).alloc (Nat.le_refl _) _
 have hw1z:(W.alloc (.cells #[.slice fo nF cF] 29)).heap.size=W.heap.size+1:=by simp
 obtain ⟨W1,hW1⟩:∃ x,x=W.alloc (.cells #[.slice fo nF cF] 29):=⟨_,rfl⟩
 rw [← hW1] at hg1 hbl1 hw1z
 obtain ⟨q,hq⟩:∃ q,q=W.heap.size:=⟨_,rfl⟩
 rw [← hq] at hg1 hw1z
 have hqz:q<W1.heap.size:=by omega
 have HG1:=Lib.hid hg1
 have HBL1:=Lib.hid hbl1
 have HWZ:Hid (W.heap.size<W1.heap.size):=Lib.hid (by omega)
 have HPU:Hid (∀ {w:World} {rg ta:Option Addr} {rb tn tc:Nat},Blk w rb 62 (bx0 fo nF cF rg ta tn tc)→Below W.heap.size W w→W.heap.size≤rb→Calls Try.prog 23 #[.pointer (some ⟨rb,0,none⟩),.int .i64 0,.slice none 0 0,.int .i64 0] w fun e w'=>e=.returned (.tuple #[])∧∃ (fb pb fc:Nat) (ca:Option Addr) (cn cc:Nat),RunI W ⟨rb,fb,pb,fc,m,fo,nF,cF,rg,ta,tn,tc,ca,cn,cc⟩ (stt 0) (.slice none 0 0) w'):=Lib.hid fun hb hl hr=>by
  rw [HM.out,HST0.out]
  exact push_zero _ cN rs r0 hb hl hr hG (Nat.le_refl _) hnF h0 hp hcn hcm hkm
 have hm16:∀ W:World,(Instr.makeSlice 48 (.int .i64 16) (.int .i64 16)).run Try.prog W=.ok (.slice (some ⟨W.heap.size,0,none⟩) 16 16) (W.alloc (.cells (madeCells #[.int .u64 0] 16) 49)):=fun W=>run_make_row' _ _ _ 8 Try.underlying48 info_w64 rfl .i64 .i64 16 (by omega) (by omega) W
 clear hG hst0 hsteps hm hg1 hbl1 hw1z h0 hp hcn hcm hkm
 go_enter Try.func12,Try.ntmps12
 go_upto_region 1 with fail
 rw [← hW1,← hq]
 clear hW1
 have HQ:=Lib.hid hq
 clear hq
 go_cut [8,9] (fun s8 s9 wx=>s8=.pointer none∧∃ (rb:Nat) (rg ta:Option Addr) (tn tc:Nat),s9=.pointer (some ⟨rb,0,none⟩)∧Hid (Blk wx rb 62 (bx0 fo nF cF rg ta tn tc)∧Below W.heap.size W wx∧W.heap.size≤rb))
 case first =>
  have d0:W1.cell? ⟨q,0,none⟩=some (.slice fo nF cF):=HG1.out.cell 0
  have HB3:Hid (∀ (o1 o2:Obj) (cs:Array Value),Blk (((W1.alloc o1).alloc o2).alloc (.cells cs 62)).drew (W1.heap.size+1+1) 62 cs∧Below W.heap.size W (((W1.alloc o1).alloc o2).alloc (.cells cs 62)).drew):=Lib.hid fun o1 o2 cs=>⟨by
   have h:=Blk.new ((W1.alloc o1).alloc o2) 62 cs
   rw [show ((W1.alloc o1).alloc o2).heap.size=W1.heap.size+1+1 by simp] at h
   exact h,by
   have hz:=HWZ.out
   exact (((HBL1.out.alloc (by omega) o1).alloc (by simp;omega) o2).alloc (by simp;omega) _).drew⟩
  have hqd:¬ q=W1.heap.size:=by omega
  have hqe:¬ q=W1.heap.size+1:=by omega
  have hqf:¬ q=W1.heap.size+1+1:=by omega
  go_region_held_law (fun X=>X.cell? ⟨q,0,none⟩=some (.slice fo nF cF)) (first | assumption | (go_keep;done) | exact ((((HG1.out.alloc _).alloc _).alloc _).drew.cell 0)) (fail)
  all_goals
   go_wp2_with fail
   go_meet
   have hz:=HWZ.out
   exact ⟨rfl,_,_,_,_,_,rfl,Lib.hid ⟨(HB3.out _ _ _).1,(HB3.out _ _ _).2,by omega⟩⟩
 case rest =>
  obtain ⟨rfl,rb,rg,ta,tn,tc,rfl,HB⟩:=hcut
  clear HG1 HBL1 HWZ hm16
  have HP:=Lib.hid (HPU.out HB.out.1 HB.out.2.1 HB.out.2.2)
  clear HPU HB
  go_wp2_with (first | (go_at_call 23;refine HP.out.mono ?_;rintro e w5 ⟨rfl,fb,pb,fc,ca,cn,cc,hR⟩;have HR:Hid (RunI W ⟨rb,fb,pb,fc,m,fo,nF,cF,rg,ta,tn,tc,ca,cn,cc⟩ (stt 0) (.slice none 0 0) w5):=Lib.hid hR;clear hR))
  obtain ⟨h,hh⟩:∃ h:Wh,h=⟨rb,fb,pb,fc,m,fo,nF,cF,rg,ta,tn,tc,ca,cn,cc⟩:=⟨_,rfl⟩
  have H1:Hid (h.fo=fo∧h.nF=nF∧h.m=m∧h.rb=rb):=Lib.hid (by rw [hh];exact ⟨rfl,rfl,rfl,rfl⟩)
  rw [← hh] at HR
  clear hh HP
  have HRB:Hid (h.rb=rb):=Lib.hid H1.out.2.2.2
  go_loopg [] (k+1) (fun n wr=>∃ j:Nat,Hid (j=n)∧Hid ((0<j∧j≤k+1∧∃ ev,RunI W h (stt (k+1-j)) ev wr)∨(j=0∧∃ ev,FinI W rb 1 (stt k).evs ev wr)))
  case atStart=>exact ⟨k+1,Lib.hid rfl,Lib.hid (.inl ⟨by omega,by omega,_,by rw [Nat.sub_self];exact HR.out⟩)⟩
  case round =>
   obtain ⟨j,HJ,HX⟩:=hrel
   clear HR
   rcases HX.out with ⟨hj0,hj1,ev,hR⟩ | ⟨hj0,ev,hF⟩
   ·obtain ⟨i,hi⟩:∃ i,i=k+1-j:=⟨_,rfl⟩
    rw [← hi] at hR
    have hik:i≤k:=by omega
    have HI:=Lib.hid hi
    have hif:(i:Int)<fuel:=by omega
    have gif:decide ((i:Int)≥fuel)=false:=decide_eq_false (by omega)
    obtain ⟨a0,a1,a3,a6,a7,a8,a9,f0,f1,f2,f3,f4,f5,f6,f7,f8⟩:=hR.cells
    rw [HRB.out] at a7 a9
    rw [HSTP.out] at a9
    have HR:=Lib.hid hR
    have HJ1:=Lib.hid hj1
    have HJ0:=Lib.hid hj0
    clear a0 a1 a3 a6 a8 f0 f1 f2 f3 f4 f5 f6 f7 f8 hR HX hi hj1 hj0
    by_cases hlt:i<k
    ·have HC:=Lib.hid (HS.out i hlt h ev wr H1.out.1 H1.out.2.1 H1.out.2.2.1 HR.out)
     rw [HRB.out] at HC
     go_wp2_with (first | (go_at_call 24;refine HC.out.mono ?_;rintro e w6 ⟨rfl,ev',hR6⟩;have HR6:=Lib.hid hR6;clear hR6))
     go_roundg (k-i)
     case measure=>have h1:=HJ.out;have h2:=HI.out;have h3:=HJ1.out;have h4:=HJ0.out;omega
     case rel=>exact ⟨k-i,Lib.hid rfl,Lib.hid (.inl ⟨by omega,by omega,ev',by rw [show k+1-(k-i)=i+1 by omega];exact HR6.out⟩)⟩
    ·obtain rfl:i=k:=by omega
     have HC:=Lib.hid (HL.out h ev wr H1.out.1 H1.out.2.1 H1.out.2.2.1 HR.out)
     rw [HRB.out] at HC
     go_wp2_with (first | (go_at_call 24;refine HC.out.mono ?_;rintro e w6 ⟨rfl,hF6⟩;have HF6:=Lib.hid hF6;clear hF6))
     go_roundg 0
     case measure=>have h1:=HJ.out;have h2:=HJ0.out;omega
     case rel=>exact ⟨0,Lib.hid rfl,Lib.hid (.inr ⟨rfl,ev,HF6.out⟩)⟩
   ·have a7:wr.cell? ⟨rb,7,none⟩=some (.int .i64 1):=hF.kind
    have HF:=Lib.hid hF
    clear hF HX
    go_wp2
    first | go_end0 | go_ret | (refine bodyPost_ret (v:=.pointer (some ⟨rb,0,none⟩)) (by simp [results,Try.func12]) rfl ?_)
    exact ⟨rb,ev,rfl,HF.out⟩
structure KpN (w w':World) (b:Nat):Prop where
 block:∀ i,i≠b→w'.heap[i]?=w.heap[i]?
theorem KpN.set (w:World) (b k:Nat) (u:Value):KpN w (w.setCell ⟨b,k,none⟩ u) b:=⟨fun i hi=>Below.heap_setCell w ⟨b,k,none⟩ u i hi⟩
theorem KpN.cell {w w':World} {b g o:Nat} (h:KpN w w' b) (hg:g≠b):w'.cell? ⟨g,o,none⟩=w.cell? ⟨g,o,none⟩:=World.cell?_of_block (h.block g hg)
theorem step_event {w:World} {ops:Array Oper} {o:Oper} {a:Act} {K:Act→World→Prop} {Q:Exit→Act→World→Prop} {E:Prop} (hgd:o.guard=none) (s x:Operand)
  (ho:o.op=.call { callee:=.builtin .append,args:=#[s,x],argTypes:=#[57,57] }) (base:Nat)
  (v:Value) (n:Nat) (xs:List Value) (hs:a.eval s=v) (hown:w.ownsRow base 65 2 v n xs)
  (B:Nat) (A:Option Addr) (m c:Nat) (news:List Value) (hx:a.eval x=.slice A m c) (hr:Reads w B 2 A m news) (h1:∀ u ∈ news,u.oneCell'=true)
  (hbytes:(n+m)*16≤140737488355328) (hbase:base≤w.heap.size)
  (h:∀ v' w',w'.ownsRow base 65 2 v' (n+m) (xs ++ news)→w.grownBy w' v.ownBlock→(v'.ownBlock=v.ownBlock∨v'.ownBlock=some w.heap.size)→K (a.put o.dst v') w') :
  if Region.wanted o (yielded ops a.tmps)=true then Oper.wp Try.prog o a w K Q else E:=by
 obtain ⟨i0,hi,hz0,hz1,hz2⟩:=info_parts (show (Try.prog.info? 65).map (fun i=>(i.zero,i.size,i.bytes))=some (some (.agg #[.int .i64 0,.int .u64 0]),2,16) by kernel_rfl)
 exact step_append_any w hgd s x _ ho base 65 i0 (.agg #[.int .i64 0,.int .u64 0]) 2 16 Try.underlying57 hi hz0 hz1 hz2 rfl (by decide) v n xs hs hown B A m c news hx hr h1 (by unfold maxLen;omega) hbytes hbase h
theorem step_const {W w:World} {h:Wh} {s:One} {ev:Value} (B k:Nat) (rs:List RG) (r0:RG) (nd:RN) (r:RunI W h s ev w) (hG:RdP W B h.fo h.nF rs) (hB:B≤W.heap.size) (hnF:0<h.nF) (h0:rs[0]?=some r0) (hat:s.at_=k) (hkn:k<r0.gr.nodes.length) (hkm:k≤4096) (hnd:r0.ns[k]?=some nd) (hop:nd.nd.op=1) (hm:h.m≤1024) (hs0:0≤s.steps) (hs1:s.steps≤1048577) (d:Nat) (hd:nd.nd.d=d) (hdm:d<h.m) :
  Calls Try.prog 24 #[.pointer (some ⟨h.rb,0,none⟩)] w fun e w'=>e=.returned (.tuple #[])∧RunI W h ⟨nd.nd.next,s.ends,s.ret,updI s.pl d nd.nd.imm,s.evs,s.steps+1⟩ ev w':=by
 obtain ⟨at0,ends0,ret0,pl0,evs0,steps0⟩:=s
 simp only at hat hs0 hs1 ⊢
 subst hat
 have HR:=Lib.hid r
 have hrz:=r.below.size
 obtain ⟨bf,off,rg,hfe,hbf,HX,HRG,HWG,x0,x1,x2,x3,x4,x5,x6,x7⟩:=((hG.below (r.below.mono hB)).gr (k:=0) hnF)
 obtain rfl:r0=rg:=by
  have h:=HX.out
  rw [h0] at h
  injection h
 have hkn':k<r0.gr.nodes.length:=hkn
 obtain ⟨bn,on,nd2,hno,hbn,HXI,HRN,HWI,u0,u1,u2,u3,u4,u5,u6,u7,u8,u9,u10,u11⟩:=HRG.out.nodes.nd hkn'
 obtain rfl:nd=nd2:=by
  have h:=HXI.out
  rw [hnd] at h
  injection h
 rw [hop] at u0
 rw [hno] at x6
 have HFE:=Lib.hid hfe
 have HD:=Lib.hid hd
 clear hd
 have hstw:steps0+1≤9223372036854775807:=by omega
 -- region 0
 obtain ⟨a0,a1,a3,a6,a7,a8,a9,f0,f1,f2,f3,f4,f5,f6,f7,f8⟩:=r.cells
 have z9:w.frozen? ⟨h.rb,9,none⟩=false:=r.box.frozen 9
 have HR1:Hid (RunI W h ⟨k,ends0,ret0,pl0,evs0,steps0+1⟩ ev (w.setCell ⟨h.rb,9,none⟩ (.int .i64 (steps0+1)))):=Lib.hid (r.setR 9 _ rfl rfl rfl rfl)
 have hkp:KpN w (w.setCell ⟨h.rb,9,none⟩ (.int .i64 (steps0+1))) h.rb:=KpN.set w h.rb 9 _
 obtain ⟨w1,hw1⟩:∃ w1,w1=w.setCell ⟨h.rb,9,none⟩ (.int .i64 (steps0+1)):=⟨_,rfl⟩
 rw [← hw1] at HR1 hkp
 have hbr:W.heap.size≤h.rb:=r.hr
 have cu:∀ b o,b<B→w1.cell? ⟨b,o,none⟩=w.cell? ⟨b,o,none⟩:=fun b o hb=>hkp.cell (by omega)
 have CX:Hid (∀ wx,RunI W h ⟨k,ends0,ret0,pl0,evs0,steps0+1⟩ ev wx→wx.cell? ⟨bf,off+6,none⟩=some (.slice (some ⟨bn,on,none⟩) r0.gr.nodes.length r0.nc)∧wx.cell? ⟨bn,on+k*12,none⟩=some (.int .u8 1)∧wx.cell? ⟨bn,on+k*12+1,none⟩=some (.int .u8 nd.nd.bop)∧wx.cell? ⟨bn,on+k*12+2,none⟩=some (.int .i64 nd.nd.d)∧wx.cell? ⟨bn,on+k*12+3,none⟩=some (.int .i64 nd.nd.e)∧wx.cell? ⟨bn,on+k*12+4,none⟩=some (.int .i64 nd.nd.a)∧wx.cell? ⟨bn,on+k*12+5,none⟩=some (.int .i64 nd.nd.b)∧wx.cell? ⟨bn,on+k*12+6,none⟩=some (.int .i64 nd.nd.f)∧wx.cell? ⟨bn,on+k*12+7,none⟩=some (.int .i64 nd.nd.cell)∧wx.cell? ⟨bn,on+k*12+8,none⟩=some (.int .u64 nd.nd.imm)∧wx.cell? ⟨bn,on+k*12+9,none⟩=some (.slice nd.ao nd.nd.args.length nd.ac)∧wx.cell? ⟨bn,on+k*12+10,none⟩=some (.int .i64 nd.nd.next)∧wx.cell? ⟨bn,on+k*12+11,none⟩=some (.int .i64 nd.nd.els)):=Lib.hid fun wx rx=>by
  have e:∀ b o,b<B→wx.cell? ⟨b,o,none⟩=w.cell? ⟨b,o,none⟩:=fun b o hb=>((rx.below.cell (p:=⟨b,o,none⟩) (by show b<_;omega)).trans (r.below.cell (p:=⟨b,o,none⟩) (by show b<_;omega)).symm)
  refine ⟨(e _ _ hbf).trans (by simpa using x6),(e _ _ hbn).trans u0,(e _ _ hbn).trans u1,(e _ _ hbn).trans u2,(e _ _ hbn).trans u3,(e _ _ hbn).trans u4,(e _ _ hbn).trans u5,(e _ _ hbn).trans u6,(e _ _ hbn).trans u7,(e _ _ hbn).trans u8,(e _ _ hbn).trans u9,(e _ _ hbn).trans u10,(e _ _ hbn).trans u11⟩
 clear x0 x1 x2 x3 x4 x5 x6 x7 u0 u1 u2 u3 u4 u5 u6 u7 u8 u9 u10 u11 cu hkp hG HX HRG HWG HXI HRN
 go_enter Try.func24,Try.ntmps24
 go_upto_region 1 with fail
 rw [← hw1]
 clear hw1 a0 a1 a3 a6 a7 a8 a9 f0 f1 f2 f3 f4 f5 f6 f7 f8 z9 r
 obtain ⟨a0,a1,a3,a6,a7,a8,a9,f0,f1,f2,f3,f4,f5,f6,f7,f8⟩:=HR1.out.cells
 go_quiet (fail)
 obtain ⟨w2,hw2⟩:∃ w2,w2=w1.drewN nq:=⟨_,rfl⟩
 have HR2:Hid (RunI W h ⟨k,ends0,ret0,pl0,evs0,steps0+1⟩ ev w2):=Lib.hid (by rw [hw2];exact HR1.out.dn nq)
 rw [← hw2]
 clear hw2 a0 a1 a3 a6 a7 a8 a9 f0 f1 f2 f3 f4 f5 f6 f7 f8
 go_upto_region 2 with fail
 go_cut [3] (fun s3 wx=>∃ q:Nat,s3=.pointer (some ⟨q,0,none⟩)∧Hid (Blk wx q 70 #[.int .u8 1,.int .u8 nd.nd.bop,.int .i64 nd.nd.d,.int .i64 nd.nd.e,.int .i64 nd.nd.a,.int .i64 nd.nd.b,.int .i64 nd.nd.f,.int .i64 nd.nd.cell,.int .u64 nd.nd.imm,.slice nd.ao nd.nd.args.length nd.ac,.int .i64 nd.nd.next,.int .i64 nd.nd.els])∧Hid (RunI W h ⟨k,ends0,ret0,pl0,evs0,steps0+1⟩ ev wx))
 case first =>
  obtain ⟨a0,a1,a3,a6,a7,a8,a9,f0,f1,f2,f3,f4,f5,f6,f7,f8⟩:=HR2.out.cells
  obtain ⟨t6,n0,n1,n2,n3,n4,n5,n6,n7,n8,n9,n10,n11⟩:=CX.out w2 HR2.out
  have hrb:h.rb<w2.heap.size:=HR2.out.box.lt
  have hfb:h.fb<w2.heap.size:=(own_block_le HR2.out.row rfl).2
  have hw2z:=HR2.out.below.size
  have hbf2:bf<w2.heap.size:=by omega
  have hbn2:bn<w2.heap.size:=by omega
  rw [hfe] at a0
  clear hfe
  go_region
  all_goals
   go_wp2_with fail
   go_meet
   have hb:Below w2.heap.size w2 w2:=Below.refl _ _
   exact ⟨_,rfl,Lib.hid (Blk.new w2 70 _).drew,Lib.hid (HR2.out.on ((hb.alloc (Nat.le_refl _) _).drew))⟩
 case rest =>
  obtain ⟨q,rfl,HNB,HR3⟩:=hcut
  clear HR2 HR1 CX
  have v0:wc.cell? ⟨q,0,none⟩=some (.int .u8 1):=HNB.out.cell 0
  have v2:wc.cell? ⟨q,2,none⟩=some (.int .i64 nd.nd.d):=HNB.out.cell 2
  have v4:wc.cell? ⟨q,4,none⟩=some (.int .i64 nd.nd.a):=HNB.out.cell 4
  have v8:wc.cell? ⟨q,8,none⟩=some (.int .u64 nd.nd.imm):=HNB.out.cell 8
  have v10:wc.cell? ⟨q,10,none⟩=some (.int .i64 nd.nd.next):=HNB.out.cell 10
  rw [HD.out] at v2
  have HST:=Lib.hid (rset_any HR3.out d nd.nd.imm hdm hm)
  go_wp2_with (go_at_call 45;refine HST.out.mono ?_;rintro e w5 ⟨rfl,hr5⟩;have HR5:=Lib.hid hr5;clear hr5;obtain ⟨a0,a1,a3,a6,a7,a8,a9,f0,f1,f2,f3,f4,f5,f6,f7,f8⟩:=HR5.out.cells;have z1:w5.frozen? ⟨h.fb,1,none⟩=false:=HR5.out.row.frozenAt 1)
  have HFN:=Lib.hid (HR5.out.setF (s':=⟨nd.nd.next,ends0,ret0,updI pl0 d nd.nd.imm,evs0,steps0+1⟩) 1 (.int .i64 nd.nd.next) rfl rfl rfl rfl)
  go_region
  all_goals
   go_wp2
   first | go_end0 | go_ret | (refine bodyPost_ret (v:=.tuple #[]) (by simp [results,Try.func24]) rfl ?_)
   first
    | exact ⟨rfl,HFN.out.dn 1⟩
    | exact ⟨rfl,HFN.out⟩
end Go.Proofs.Ytgekmjkfnhogkaa
