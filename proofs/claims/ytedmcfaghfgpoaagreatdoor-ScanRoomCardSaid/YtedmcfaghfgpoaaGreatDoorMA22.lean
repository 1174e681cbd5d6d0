/-
  Texts of one seat, one behind the other: LRi, LRo.
-/
import Derived.Deep.LoopGhost
import Derived.Test.YtedmcfaghfgpoaaGreatDoorMA14
import Derived.Test.YtedmcfaghfgpoaaGreatDoorMA21
import Derived.Test.YtedmcfaghfgpoaaGreatDoorMA12

set_option linter.unusedVariables false
set_option linter.unusedSimpArgs false
set_option maxRecDepth 100000
set_option maxHeartbeats 51200000
namespace Go.Proofs.YtedmcfaghfgpoaaGreatDoor
open Go.ChangeShapes Go.WideShapes Go.ChangeAt Go.RowKit
theorem info_sbool:(Tryz.prog.info? 107).map (fun i=>(i.zero,i.size,i.bytes))=some (some (.slice none 0 0),1,24):=by kernel_rfl
theorem info_bool1:(Tryz.prog.info? 4).map (fun i=>(i.zero,i.size,i.bytes))=some (some (.bool false),1,1):=by kernel_rfl
structure MkI (W:World) (R n m k:Nat) (cs:Array Value) (wr:World):Prop where
 gr:Blk wr W.heap.size 35 cs
 row:Blk wr R 107 (rowA n fun i=>if i<k then .slice (some ⟨R+1+i,0,none⟩) m m else .slice none 0 0)
 bits:∀ i,i<k→Blk wr (R+1+i) 4 (rowA m fun _=>.bool false)
 below:Below W.heap.size W wr
 at_:R=W.heap.size+1
 size:wr.heap.size=R+1+k
theorem MkI.start (W:World) (n m:Nat) (cs:Array Value):MkI W (W.heap.size+1) n m 0 cs ((W.alloc (.cells cs 35)).alloc (.cells (madeCells #[.slice none 0 0] n) 107)):=by
 have h:=Blk.new (W.alloc (.cells cs 35)) 107 (madeCells #[.slice none 0 0] n)
 rw [show (W.alloc (.cells cs 35)).heap.size=W.heap.size+1 by simp] at h
 refine ⟨(Blk.new W _ _).alloc _,?_,fun i hi=>absurd hi (by omega),((Below.refl _ _).alloc (Nat.le_refl _) _).alloc (by simp) _,rfl,by simp⟩
 rw [rowA_congr (g:=fun _=>.slice none 0 0) (fun i _=>if_neg (Nat.not_lt_zero i)),← rowA_made]
 exact h
theorem MkI.step {W wr:World} {R n m k:Nat} {cs:Array Value} (h:MkI W R n m k cs wr) (hk:k<n):MkI W R n m (k+1) cs ((wr.alloc (.cells (madeCells #[.bool false] m) 4)).setCell ⟨R,k,none⟩ (.slice (some ⟨wr.heap.size,0,none⟩) m m)):=by
 have hs:=h.size
 have ha:=h.at_
 have hw:=Blk.new wr 4 (madeCells #[.bool false] m)
 refine ⟨(h.gr.alloc _).far (p:=⟨R,k,none⟩) (by show W.heap.size≠R;omega) _,?_,fun i hi=>?_,(h.below.alloc h.below.size _).setCell (p:=⟨R,k,none⟩) (by show W.heap.size≤R;omega) _,ha,by simp [World.setCell];omega⟩
 ·have h1:=(h.row.alloc (.cells (madeCells #[.bool false] m) 4)).set_ k (.slice (some ⟨wr.heap.size,0,none⟩) m m)
  rw [rowA_set] at h1
  rw [rowA_congr (g:=upd (fun i=>if i<k then .slice (some ⟨R+1+i,0,none⟩) m m else .slice none 0 0) k (.slice (some ⟨wr.heap.size,0,none⟩) m m)) (fun i hi=>by
   unfold upd
   show _=if i=k then _ else if i<k then _ else _
   by_cases e:i=k
   ·subst e
    rw [if_pos (by omega),if_pos rfl,hs]
   ·rw [if_neg e]
    by_cases e2:i<k
    ·rw [if_pos (by omega),if_pos e2]
    ·rw [if_neg (by omega),if_neg e2])]
  exact h1
 ·by_cases e:i=k
  ·subst e
   rw [show R+1+i=wr.heap.size by omega,← rowA_made]
   exact hw.far (p:=⟨R,i,none⟩) (by show wr.heap.size≠R;omega) _
  ·exact ((h.bits i (by omega)).alloc _).far (p:=⟨R,k,none⟩) (by show R+1+i≠R;omega) _
theorem MkI.done {W wr:World} {R n m:Nat} {cs:Array Value} (h:MkI W R n m n cs wr):InI W R n m cs (fun _ _=>false) wr:=by
 refine ⟨h.gr,?_,h.bits,h.below,h.at_⟩
 rw [rowA_congr (g:=fun i=>if i<n then .slice (some ⟨R+1+i,0,none⟩) m m else .slice none 0 0) (fun i hi=>by rw [if_pos hi])]
 exact h.row
theorem app_rows {w:World} {ops:Array Oper} {rest:List Oper} {o:Oper} {a:Act} {Q:Exit→Act→World→Prop} (hgd:o.guard=none) (s x:Operand)
  (ho:o.op=.call { callee:=.builtin .append,args:=#[s,x],argTypes:=#[59,59] }) (base:Nat)
  (v:Value) (n:Nat) (xs:List Value) (hs:a.eval s=v) (hown:w.ownsRow base 26 1 v n xs)
  (B:Nat) (A:Option Addr) (m c:Nat) (news:List Value) (hx:a.eval x=.slice A m c) (hr:Reads w B 1 A m news) (h1:∀ u ∈ news,u.oneCell'=true)
  (hbytes:(n+m)*24≤140737488355328) (hbase:base≤w.heap.size)
  (h:∀ v' w',w'.ownsRow base 26 1 v' (n+m) (xs ++ news)→w.grownBy w' v.ownBlock→(v'.ownBlock=v.ownBlock∨v'.ownBlock=some w.heap.size)→wpList Tryz.prog ops Q rest (a.put o.dst v') w'):wpList Tryz.prog ops Q (o :: rest) a w:=by
 obtain ⟨i0,hi,hz0,hz1,hz2⟩:=info_parts info_sint
 exact wpList_append_any w hgd s x _ ho base 26 i0 (.slice none 0 0) 1 24 Tryz.underlying59 hi hz0 hz1 hz2 rfl (by decide) v n xs hs hown B A m c news hx hr h1 (by unfold maxLen;omega) hbytes hbase h
def trueL (b:Nat→Bool) (k:Nat):List Int:=((List.range k).filter b).map fun (p:Nat)=>(p:Int)
theorem trueL_succ (b:Nat→Bool) (k:Nat):trueL b (k+1)=trueL b k ++ (if b k=true then [(k:Int)] else []):=by
 unfold trueL
 rw [List.range_succ,List.filter_append,List.map_append]
 congr 1
 by_cases h:b k=true
 ·simp [h]
 ·simp [h]
theorem trueL_len (b:Nat→Bool) (k:Nat):(trueL b k).length≤k:=by
 unfold trueL
 rw [List.length_map]
 have:=List.length_filter_le b (List.range k)
 simpa using this
open Classical in
theorem trueL_live {ns:List Nd} {m i:Nat} {b:Nat→Bool} (h:∀ p:Nat,p<m→(b p=true↔Live ns (p:Int) i)):trueL b m=liveL ns m i:=by
 unfold trueL liveL
 congr 1
 refine List.filter_congr fun p hp=>?_
 exact Bool.eq_iff_iff.2 ((h p (List.mem_range.1 hp)).trans decide_eq_true_iff.symm)
structure OutR (W:World) (k:Nat) (v:Value) (vs:Nat→Value) (f:Nat→List Int) (wr:World):Prop where
 out:wr.ownsRow W.heap.size 26 1 v k ((List.range k).map vs)
 own:∀ i,i<k→wr.ownsRow W.heap.size 3 1 (vs i) (f i).length (i64c (f i))
theorem OutR.on {W wr w':World} {k:Nat} {v:Value} {vs:Nat→Value} {f:Nat→List Int} (h:OutR W k v vs f wr) (hb:Below wr.heap.size wr w'):OutR W k v vs f w' :=
 ⟨own_kept h.out fun g hg=>hb.block g (own_block_le h.out hg).2,fun i hi=>own_kept (h.own i hi) fun g hg=>hb.block g (own_block_le (h.own i hi) hg).2⟩
theorem OutR.push {W wr w':World} {k:Nat} {v v' l:Value} {vs:Nat→Value} {f:Nat→List Int} {o:Obj} (h:OutR W k v vs f wr) (hl:wr.ownsRow W.heap.size 3 1 l (f k).length (i64c (f k))) (hown:w'.ownsRow W.heap.size 26 1 v' (k+1) ((List.range k).map vs ++ [l])) (hg:(wr.alloc o).grownBy w' v.ownBlock):OutR W (k+1) v' (upd vs k l) f w':=by
 refine ⟨?_,fun i hi=>?_⟩
 ·rw [List.range_succ,List.map_append,List.map_singleton,upd_at]
  have e:(List.range k).map (upd vs k l)=(List.range k).map vs:=List.map_congr_left fun i hi=>upd_ne (by have:=List.mem_range.1 hi;omega)
  rw [e]
  exact hown
 ·by_cases e:i=k
  ·subst e
   rw [upd_at]
   exact own_grown (own_alloc h.out o) (own_alloc hl o) hg (by decide)
  ·rw [upd_ne e]
   exact own_grown (own_alloc h.out o) (own_alloc (h.own i (by omega)) o) hg (by decide)
def LlPost (f:Nat→List Int) (n:Nat) (w:World) (e:Ending) (w':World):Prop:=Below w.heap.size w w'∧∃ A c vs,e=.returned (.slice A n c)∧OutR w n (.slice A n c) vs f w'
def moreL (I:Nat→Nat→Bool) (n m:Nat) (b:Bool):Nat:=leftL I n m+if b=true then 1 else 0
theorem refIn_any (B:Nat) (po ko io no:Option Addr) (nP pc m kc nI ic n nc:Nat) (cells keep entry:Int) (res:Bool) (rn:List RN) (w:World) (hN:RdNs w B no n rn) (hB:B≤w.heap.size) (hn:n≤4096) (hm:m≤1024) (hv:NextIn (nds rn)) :
  Calls Tryz.prog 36 #[.agg #[.slice po nP pc,.slice ko m kc,.int .i64 cells,.slice io nI ic,.bool res,.int .i64 keep,.slice no n nc,.int .i64 entry]] w (LlPost (liveL (nds rn) m) n w):=by
 have hmk:∀ W:World,(Instr.makeSlice 111 (.int .i64 n) (.int .i64 n)).run Tryz.prog W=.ok (.slice (some ⟨W.heap.size,0,none⟩) n n) (W.alloc (.cells (madeCells #[.slice none 0 0] n) 107)):=fun W=>run_make_row' _ _ _ 24 Tryz.underlying111 info_sbool rfl .i64 .i64 n (by omega) (by omega) W
 have hmb:∀ W:World,(Instr.makeSlice 107 (.int .i64 m) (.int .i64 m)).run Tryz.prog W=.ok (.slice (some ⟨W.heap.size,0,none⟩) m m) (W.alloc (.cells (madeCells #[.bool false] m) 4)):=fun W=>run_make_row' _ _ _ 1 Tryz.underlying107 info_bool1 rfl .i64 .i64 m (by omega) (by omega) W
 have HRN:=lh hN
 have HV:=lh hv
 have HLN:Hid ((nds rn).length=n):=lh (by rw [length_nds];exact hN.len)
 obtain ⟨cs,hcs⟩:∃ cs:Array Value,cs=#[.slice po nP pc,.slice ko m kc,.int .i64 cells,.slice io nI ic,.bool res,.int .i64 keep,.slice no n nc,.int .i64 entry]:=⟨_,rfl⟩
 have HCS:=lh hcs
 have HI0:Hid (MkI w (w.heap.size+1) n m 0 cs ((w.alloc (.cells cs 35)).alloc (.cells (madeCells #[.slice none 0 0] n) 107))):=lh (MkI.start w n m cs)
 rw [hcs] at HI0
 have HGC:Hid (∀ W,Blk W w.heap.size 35 cs→W.cell? ⟨w.heap.size,1,none⟩=some (.slice ko m kc)∧W.cell? ⟨w.heap.size,6,none⟩=some (.slice no n nc)):=lh fun W h=>by
  rw [hcs] at h
  exact ⟨h.cell 1,h.cell 6⟩
 rw [← hcs] at HI0
 clear hN hv
 go_enter Tryz.func36,Tryz.ntmps36
 go_wp2
 rw [← hcs]
 clear hcs
 obtain ⟨R,hR⟩:∃ R,R=w.heap.size+1:=⟨_,rfl⟩
 rw [← hR] at HI0 ⊢
 clear hR
 go_loopw [24] (fun s wr=>∃ k:Nat,k≤n∧s=.int .i64 k∧Hid (MkI w R n m k cs wr)) (fun s _=>n-(intOf s).toNat)
 case atStart=>exact ⟨0,by omega,rfl,HI0⟩
 case round =>
  clear HI0
  obtain ⟨k,hk,rfl,HI⟩:=hrel
  by_cases hlt:k<n
  ·have g1:wr.cell? ⟨w.heap.size,1,none⟩=some (.slice ko m kc):=(HGC.out wr HI.out.gr).1
   have f1:∀ o,(wr.alloc o).frozen? ⟨R,k,none⟩=false:=fun o=>(HI.out.row.alloc o).frozen k
   have y1:∀ o,∃ y,(wr.alloc o).cell? ⟨R,k,none⟩=some y:=fun o=>⟨_,((HI.out.row.alloc o).cell k).trans (rowA_at _ hlt)⟩
   obtain ⟨y,hy⟩:=y1 (.cells (madeCells #[.bool false] m) 4)
   go_wp2
   go_roundw
   case rel=>exact ⟨k+1,by omega,by go_num,lh (HI.out.step hlt)⟩
   case measure=>simp [intOf];omega
  ·have hkn:k=n:=by omega
   rw [hkn] at HI
   have HIN:=lh HI.out.done
   obtain ⟨wo,hwo⟩:∃ wo,wo=wr:=⟨_,rfl⟩
   rw [← hwo] at HIN ⊢
   clear hwo HI hmk hmb
   go_wp2
   clear hkn hlt hk
   have HS0:Hid (SndL (nds rn) (fun _ _=>false) n m):=lh fun i p _ _ h=>by cases h
   have hwoz:=HIN.out.below.size
   go_loopg [5] (moreL (fun _ _=>false) n m true) (fun gk s wr=>∃ (I:Nat→Nat→Bool) (b:Bool),gk=moreL I n m b∧s=.bool b∧Hid (InI w R n m cs I wr)∧Hid (SndL (nds rn) I n m)∧Hid (b=false→∀ i,i<n→DnI (nds rn) I i m))
   case atStart=>exact ⟨_,true,rfl,rfl,HIN,HS0,lh fun h=>by cases h⟩
   case round =>
    clear HIN HS0 hwoz
    obtain ⟨I0,b0,hgk,rfl,HI,HS,HD⟩:=hrel
    cases b0 with
    | false =>
     have hlv:∀ i,i<n→∀ p:Nat,p<m→(I0 i p=true↔Live (nds rn) (p:Int) i):=fun i hi p hp=>⟨HS.out i p hi hp,fun h=>DnI.live HLN.out (HD.out rfl) hp h⟩
     have HF:Hid (∀ i,i<n→trueL (I0 i) m=liveL (nds rn) m i):=lh fun i hi=>trueL_live (hlv i hi)
     clear hlv hgk
     obtain ⟨we,hwe⟩:∃ we,we=wr:=⟨_,rfl⟩
     rw [← hwe] at HI ⊢
     clear hwe HS HD
     go_wp2
     go_loopw [13,105] (fun v s wr=>∃ (k:Nat) (vs:Nat→Value),k≤n∧s=.int .i64 k∧Hid (InI w R n m cs I0 wr)∧Hid (OutR w k v vs (fun i=>trueL (I0 i) m) wr)) (fun _ s _=>n-(intOf s).toNat)
     case atStart=>exact ⟨0,fun _=>.slice none 0 0,by omega,rfl,HI,lh ⟨own_none _ _ _ _,fun i hi=>absurd hi (by omega)⟩⟩
     case round =>
      clear HI
      obtain ⟨k,vs,hk,rfl,HI,HO⟩:=hrel
      obtain ⟨Ao,co,rfl⟩:=own_slice HO.out.out
      by_cases hlt:k<n
      ·have rk:wr.cell? ⟨R,k,none⟩=some (.slice (some ⟨R+1+k,0,none⟩) m m):=by rw [HI.out.row.cell,rowA_at _ hlt]
       obtain ⟨w6,hw6⟩:∃ w6,w6=wr:=⟨_,rfl⟩
       rw [← hw6] at HI HO rk ⊢
       clear hw6
       have hwz:=HI.out.below.size
       go_wp2
       go_loopw [15,113] (fun v s wr=>∃ p:Nat,p≤m∧s=.int .i64 p∧Hid (wr.ownsRow w6.heap.size 3 1 v (trueL (I0 k) p).length (i64c (trueL (I0 k) p)))∧Hid (Below w6.heap.size w6 wr)) (fun _ s _=>m-(intOf s).toNat)
       case atStart=>exact ⟨0,by omega,rfl,lh (own_none _ _ _ _),lh (Below.refl _ _)⟩
       case round =>
        obtain ⟨p,hp,rfl,HL,HB⟩:=hrel
        obtain ⟨Al,cl,rfl⟩:=own_slice HL.out
        by_cases hpm:p<m
        ·have rp:wr.cell? ⟨R+1+k,p,none⟩=some (.bool (I0 k p)):=by
          rw [((HI.out.bits k hlt).below HB.out (HI.out.bits k hlt).lt).cell,rowA_at _ hpm]
         have HSU:=lh (trueL_succ (I0 k) p)
         have htl:=trueL_len (I0 k) p
         have hbz:=HB.out.size
         rcases hik:I0 k p with _ | _
         ·rw [hik] at rp HSU
          clear hik
          go_wp2
          go_roundw
          case rel=>exact ⟨p+1,by omega,by go_num,by rw [HSU.out,if_neg (by decide),List.append_nil];exact HL,HB⟩
          case measure=>simp [intOf];omega
         ·rw [hik] at rp HSU
          clear hik
          go_wp2_with (at_builtin;refine app_int rfl (.tmp 119) (.tmp 121) rfl w6.heap.size _ _ _ rfl (own_alloc HL.out _) (wr.heap.size+1) (some ⟨wr.heap.size,0,none⟩) 1 1 [.int .i64 p] rfl (one_reads wr _ _ 1 rfl) (ints_oneCell .i64 [(p:Int)]) (by omega) (by simp;omega) ?_;intro v' w8 hown hgr hor;have HO8:=lh hown;have HB8:Hid (Below w6.heap.size w6 w8):=lh ((HB.out.alloc hbz _).grown hgr (by simp;omega) fun g hg=>(own_block_le HL.out hg).1);clear hown hgr hor)
          go_roundw
          case rel =>
           refine ⟨p+1,by omega,by go_num,?_,HB8⟩
           rw [HSU.out,if_pos rfl,i64c_append,List.length_append]
           exact HO8
          case measure=>simp [intOf];omega
        ·have hpe:p=m:=by omega
         rw [hpe] at HL ⊢
         have HI9:=lh (HI.out.on HB.out)
         have HO9:=lh (HO.out.on HB.out)
         have HL9:Hid (wr.ownsRow w.heap.size 3 1 (.slice Al (trueL (I0 k) m).length cl) (trueL (I0 k) m).length (i64c (trueL (I0 k) m))):=lh (own_more HL.out hwz)
         have hbz:=HB.out.size
         go_wp2_with (at_builtin;refine app_rows rfl (.tmp 124) (.tmp 126) rfl w.heap.size (.slice Ao k co) k ((List.range k).map vs) rfl (own_alloc HO9.out.out _) (wr.heap.size+1) (some ⟨wr.heap.size,0,none⟩) 1 1 [.slice Al (trueL (I0 k) m).length cl] rfl (one_reads wr _ _ 1 rfl) (fun u hu=>by rw [List.mem_singleton.1 hu];rfl) (by omega) (by simp;omega) ?_;intro v' w8 hown hgr hor;have HO8:=lh (HO9.out.push HL9.out hown hgr);have HI8:Hid (InI w R n m cs I0 w8):=lh (by
          have h9:=HI9.out.on ((Below.refl wr.heap.size wr).alloc (Nat.le_refl _) (.cells #[.slice Al (trueL (I0 k) m).length cl] 26))
          have ho:=own_alloc (o:=.cells #[.slice Al (trueL (I0 k) m).length cl] 26) HO9.out.out
          exact ⟨blk_grown h9.gr ho hgr (by decide),blk_grown h9.row ho hgr (by decide),fun i hi=>blk_grown (h9.bits i hi) ho hgr (by decide),h9.below.grown hgr h9.below.size fun g hg=>(own_block_le ho hg).1,h9.at_⟩);clear hown hgr hor)
         go_roundw
         case rel=>exact ⟨k+1,_,by omega,by go_num,HI8,HO8⟩
         case measure=>simp [intOf];omega
      ·have hkn:k=n:=by omega
       rw [hkn] at HO ⊢
       go_wp2
       go_ret
       refine ⟨HI.out.below,Ao,co,vs,rfl,HO.out.out,fun i hi=>?_⟩
       rw [← HF.out i hi]
       exact HO.out.own i hi
    | true =>
     have g6:wr.cell? ⟨w.heap.size,6,none⟩=some (.slice no n nc):=(HGC.out wr HI.out.gr).2
     have HGK:=lh hgk
     clear hgk HD
     go_wp2
     clear g6
     go_loopw [6,5] (fun s t wr=>∃ (i:Nat) (z:Int) (I:Nat→Nat→Bool) (b:Bool),i≤n∧z+1=i∧s=.int .i64 z∧t=.bool b∧Hid (InI w R n m cs I wr)∧Hid (SndL (nds rn) I n m)∧Hid (leftL I n m≤leftL I0 n m)∧Hid (b=true→leftL I n m<leftL I0 n m)∧Hid (b=false→∀ a,i≤a→a<n→DnI (nds rn) I a m)) (fun s _ _=>(intOf s+1).toNat)
     case atStart=>exact ⟨n,_,I0,false,by omega,by omega,rfl,rfl,HI,HS,lh (Nat.le_refl _),lh (fun h=>by cases h),lh (fun _ a h1 h2=>by omega)⟩
     case round =>
      clear HI HS
      obtain ⟨i0,z,I1,b1,hi0,hz,rfl,rfl,HI,HS,HL,HL2,HD⟩:=hrel
      by_cases hpos:0≤z
      ·obtain ⟨k,rfl⟩:∃ k:Nat,z=(k:Int):=⟨z.toNat,by omega⟩
       have hik:i0=k+1:=by omega
       have hkn:k<n:=by omega
       have g6:wr.cell? ⟨w.heap.size,6,none⟩=some (.slice no n nc):=(HGC.out wr HI.out.gr).2
       obtain ⟨bn,on,i,hno,hbn,HXI,HRI,HWI,u0,u1,u2,u3,u4,u5,u6,u7,u8,u9,u10,u11⟩:=(HRN.out.below (HI.out.below.mono hB)).nd hkn
       have HXN:Hid ((nds rn)[k]?=some i.nd):=lh (by unfold nds;rw [List.getElem?_map,HXI.out];rfl)
       have hwz:=HI.out.below.size
       have hbnr:bn<wr.heap.size:=by omega
       have hb6:Below wr.heap.size wr (wr.alloc (.cells #[.int .u8 i.nd.op,.int .u8 i.nd.bop,.int .i64 i.nd.d,.int .i64 i.nd.e,.int .i64 i.nd.a,.int .i64 i.nd.b,.int .i64 i.nd.f,.int .i64 i.nd.cell,.int .u64 i.nd.imm,.slice i.ao i.nd.args.length i.ac,.int .i64 i.nd.next,.int .i64 i.nd.els] 47)):=(Below.refl _ _).alloc (Nat.le_refl _) _
       have hp6:=Blk.new wr 47 #[.int .u8 i.nd.op,.int .u8 i.nd.bop,.int .i64 i.nd.d,.int .i64 i.nd.e,.int .i64 i.nd.a,.int .i64 i.nd.b,.int .i64 i.nd.f,.int .i64 i.nd.cell,.int .u64 i.nd.imm,.slice i.ao i.nd.args.length i.ac,.int .i64 i.nd.next,.int .i64 i.nd.els]
       have HI6:=lh (HI.out.on hb6)
       have HRI6:=lh (HRI.out.below (hb6.mono (by omega)))
       have HWR:=lh (rwrites_any B i.nd.op i.nd.bop i.nd.d i.nd.e i.nd.a i.nd.b i.nd.f i.nd.cell i.nd.imm i.nd.args i.nd.next i.nd.els i.ao i.nd.args.length i.ac (wr.alloc (.cells #[.int .u8 i.nd.op,.int .u8 i.nd.bop,.int .i64 i.nd.d,.int .i64 i.nd.e,.int .i64 i.nd.a,.int .i64 i.nd.b,.int .i64 i.nd.f,.int .i64 i.nd.cell,.int .u64 i.nd.imm,.slice i.ao i.nd.args.length i.ac,.int .i64 i.nd.next,.int .i64 i.nd.els] 47)) HWI.out.o0 HWI.out.o1 HWI.out.d HWI.out.e HWI.out.a HWI.out.b HWI.out.next HWI.out.els HRI6.out.args rfl HWI.out.args HWI.out.al HRI6.out.cap (by simp;omega))
       have hg1:∀ o,(wr.alloc o).cell? ⟨w.heap.size,1,none⟩=some (.slice ko m kc):=fun o=>(HGC.out _ (HI.out.gr.alloc o)).1
       have HP6:=lh hp6
       rw [hno] at g6 ⊢
       have HNO:=lh hno
       have HXV:Hid (∀ x ∈ nextsOf i.nd,0≤x∧x<(n:Int)):=lh (by
        rw [← HLN.out]
        exact nextIn_at HV.out HXN.out)
       clear hno hb6 hp6 hg1
       go_wp2_with (go_at_call 39;refine HWR.out.mono ?_;rintro e w8 ⟨A8,c8,rfl,hr8,hc8,hb8⟩;have HR8:=lh hr8;have HI8:=lh (HI6.out.on hb8);have HP8:=lh (HP6.out.below hb8 HP6.out.lt);have HRI8:=lh (HRI6.out.below (hb8.mono (by simp;omega)));have g1:w8.cell? ⟨w.heap.size,1,none⟩=some (.slice ko m kc):=(HGC.out _ HI8.out.gr).1;clear hr8 hb8)
       clear u0 u1 u2 u3 u4 u5 u6 u7 u8 u9 u10 u11 hbnr g1 g6 HI6 HP6 HRI6 HWR
       obtain ⟨p7,hp7⟩:∃ p,p=wr.heap.size:=⟨_,rfl⟩
       rw [← hp7] at HP8 ⊢
       obtain ⟨l8,hl8⟩:∃ l,l=(writesOf ⟨i.nd.op,i.nd.bop,i.nd.d,i.nd.e,i.nd.a,i.nd.b,i.nd.f,i.nd.cell,i.nd.imm,i.nd.args,i.nd.next,i.nd.els⟩).length:=⟨_,rfl⟩
       rw [← hl8] at HR8 hc8 ⊢
       have HL8:Hid ((writesOf i.nd).length=l8):=lh hl8.symm
       have hl82:l8≤2:=by rw [hl8];exact llens _
       have HR8':Hid (Reads w8 w8.heap.size 1 A8 l8 (i64c (writesOf i.nd))):=lh HR8.out
       obtain ⟨B8,hB8⟩:∃ b,b=w8.heap.size:=⟨_,rfl⟩
       rw [← hB8] at HR8'
       have hB8':B8≤w8.heap.size:=by omega
       have hBp:B≤w8.heap.size:=by have:=HI8.out.below.size;omega
       clear hp7 hl8 hB8 HR8 HI HRI
       have HDk:Hid (DnI (nds rn) I1 k 0):=lh fun p h=>absurd h (by omega)
       go_loopw [54,5] (fun s t wr=>∃ (p:Nat) (I:Nat→Nat→Bool) (b:Bool),p≤m∧s=.int .i64 p∧t=.bool b∧B8≤wr.heap.size∧B≤wr.heap.size∧Hid (InI w R n m cs I wr)∧Hid (SndL (nds rn) I n m)∧Hid (leftL I n m≤leftL I0 n m)∧Hid (b=true→leftL I n m<leftL I0 n m)∧Hid (b=false→(∀ a,k<a→a<n→DnI (nds rn) I a m)∧DnI (nds rn) I k p)∧Hid (Blk wr p7 47 #[.int .u8 i.nd.op,.int .u8 i.nd.bop,.int .i64 i.nd.d,.int .i64 i.nd.e,.int .i64 i.nd.a,.int .i64 i.nd.b,.int .i64 i.nd.f,.int .i64 i.nd.cell,.int .u64 i.nd.imm,.slice i.ao i.nd.args.length i.ac,.int .i64 i.nd.next,.int .i64 i.nd.els])∧Hid (Reads wr B8 1 A8 l8 (i64c (writesOf i.nd)))∧Hid (RdN wr B i)) (fun s _ _=>m-(intOf s).toNat)
       case atStart=>exact ⟨0,I1,b1,by omega,rfl,rfl,hB8',hBp,HI8,HS,HL,HL2,lh (fun h=>⟨fun a h1 h2=>HD.out h a (by omega) h2,HDk.out⟩),HP8,HR8',HRI8⟩
       case round =>
        clear HI8 HS HL HL2 HD HP8 HR8' HRI8 HDk hB8' hBp hwz
        obtain ⟨p,I,b,hp,rfl,rfl,hB8,hBw,HI,HS,HL,HL2,HD,HP,HW8,HRI⟩:=hrel
        by_cases hpm:p<m
        ·have v0:wr.cell? ⟨p7,0,none⟩=some (.int .u8 i.nd.op):=HP.out.cell 0
         have v1:wr.cell? ⟨p7,1,none⟩=some (.int .u8 i.nd.bop):=HP.out.cell 1
         have v2:wr.cell? ⟨p7,2,none⟩=some (.int .i64 i.nd.d):=HP.out.cell 2
         have v3:wr.cell? ⟨p7,3,none⟩=some (.int .i64 i.nd.e):=HP.out.cell 3
         have v4:wr.cell? ⟨p7,4,none⟩=some (.int .i64 i.nd.a):=HP.out.cell 4
         have v5:wr.cell? ⟨p7,5,none⟩=some (.int .i64 i.nd.b):=HP.out.cell 5
         have v6:wr.cell? ⟨p7,6,none⟩=some (.int .i64 i.nd.f):=HP.out.cell 6
         have v7:wr.cell? ⟨p7,7,none⟩=some (.int .i64 i.nd.cell):=HP.out.cell 7
         have v8:wr.cell? ⟨p7,8,none⟩=some (.int .u64 i.nd.imm):=HP.out.cell 8
         have v9:wr.cell? ⟨p7,9,none⟩=some (.slice i.ao i.nd.args.length i.ac):=HP.out.cell 9
         have v10:wr.cell? ⟨p7,10,none⟩=some (.int .i64 i.nd.next):=HP.out.cell 10
         have v11:wr.cell? ⟨p7,11,none⟩=some (.int .i64 i.nd.els):=HP.out.cell 11
         have HRE:=lh (rreads_any B i.nd.op i.nd.bop i.nd.d i.nd.e i.nd.a i.nd.b i.nd.f i.nd.cell i.nd.imm i.nd.args i.nd.next i.nd.els i.ao i.nd.args.length i.ac wr HWI.out.o0 HWI.out.o1 HWI.out.d HWI.out.e HWI.out.a HWI.out.b HWI.out.next HWI.out.els HRI.out.args rfl HWI.out.args HWI.out.al HRI.out.cap hBw)
         have hrl:(readsOf ⟨i.nd.op,i.nd.bop,i.nd.d,i.nd.e,i.nd.a,i.nd.b,i.nd.f,i.nd.cell,i.nd.imm,i.nd.args,i.nd.next,i.nd.els⟩).length≤140737488351232:=llenr _ HWI.out.al
         go_wp2_with (first
          | (go_at_call 59;refine HRE.out.mono ?_;rintro e w9 ⟨A9,c9,rfl,hr9,hc9,hb9⟩;have HR9:=lh hr9;have HI9:=lh (HI.out.on hb9);have HP9:=lh (HP.out.below hb9 HP.out.lt);have HW9:=lh (HW8.out.below (hb9.mono hB8));have HRI9:=lh (HRI.out.below (hb9.mono hBw));have hz9:=hb9.size;have HNX:=lh (rnext_any i.nd.op i.nd.bop i.nd.d i.nd.e i.nd.a i.nd.b i.nd.f i.nd.cell i.nd.imm i.nd.args i.nd.next i.nd.els i.ao i.nd.args.length i.ac w9 HWI.out.o0 HWI.out.o1);have y0:w9.cell? ⟨p7,0,none⟩=some (.int .u8 i.nd.op):=HP9.out.cell 0;have y1:w9.cell? ⟨p7,1,none⟩=some (.int .u8 i.nd.bop):=HP9.out.cell 1;have y2:w9.cell? ⟨p7,2,none⟩=some (.int .i64 i.nd.d):=HP9.out.cell 2;have y3:w9.cell? ⟨p7,3,none⟩=some (.int .i64 i.nd.e):=HP9.out.cell 3;have y4:w9.cell? ⟨p7,4,none⟩=some (.int .i64 i.nd.a):=HP9.out.cell 4;have y5:w9.cell? ⟨p7,5,none⟩=some (.int .i64 i.nd.b):=HP9.out.cell 5;have y6:w9.cell? ⟨p7,6,none⟩=some (.int .i64 i.nd.f):=HP9.out.cell 6;have y7:w9.cell? ⟨p7,7,none⟩=some (.int .i64 i.nd.cell):=HP9.out.cell 7;have y8:w9.cell? ⟨p7,8,none⟩=some (.int .u64 i.nd.imm):=HP9.out.cell 8;have y9:w9.cell? ⟨p7,9,none⟩=some (.slice i.ao i.nd.args.length i.ac):=HP9.out.cell 9;have y10:w9.cell? ⟨p7,10,none⟩=some (.int .i64 i.nd.next):=HP9.out.cell 10;have y11:w9.cell? ⟨p7,11,none⟩=some (.int .i64 i.nd.els):=HP9.out.cell 11;clear hr9 hb9)
          | (go_at_call 31;refine (in_any w9.heap.size A9 _ c9 (readsOf ⟨i.nd.op,i.nd.bop,i.nd.d,i.nd.e,i.nd.a,i.nd.b,i.nd.f,i.nd.cell,i.nd.imm,i.nd.args,i.nd.next,i.nd.els⟩) p w9 HR9.out rfl hrl).mono ?_;rintro e w10 ⟨rfl,hw10⟩;rw [hw10];clear hw10)
          | (go_at_call 33;refine HNX.out.mono ?_;rintro e w11 ⟨A11,c11,rfl,hr11,hc11,hb11⟩;have HR11:=lh hr11;have HI11:=lh (HI9.out.on hb11);have HP11:=lh (HP9.out.below hb11 HP9.out.lt);have HW11:=lh (HW9.out.below (hb11.mono (by omega)));have HRI11:=lh (HRI9.out.below (hb11.mono (by omega)));have hz11:=hb11.size;clear hr11 hb11))
         clear v0 v1 v2 v3 v4 v5 v6 v7 v8 v9 v10 v11 y0 y1 y2 y3 y4 y5 y6 y7 y8 y9 y10 y11 hrl
         obtain ⟨l,hl⟩:∃ l,l=(nextsOf ⟨i.nd.op,i.nd.bop,i.nd.d,i.nd.e,i.nd.a,i.nd.b,i.nd.f,i.nd.cell,i.nd.imm,i.nd.args,i.nd.next,i.nd.els⟩).length:=⟨_,rfl⟩
         rw [← hl] at HR11 hc11 ⊢
         have HLX:Hid ((nextsOf i.nd).length=l):=lh hl.symm
         have hl2:l≤2:=by rw [hl];exact nexts_len _
         have HR12:Hid (Reads w11 w11.heap.size 1 A11 l (i64c (nextsOf i.nd))):=lh HR11.out
         have hB11:B8≤w11.heap.size:=by omega
         have hBB11:B≤w11.heap.size:=by omega
         have HA0:Hid (decide ((p:Int) ∈ readsOf ⟨i.nd.op,i.nd.bop,i.nd.d,i.nd.e,i.nd.a,i.nd.b,i.nd.f,i.nd.cell,i.nd.imm,i.nd.args,i.nd.next,i.nd.els⟩)=anyK I i.nd p 0):=lh (anyK_zero I i.nd p).symm
         rw [HA0.out]
         clear hl HR9 HI9 HP9 HW9 HRI9 HNX HRE HR11 HI HP HW8 HRI hz9 hz11 hB8 hBw HA0
         go_loopw [64,10] (fun s t wr=>∃ j:Nat,j≤l∧s=.int .i64 j∧t=.bool (anyK I i.nd p j)∧wr=w11) (fun s _ _=>l-(intOf s).toNat)
         case atStart=>exact ⟨0,by omega,rfl,rfl,rfl⟩
         case round =>
          obtain ⟨j,hj,rfl,rfl,hwr⟩:=hrel
          rw [hwr]
          clear hwr
          by_cases hjl:j<l
          ·obtain ⟨bx,ox,x,hxe,hbx,HXX,x1⟩:=HR12.out.int hjl
           obtain ⟨hx0,hx1⟩:=HXV.out x (List.mem_of_getElem? HXX.out)
           obtain ⟨y,rfl⟩:∃ y:Nat,x=(y:Int):=⟨x.toNat,by omega⟩
           have hy:y<n:=by omega
           have HSU:=lh (anyK_succ (I:=I) (p:=p) HXX.out)
           have ra:w11.cell? ⟨R,y,none⟩=some (.slice (some ⟨R+1+y,0,none⟩) m m):=by rw [HI11.out.row.cell,rowA_at _ hy]
           have rb:w11.cell? ⟨R+1+y,p,none⟩=some (.bool (I y p)):=by rw [(HI11.out.bits y hy).cell,rowA_at _ hpm]
           have HIN:=lh (in_any B8 A8 l8 c8 (writesOf i.nd) p w11 HW11.out HL8.out (by omega))
           have HXE:=lh hxe
           rw [hxe]
           clear hxe hx0 hx1 HXX
           rw [Int.toNat_natCast] at HSU
           rcases hak:anyK I i.nd p j with _ | _
           ·rw [hak] at HSU
            rcases hiy:I y p with _ | _
            ·rw [hiy] at rb HSU
             clear hak hiy
             go_wp2
             go_roundw
             case rel=>exact ⟨j+1,by omega,by go_num,by rw [HSU.out];rfl,by first | rfl | trivial⟩
             case measure=>simp [intOf];omega
            ·rw [hiy] at rb HSU
             by_cases hmem:(p:Int) ∈ writesOf i.nd
             ·have H1:Hid (decide ((p:Int) ∈ writesOf i.nd)=true):=lh (decide_eq_true hmem)
              rw [H1.out] at HSU HIN
              clear hak hiy hmem
              go_wp2_with (go_at_call 31;refine HIN.out.mono ?_;rintro e w12 ⟨rfl,hw12⟩;rw [hw12];clear hw12)
              go_roundw
              case rel=>exact ⟨j+1,by omega,by go_num,by rw [HSU.out];rfl,by first | rfl | trivial⟩
              case measure=>simp [intOf];omega
             ·have H1:Hid (decide ((p:Int) ∈ writesOf i.nd)=false):=lh (decide_eq_false hmem)
              rw [H1.out] at HSU HIN
              clear hak hiy hmem
              go_wp2_with (go_at_call 31;refine HIN.out.mono ?_;rintro e w12 ⟨rfl,hw12⟩;rw [hw12];clear hw12)
              go_roundw
              case rel=>exact ⟨j+1,by omega,by go_num,by rw [HSU.out];rfl,by first | rfl | trivial⟩
              case measure=>simp [intOf];omega
           ·rw [hak] at HSU
            clear hak
            go_wp2
            go_roundw
            case rel=>exact ⟨j+1,by omega,by go_num,by rw [HSU.out];rfl,by first | rfl | trivial⟩
            case measure=>simp [intOf];omega
          ·have hru:anyK I i.nd p j=ruleL I i.nd p:=anyK_all (by rw [HLX.out];omega)
           have rk:w11.cell? ⟨R,k,none⟩=some (.slice (some ⟨R+1+k,0,none⟩) m m):=by rw [HI11.out.row.cell,rowA_at _ hkn]
           have rp:w11.cell? ⟨R+1+k,p,none⟩=some (.bool (I k p)):=by rw [(HI11.out.bits k hkn).cell,rowA_at _ hpm]
           have rf:w11.frozen? ⟨R+1+k,p,none⟩=false:=(HI11.out.bits k hkn).frozen p
           rw [hru]
           have HRU:∀ r,ruleL I i.nd p=r→Hid (∀ nd,(nds rn)[k]?=some nd→ruleL I nd p=r):=fun r h=>lh fun nd hn=>by
            rw [HXN.out] at hn
            injection hn with hn
            subst hn
            exact h
           rcases hr:ruleL I i.nd p with _ | _
           ·have HR0:=HRU _ hr
            clear hru hr HRU
            go_wp2
            go_roundw
            case rel=>exact ⟨p+1,I,b,by omega,by go_num,rfl,hB11,hBB11,HI11,HS,HL,HL2,lh (fun h=>⟨(HD.out h).1,fun a ha nd hn hrr=>by
             by_cases e:a=p
             ·subst e
              rw [HR0.out nd hn] at hrr
              cases hrr
             ·exact (HD.out h).2 a (by omega) nd hn hrr⟩),HP11,HW11,HRI11⟩
            case measure=>simp [intOf];omega
           ·rcases hik2:I k p with _ | _
            ·have HST:=lh (HS.out.step HXN.out HXV.out hpm hr)
             have HLU:=lh (leftL_upd hkn hpm hik2)
             rw [hik2] at rp
             have HI13:=lh (HI11.out.set hkn hpm)
             have HK13:=lh ((KpI.refl w11 w11.heap.size R n).set hkn p (.bool true))
             have HW13:=lh (HK13.out.reads HI11.out HW11.out hB11)
             have HP13:=lh (HP11.out.far (p:=⟨R+1+k,p,none⟩) (Blk.ne_ HP11.out (HI11.out.bits k hkn) (by decide)) (.bool true))
             have HRI13:=lh (HRI11.out.keep (w':=w11.setCell ⟨R+1+k,p,none⟩ (.bool true)) fun q hq=>World.cell?_setCell_other w11 _ q _ (fun e=>by subst e;have h1:=HI11.out.at_;have h2:R+1+k<B:=hq;omega))
             have HBS:Hid ((w11.setCell ⟨R+1+k,p,none⟩ (.bool true)).heap.size=w11.heap.size):=lh (by simp [World.setCell])
             clear hru hr HRU hik2 HK13
             go_wp2
             go_roundw
             case rel=>exact ⟨p+1,_,true,by omega,by go_num,rfl,by rw [HBS.out];exact hB11,by rw [HBS.out];exact hBB11,HI13,HST,lh (by have:=HLU.out;have:=HL.out;omega),lh (fun _=>by have:=HLU.out;have:=HL.out;omega),lh (fun h=>by cases h),HP13,HW13,HRI13⟩
             case measure=>simp [intOf];omega
            ·have HIK:=lh hik2
             rw [hik2] at rp
             clear hru hr HRU hik2
             go_wp2
             go_roundw
             case rel=>exact ⟨p+1,I,b,by omega,by go_num,rfl,hB11,hBB11,HI11,HS,HL,HL2,lh (fun h=>⟨(HD.out h).1,fun a ha nd hn hrr=>by
              by_cases e:a=p
              ·subst e
               exact HIK.out
              ·exact (HD.out h).2 a (by omega) nd hn hrr⟩),HP11,HW11,HRI11⟩
             case measure=>simp [intOf];omega
        ·have hpe:p=m:=by omega
         rw [hpe] at HD
         go_wp2
         go_roundw
         case rel=>exact ⟨k,(k:Int)-1,I,b,by omega,by omega,rfl,rfl,HI,HS,HL,HL2,lh (fun h a h1 h2=>by
          by_cases e:a=k
          ·subst e
           exact (HD.out h).2
          ·exact (HD.out h).1 a (by omega) h2)⟩
         case measure=>simp [intOf]
      ·have hi00:i0=0:=by omega
       rw [hi00] at HD
       go_wp2
       go_roundg (moreL I1 n m b1)
       case measure =>
        rw [HGK.out]
        unfold moreL
        have h1:=HL.out
        have h2:=HL2.out
        cases b1 with
        | false=>simp;omega
        | true=>have:=h2 rfl;simp;omega
       case rel=>exact ⟨I1,b1,rfl,rfl,HI,HS,lh (fun h a h2=>HD.out h a (by omega) h2)⟩
theorem liveL_mem {ns:List Nd} {m i p:Nat} (hp:p<m):(p:Int) ∈ liveL ns m i↔Live ns (p:Int) i:=by
 unfold liveL
 rw [List.mem_map]
 constructor
 ·rintro ⟨a,h1,h2⟩
  have e:a=p:=by omega
  subst e
  simpa using (List.mem_filter.1 h1).2
 ·intro h
  exact ⟨p,List.mem_filter.2 ⟨List.mem_range.2 hp,by simpa using h⟩,rfl⟩
theorem liveL_le (ns:List Nd) (m i:Nat):(liveL ns m i).length≤m:=by
 unfold liveL
 rw [List.length_map]
 refine Nat.le_trans (List.length_filter_le _ _) ?_
 simp
noncomputable def anyO (ns:List Nd) (m:Nat) (nd:Nd) (p j:Nat):Bool:=((nextsOf nd).take j).any fun x=>decide ((p:Int) ∈ liveL ns m x.toNat)
theorem anyO_succ {ns:List Nd} {m:Nat} {nd:Nd} {p j:Nat} {x:Int} (hx:(nextsOf nd)[j]?=some x):anyO ns m nd p (j+1)=(anyO ns m nd p j || decide ((p:Int) ∈ liveL ns m x.toNat)):=by
 unfold anyO
 rw [List.take_add_one,hx,List.any_append]
 simp
open Classical in
noncomputable def liveOB (ns:List Nd) (i p:Nat):Bool:=decide (LiveO ns (p:Int) i)
open Classical in
theorem liveOB_list (ns:List Nd) (m i:Nat):trueL (liveOB ns i) m=liveOL ns m i:=rfl
open Classical in
theorem anyO_all {ns:List Nd} {m:Nat} {nd:Nd} {i p j:Nat} (h:ns[i]?=some nd) (hv:∀ x ∈ nextsOf nd,0≤x) (hp:p<m) (hj:(nextsOf nd).length≤j):anyO ns m nd p j=liveOB ns i p:=by
 unfold anyO liveOB
 rw [List.take_of_length_le hj]
 apply Bool.eq_iff_iff.2
 rw [List.any_eq_true,decide_eq_true_iff]
 constructor
 ·rintro ⟨x,hx,h2⟩
  have h3:=(liveL_mem hp).1 (of_decide_eq_true h2)
  exact ⟨nd,h,x.toNat,by rw [Int.toNat_of_nonneg (hv x hx)];exact hx,h3⟩
 ·rintro ⟨n2,h1,x,hx,hl⟩
  rw [h] at h1
  injection h1 with h1
  subst h1
  exact ⟨(x:Int),hx,decide_eq_true ((liveL_mem hp).2 (by rw [Int.toNat_natCast];exact hl))⟩
theorem refOut_any (B:Nat) (po ko io no:Option Addr) (nP pc m kc nI ic n nc:Nat) (cells keep entry:Int) (res:Bool) (rn:List RN) (w:World) (hN:RdNs w B no n rn) (hB:B≤w.heap.size) (hn:n≤4096) (hm:m≤1024) (hv:NextIn (nds rn)) :
  Calls Tryz.prog 37 #[.agg #[.slice po nP pc,.slice ko m kc,.int .i64 cells,.slice io nI ic,.bool res,.int .i64 keep,.slice no n nc,.int .i64 entry]] w (LlPost (liveOL (nds rn) m) n w):=by
 have hb1:Below w.heap.size w (w.alloc (.cells #[.slice po nP pc,.slice ko m kc,.int .i64 cells,.slice io nI ic,.bool res,.int .i64 keep,.slice no n nc,.int .i64 entry] 35)):=(Below.refl _ _).alloc (Nat.le_refl _) _
 have HG1:=lh (Blk.new w 35 #[.slice po nP pc,.slice ko m kc,.int .i64 cells,.slice io nI ic,.bool res,.int .i64 keep,.slice no n nc,.int .i64 entry])
 have HIN:=lh (refIn_any B po ko io no nP pc m kc nI ic n nc cells keep entry res rn (w.alloc (.cells #[.slice po nP pc,.slice ko m kc,.int .i64 cells,.slice io nI ic,.bool res,.int .i64 keep,.slice no n nc,.int .i64 entry] 35)) (hN.below (hb1.mono hB)) (by simp;omega) hn hm hv)
 have HB1:=lh hb1
 have HRN:=lh hN
 have HV:=lh hv
 have HLN:Hid ((nds rn).length=n):=lh (by rw [length_nds];exact hN.len)
 clear hN hv hb1
 go_enter Tryz.func37,Tryz.ntmps37
 go_wp2_with (go_at_call 36;refine HIN.out.mono ?_;rintro e w1 ⟨hb,Ai,ci,vi,rfl,ho⟩;have HW1:=lh (HB1.out.trans (hb.mono HB1.out.size));have HOI:=lh ho;have HG2:=lh (HG1.out.below hb HG1.out.lt);have g6:w1.cell? ⟨w.heap.size,6,none⟩=some (.slice no n nc):=HG2.out.cell 6;clear hb ho)
 clear g6 HIN HG1 HB1
 have HGC:Hid (∀ W,Below w1.heap.size w1 W→W.cell? ⟨w.heap.size,1,none⟩=some (.slice ko m kc)):=lh fun W hb=>(HG2.out.below hb HG2.out.lt).cell 1
 obtain ⟨bs,hbs⟩:∃ b,b=(w.alloc (.cells #[.slice po nP pc,.slice ko m kc,.int .i64 cells,.slice io nI ic,.bool res,.int .i64 keep,.slice no n nc,.int .i64 entry] 35)):=⟨_,rfl⟩
 rw [← hbs] at HOI
 have hz1:w.heap.size≤w1.heap.size:=HW1.out.size
 clear hbs HG2
 go_loopw [4,17] (fun v s wr=>∃ (k:Nat) (vs:Nat→Value),k≤n∧s=.int .i64 k∧Hid (Below w1.heap.size w1 wr)∧Hid (OutR w1 k v vs (liveOL (nds rn) m) wr)) (fun _ s _=>n-(intOf s).toNat)
 case atStart=>exact ⟨0,fun _=>.slice none 0 0,by omega,rfl,lh (Below.refl _ _),lh ⟨own_none _ _ _ _,fun i hi=>absurd hi (by omega)⟩⟩
 case round =>
  obtain ⟨k,vs,hk,rfl,HB,HO⟩:=hrel
  obtain ⟨Ao,co,rfl⟩:=own_slice HO.out.out
  have hbz:=HB.out.size
  by_cases hlt:k<n
  ·have HBW:=lh (HW1.out.trans (HB.out.mono hz1))
   obtain ⟨bn,on,i,hno,hbn,HXI,HRI,HWI,u0,u1,u2,u3,u4,u5,u6,u7,u8,u9,u10,u11⟩:=(HRN.out.below (HBW.out.mono hB)).nd hlt
   have HXN:Hid ((nds rn)[k]?=some i.nd):=lh (by unfold nds;rw [List.getElem?_map,HXI.out];rfl)
   have hwz:=HBW.out.size
   have hbnr:bn<wr.heap.size:=by omega
   have hb6:Below wr.heap.size wr (wr.alloc (.cells #[.int .u8 i.nd.op,.int .u8 i.nd.bop,.int .i64 i.nd.d,.int .i64 i.nd.e,.int .i64 i.nd.a,.int .i64 i.nd.b,.int .i64 i.nd.f,.int .i64 i.nd.cell,.int .u64 i.nd.imm,.slice i.ao i.nd.args.length i.ac,.int .i64 i.nd.next,.int .i64 i.nd.els] 47)):=(Below.refl _ _).alloc (Nat.le_refl _) _
   have HP6:=lh (Blk.new wr 47 #[.int .u8 i.nd.op,.int .u8 i.nd.bop,.int .i64 i.nd.d,.int .i64 i.nd.e,.int .i64 i.nd.a,.int .i64 i.nd.b,.int .i64 i.nd.f,.int .i64 i.nd.cell,.int .u64 i.nd.imm,.slice i.ao i.nd.args.length i.ac,.int .i64 i.nd.next,.int .i64 i.nd.els])
   have g1:(wr.alloc (.cells #[.int .u8 i.nd.op,.int .u8 i.nd.bop,.int .i64 i.nd.d,.int .i64 i.nd.e,.int .i64 i.nd.a,.int .i64 i.nd.b,.int .i64 i.nd.f,.int .i64 i.nd.cell,.int .u64 i.nd.imm,.slice i.ao i.nd.args.length i.ac,.int .i64 i.nd.next,.int .i64 i.nd.els] 47)).cell? ⟨w.heap.size,1,none⟩=some (.slice ko m kc):=HGC.out _ (HB.out.trans (hb6.mono hbz))
   have HXV:Hid (∀ x ∈ nextsOf i.nd,0≤x∧x<(n:Int)):=lh (by
    rw [← HLN.out]
    exact nextIn_at HV.out HXN.out)
   have HB6:=lh (HB.out.trans (hb6.mono hbz))
   have HO6:=lh (HO.out.on hb6)
   rw [hno]
   have HNO:=lh hno
   clear hno hb6
   go_wp2
   clear u0 u1 u2 u3 u4 u5 u6 u7 u8 u9 u10 u11 hbnr g1
   obtain ⟨p6,hp6⟩:∃ p,p=wr.heap.size:=⟨_,rfl⟩
   obtain ⟨w6,hw6⟩:∃ W,W=(wr.alloc (.cells #[.int .u8 i.nd.op,.int .u8 i.nd.bop,.int .i64 i.nd.d,.int .i64 i.nd.e,.int .i64 i.nd.a,.int .i64 i.nd.b,.int .i64 i.nd.f,.int .i64 i.nd.cell,.int .u64 i.nd.imm,.slice i.ao i.nd.args.length i.ac,.int .i64 i.nd.next,.int .i64 i.nd.els] 47)):=⟨_,rfl⟩
   rw [← hp6] at HP6 ⊢
   rw [← hw6] at HB6 HO6 HP6 ⊢
   have hz6:=HB6.out.size
   clear hp6 hw6 HB HO HBW HRI hwz hbz
   go_loopw [7,24] (fun v s wr=>∃ p:Nat,p≤m∧s=.int .i64 p∧Hid (wr.ownsRow w6.heap.size 3 1 v (trueL (liveOB (nds rn) k) p).length (i64c (trueL (liveOB (nds rn) k) p)))∧Hid (Below w6.heap.size w6 wr)) (fun _ s _=>m-(intOf s).toNat)
   case atStart=>exact ⟨0,by omega,rfl,lh (own_none _ _ _ _),lh (Below.refl _ _)⟩
   case round =>
    obtain ⟨p,hp,rfl,HL,HB⟩:=hrel
    obtain ⟨Al,cl,rfl⟩:=own_slice HL.out
    have hbz:=HB.out.size
    by_cases hpm:p<m
    ·have HP:=lh (HP6.out.below HB.out HP6.out.lt)
     have v0:wr.cell? ⟨p6,0,none⟩=some (.int .u8 i.nd.op):=HP.out.cell 0
     have v1:wr.cell? ⟨p6,1,none⟩=some (.int .u8 i.nd.bop):=HP.out.cell 1
     have v2:wr.cell? ⟨p6,2,none⟩=some (.int .i64 i.nd.d):=HP.out.cell 2
     have v3:wr.cell? ⟨p6,3,none⟩=some (.int .i64 i.nd.e):=HP.out.cell 3
     have v4:wr.cell? ⟨p6,4,none⟩=some (.int .i64 i.nd.a):=HP.out.cell 4
     have v5:wr.cell? ⟨p6,5,none⟩=some (.int .i64 i.nd.b):=HP.out.cell 5
     have v6:wr.cell? ⟨p6,6,none⟩=some (.int .i64 i.nd.f):=HP.out.cell 6
     have v7:wr.cell? ⟨p6,7,none⟩=some (.int .i64 i.nd.cell):=HP.out.cell 7
     have v8:wr.cell? ⟨p6,8,none⟩=some (.int .u64 i.nd.imm):=HP.out.cell 8
     have v9:wr.cell? ⟨p6,9,none⟩=some (.slice i.ao i.nd.args.length i.ac):=HP.out.cell 9
     have v10:wr.cell? ⟨p6,10,none⟩=some (.int .i64 i.nd.next):=HP.out.cell 10
     have v11:wr.cell? ⟨p6,11,none⟩=some (.int .i64 i.nd.els):=HP.out.cell 11
     have HNX:=lh (rnext_any i.nd.op i.nd.bop i.nd.d i.nd.e i.nd.a i.nd.b i.nd.f i.nd.cell i.nd.imm i.nd.args i.nd.next i.nd.els i.ao i.nd.args.length i.ac wr HWI.out.o0 HWI.out.o1)
     have htl:=trueL_len (liveOB (nds rn) k) p
     go_wp2_with (go_at_call 33;refine HNX.out.mono ?_;rintro e w11 ⟨A11,c11,rfl,hr11,hc11,hb11⟩;have HR11:=lh hr11;have HB11:=lh (HB.out.trans (hb11.mono hbz));have HL11:=lh (own_kept HL.out fun g hg=>hb11.block g (own_block_le HL.out hg).2);clear hr11 hb11)
     clear v0 v1 v2 v3 v4 v5 v6 v7 v8 v9 v10 v11
     obtain ⟨l,hl⟩:∃ l,l=(nextsOf ⟨i.nd.op,i.nd.bop,i.nd.d,i.nd.e,i.nd.a,i.nd.b,i.nd.f,i.nd.cell,i.nd.imm,i.nd.args,i.nd.next,i.nd.els⟩).length:=⟨_,rfl⟩
     rw [← hl] at HR11 hc11 ⊢
     have HLX:Hid ((nextsOf i.nd).length=l):=lh hl.symm
     have hl2:l≤2:=by rw [hl];exact nexts_len _
     have HR12:Hid (Reads w11 w11.heap.size 1 A11 l (i64c (nextsOf i.nd))):=lh HR11.out
     have HOI11:=lh (HOI.out.on (HB6.out.trans (HB11.out.mono hz6)))
     have hz11:=HB11.out.size
     clear hl HNX HR11 HL HB HP hbz
     go_loopw [30,9] (fun s t wr=>∃ j:Nat,j≤l∧s=.int .i64 j∧t=.bool (anyO (nds rn) m i.nd p j)∧wr=w11) (fun s _ _=>l-(intOf s).toNat)
     case atStart=>exact ⟨0,by omega,rfl,rfl,rfl⟩
     case round =>
      obtain ⟨j,hj,rfl,rfl,hwr⟩:=hrel
      rw [hwr]
      clear hwr
      by_cases hjl:j<l
      ·obtain ⟨bx,ox,x,hxe,hbx,HXX,x1⟩:=HR12.out.int hjl
       obtain ⟨hx0,hx1⟩:=HXV.out x (List.mem_of_getElem? HXX.out)
       obtain ⟨y,rfl⟩:∃ y:Nat,x=(y:Int):=⟨x.toNat,by omega⟩
       have hy:y<n:=by omega
       have HSU:=lh (anyO_succ (ns:=nds rn) (m:=m) (p:=p) HXX.out)
       rw [Int.toNat_natCast] at HSU
       obtain ⟨Ay,cy,hsy⟩:=own_slice (HOI11.out.own y hy)
       obtain ⟨bo,oo,hoe,hbo,hco⟩:=(Reads.of_own HOI11.out.out).lit (by omega) (by omega)
       have ra:w11.cell? ⟨bo,oo+y,none⟩=some (.slice Ay (liveL (nds rn) m y).length cy):=by rw [← hsy];exact hco y _ (range_at vi hy)
       have HIN:=lh (in_any w11.heap.size Ay _ cy (liveL (nds rn) m y) p w11 (by
        have h:=HOI11.out.own y hy
        rw [hsy] at h
        exact Reads.of_own h) rfl (by have:=liveL_le (nds rn) m y;omega))
       have HXE:=lh hxe
       have HOE:=lh hoe
       rw [hxe,hoe]
       clear hxe hoe hx0 hx1 HXX hsy hco
       rcases hak:anyO (nds rn) m i.nd p j with _ | _
       ·rw [hak] at HSU
        by_cases hmem:(p:Int) ∈ liveL (nds rn) m y
        ·have H1:Hid (decide ((p:Int) ∈ liveL (nds rn) m y)=true):=lh (decide_eq_true hmem)
         rw [H1.out] at HSU HIN
         clear hak hmem
         go_wp2_with (go_at_call 31;refine HIN.out.mono ?_;rintro e w12 ⟨rfl,hw12⟩;rw [hw12];clear hw12)
         go_roundw
         case rel=>exact ⟨j+1,by omega,by go_num,by rw [HSU.out];rfl,by first | rfl | trivial⟩
         case measure=>simp [intOf];omega
        ·have H1:Hid (decide ((p:Int) ∈ liveL (nds rn) m y)=false):=lh (decide_eq_false hmem)
         rw [H1.out] at HSU HIN
         clear hak hmem
         go_wp2_with (go_at_call 31;refine HIN.out.mono ?_;rintro e w12 ⟨rfl,hw12⟩;rw [hw12];clear hw12)
         go_roundw
         case rel=>exact ⟨j+1,by omega,by go_num,by rw [HSU.out];rfl,by first | rfl | trivial⟩
         case measure=>simp [intOf];omega
       ·rw [hak] at HSU
        clear hak
        go_wp2
        go_roundw
        case rel=>exact ⟨j+1,by omega,by go_num,by rw [HSU.out];rfl,by first | rfl | trivial⟩
        case measure=>simp [intOf];omega
      ·have hru:anyO (nds rn) m i.nd p j=liveOB (nds rn) k p:=anyO_all HXN.out (fun x hx=>(HXV.out x hx).1) hpm (by rw [HLX.out];omega)
       have HSU:=lh (trueL_succ (liveOB (nds rn) k) p)
       rw [hru]
       rcases hik:liveOB (nds rn) k p with _ | _
       ·rw [hik] at HSU
        clear hik hru
        go_wp2
        go_roundw
        case rel=>exact ⟨p+1,by omega,by go_num,by rw [HSU.out,if_neg (by decide),List.append_nil];exact HL11,HB11⟩
        case measure=>simp [intOf];omega
       ·rw [hik] at HSU
        clear hik hru
        go_wp2_with (at_builtin;refine app_int rfl (.tmp 45) (.tmp 47) rfl w6.heap.size _ _ _ rfl (own_alloc HL11.out _) (w11.heap.size+1) (some ⟨w11.heap.size,0,none⟩) 1 1 [.int .i64 p] rfl (one_reads w11 _ _ 1 rfl) (ints_oneCell .i64 [(p:Int)]) (by omega) (by simp;omega) ?_;intro v' w8 hown hgr hor;have HO8:=lh hown;have HB8:Hid (Below w6.heap.size w6 w8):=lh ((HB11.out.alloc hz11 _).grown hgr (by simp;omega) fun g hg=>(own_block_le HL11.out hg).1);clear hown hgr hor)
        go_roundw
        case rel =>
         refine ⟨p+1,by omega,by go_num,?_,HB8⟩
         rw [HSU.out,if_pos rfl,i64c_append,List.length_append]
         exact HO8
        case measure=>simp [intOf];omega
    ·have hpe:p=m:=by omega
     rw [hpe,liveOB_list] at HL ⊢
     have HO9:=lh (HO6.out.on HB.out)
     have HL9:Hid (wr.ownsRow w1.heap.size 3 1 (.slice Al (liveOL (nds rn) m k).length cl) (liveOL (nds rn) m k).length (i64c (liveOL (nds rn) m k))):=lh (own_more HL.out hz6)
     have HB9:=lh (HB6.out.trans (HB.out.mono hz6))
     have hz9:=HB9.out.size
     go_wp2_with (at_builtin;refine app_rows rfl (.tmp 50) (.tmp 52) rfl w1.heap.size (.slice Ao k co) k ((List.range k).map vs) rfl (own_alloc HO9.out.out _) (wr.heap.size+1) (some ⟨wr.heap.size,0,none⟩) 1 1 [.slice Al (liveOL (nds rn) m k).length cl] rfl (one_reads wr _ _ 1 rfl) (fun u hu=>by rw [List.mem_singleton.1 hu];rfl) (by omega) (by simp;omega) ?_;intro v' w8 hown hgr hor;have HO8:=lh (HO9.out.push HL9.out hown hgr);have HB8:Hid (Below w1.heap.size w1 w8):=lh ((HB9.out.alloc hz9 _).grown hgr (by simp;omega) fun g hg=>(own_block_le HO9.out.out hg).1);clear hown hgr hor)
     go_roundw
     case rel=>exact ⟨k+1,_,by omega,by go_num,HB8,HO8⟩
     case measure=>simp [intOf];omega
  ·have hkn:k=n:=by omega
   rw [hkn] at HO ⊢
   go_wp2
   go_ret
   exact ⟨HW1.out.trans (HB.out.mono hz1),Ao,co,vs,rfl,own_more HO.out.out hz1,fun i hi=>own_more (HO.out.own i hi) hz1⟩
end Go.Proofs.YtedmcfaghfgpoaaGreatDoor
